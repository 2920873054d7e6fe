/- Of. -/
import Derived.Test.YtmjcikomcnokkaaDoorXRow
namespace Go.Proofs.YtmjcikomcnokkaaDoor
open Go.RowKit

theorem Is.plain {w : World} {ao : Option Addr} {n c : Nat} {d : Array (List Int)} (h : Is w (.slice ao n c) d) (h0 : 0 < d.size) : ∃ b off, ao = some ⟨b, off, none⟩ ∧ ∀ W, Below w.heap.size w W → ∀ i, i < d.size → (loadVar 23 ⟨b, off + i * 20, none⟩).run Tryd.prog W = .ok (idv d[i]!) W := by
  obtain ⟨ao', c', e, h1, h2, h3⟩ := h.sh
  injection e with e1 e2 e3
  subst e1
  cases ao with
  | none => have := (h2 rfl).1; omega
  | some ad =>
    obtain ⟨b, off, spot⟩ := ad
    have hc := h3 _ rfl 0 h0 0 (by omega)
    have hspot : spot = none := by simpa [Addr.add] using World.cell?_spot hc
    subst hspot
    refine ⟨b, off, rfl, fun W hW i hi => ?_⟩
    have hr : W.rangeAt b (off + i * 20) (vals (cl d[i]!) 20) := by
      intro j u hu
      have hj : j < 20 := by
        have := (List.getElem?_eq_some_iff.1 hu).1
        rwa [vals_len] at this
      rw [vals_get _ _ _ hj] at hu
      cases hu
      have := h3 _ rfl i hi j hj
      rw [Addr.add_lit] at this
      rw [hW.cell (World.block_lt_of_cell? w _ (by rw [Nat.add_assoc]; exact this)), Nat.add_assoc]
      exact this
    rw [run_loadVar_mid W b (off + i * 20) 23 _ _ hr Tryd.underlying23 rfl (by rw [vals_len]; exact size23)]

/-- The first k names of a row. -/
def fst (d : Array (List Int)) (k : Nat) : Array (List Int) := d.extract 0 k

theorem fst_push (d : Array (List Int)) (k : Nat) (hk : k < d.size) : (fst d k).push d[k]! = fst d (k + 1) := by
  unfold fst
  rw [getElem!_pos d k hk]
  exact Array.push_extract_getElem hk

set_option maxRecDepth 100000 in
set_option maxHeartbeats 2000000 in
theorem of_any (ao : Option Addr) (n c : Nat) (d : Array (List Int)) (w : World) (h : Is w (.slice ao n c) d) (hn : d.size = n) (hlim : n < 100000) :
    Calls Tryd.prog 15 #[.slice ao n c] w fun e w' => ∃ v, e = .returned v ∧ Dn w.heap.size w' v d ∧ Below w.heap.size w w' := by
  have HI : Hid (∀ i, i < d.size → IsId d[i]!) := h.ids
  have HP : Hid (0 < d.size → ∃ b off, ao = some ⟨b, off, none⟩ ∧ ∀ W, Below w.heap.size w W → ∀ i, i < d.size → (loadVar 23 ⟨b, off + i * 20, none⟩).run Tryd.prog W = .ok (idv d[i]!) W) := fun h0 => h.plain h0
  have HN : Hid (d.size = n) := hn
  clear h hn
  go_enter Tryd.func15, Tryd.ntmps15
  go_wp2_with fail
  go_loopw [3, 4] (fun s3 s4 wr => ∃ k : Nat, s4 = .int .i64 k ∧ k ≤ n ∧ Hid (Dn w.heap.size wr s3 (fst d k)) ∧ Hid (Below w.heap.size w wr))
    (fun _ s4 _ => n - (intOf s4).toNat)
  case atStart => exact ⟨0, rfl, Nat.zero_le _, by show Dn _ _ _ (d.extract 0 0); rw [show d.extract 0 0 = #[] by simp]; exact dn_nil _ _, Below.refl _ _⟩
  case round =>
    obtain ⟨k, rfl, hkn, HD, HB⟩ := hrel
    by_cases hlt : k < n
    · have hq : (k : Int) < (n : Int) := by omega
      obtain ⟨b, off, rfl, hld⟩ := HP.out (by rw [HN.out]; omega)
      have hld' := hld wr HB.out k (by rw [HN.out]; exact hlt)
      have hwk : IntKind.i64.wrap ((k : Int) + 1) = (k : Int) + 1 := by rw [IntKind.wrap_i64]; omega
      have hps := fst_push d k (by rw [HN.out]; exact hlt)
      have hid := HI.out k (by rw [HN.out]; exact hlt)
      obtain ⟨x, hx⟩ : ∃ x, d[k]! = x := ⟨_, rfl⟩
      rw [hx] at hld' hps hid
      have HS : Hid ((fst d k).push x = fst d (k + 1)) := hps
      have hsz : (fst d k).size < 100000 := by unfold fst; simp; have := HN.out; omega
      have HBs := HB.out.size
      have HLT : Hid (k < n) := hlt
      clear hld hx hps hkn
      go_wp2_with (first
        | (refine wpList_ldv rfl 23 _ rfl ⟨b, off + k * 20, none⟩ rfl (idv x) hld' ?_; clear hld')
        | (refine wpList_bs1 rfl _ rfl x rfl ?_; intro w1 hw1; have HW1 : Hid _ := hw1; clear hw1)
        | (refine wpList_app1 (w0 := wr) rfl _ _ rfl w.heap.size _ (fst d k) x hid rfl rfl HW1.out HD.out hsz HBs ?_; intro v' w' g1 g2; rw [HS.out] at g1; have G1 : Hid _ := g1; have G2 : Hid (Below w.heap.size w w') := HB.out.trans g2; clear g1 g2))
      exact ⟨⟨k + 1, by simp, HLT.out, G1, G2⟩, by simp [intOf]; have := HLT.out; omega⟩
    · obtain rfl : k = n := by omega
      have hq : ¬ (k : Int) < (k : Int) := by omega
      have HF : Hid (Dn w.heap.size wr u3 d) := by
        have := HD.out
        rwa [show fst d k = d by unfold fst; rw [← HN.out]; simp] at this
      clear HD
      go_wp2_with fail
      go_ret
      exact ⟨_, rfl, HF.out, HB.out⟩

end Go.Proofs.YtmjcikomcnokkaaDoor
