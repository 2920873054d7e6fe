/- The document's Fanout. -/
import Derived.Test.YtmjcikomcnokkaaDoorXRow
namespace Go.Proofs.YtmjcikomcnokkaaDoor
open Go.RowKit

/-- Counts where the last name is counted from its byte up to i. -/
def fx (d : Array (List Int)) (k : Nat) (i j : Nat) : Int := if j < i then cs d (k + 1) j else cs d k j

theorem Tryd.info3 : (Tryd.prog.info? 3).map (fun i => (i.zero, i.size, i.bytes)) = some (some (.int .i64 0), 1, 8) := by kernel_rfl

theorem fx_first (d : Array (List Int)) (k p : Nat) (hp : bt d[k]! 0 = p) (j : Nat) : fx d k p j = cs d k j := by
  unfold fx
  split
  · rename_i h
    simp only [cs, hp]
    rw [if_neg (by omega), Int.add_zero]
  · rfl

theorem fx_last (d : Array (List Int)) (k : Nat) (j : Nat) (hj : j < 256) : fx d k 256 j = cs d (k + 1) j := by
  unfold fx
  rw [if_pos hj]

set_option maxRecDepth 100000 in
set_option maxHeartbeats 2000000 in
theorem xfan_any (B : Nat) (v : Value) (d : Array (List Int)) (w : World) (h : Dn B w v d) (hsz : d.size < 100000) :
    Calls Tryd.prog 19 #[v] w fun e w' => ∃ g, e = .returned (.slice (some ⟨g, 0, none⟩) 256 256) ∧ w'.rowIs g 3 256 (fun j => .int .i64 (cs d d.size j)) ∧ w.heap.size ≤ g ∧ Below w.heap.size w w' := by
  obtain ⟨ao, c, rfl⟩ := h.shape
  have HP : Hid (0 < d.size → ∃ b, ao = some ⟨b, 0, none⟩ ∧ ∀ W, Below w.heap.size w W → ∀ i, i < d.size → W.cell? ⟨b, i * 20, none⟩ = some (.int .u8 (bt d[i]! 0))) := fun h0 => by
    obtain ⟨b, c', e, _, _, hr⟩ := h.row h0
    injection e with e1 e2 e3
    refine ⟨b, e1, fun W hW i hi => ?_⟩
    obtain ⟨f, h1, h2⟩ := (hr.keep hW).row
    have hle := hr.le
    rw [h1.cell (i := i * 20) (by omega)]
    have := h2 i hi 0 (by omega)
    rw [Nat.add_zero] at this
    rw [this]
    rfl
  have HI : Hid (∀ i, i < d.size → IsId d[i]!) := h.ids
  obtain ⟨n, hn⟩ : ∃ n, d.size = n := ⟨_, rfl⟩
  have HN : Hid (d.size = n) := hn
  rw [hn] at HP HI hsz ⊢
  clear h hn
  obtain ⟨i0, hi, hz0, hz1, hz2⟩ := info_parts Tryd.info3
  go_enter Tryd.func19, Tryd.ntmps19
  go_wp2_with (at_make; (refine wpList_make_full _ rfl _ _ 43 rfl 0 3 i0 (.int .i64 0) 1 Tryd.underlying43 hi hz0 hz1 _ _ _ _ 256 rfl rfl rfl rfl (by rw [hz2]; decide) (by unfold maxLen; omega) (Nat.zero_le _) ?_; intro w1 hown hgrow))
  have b1 : Below w.heap.size w w1 := (Below.refl _ _).grown hgrow (Nat.le_refl _) (fun k e => by cases e)
  have R1 : Hid (w1.rowIs w.heap.size 3 256 (fun j => .int .i64 (cs d 0 j))) := made_rowIs rfl hown
  have HB1 : Hid (Below w.heap.size w w1) := b1
  clear hown hgrow b1 hi hz0 hz1 hz2
  go_loopw [4] (fun s4 wr => ∃ k : Nat, s4 = .int .i64 k ∧ k ≤ n ∧ Hid (wr.rowIs w.heap.size 3 256 (fun j => .int .i64 (cs d k j))) ∧ Hid (Below w.heap.size w wr))
    (fun s4 _ => n - (intOf s4).toNat)
  case atStart => exact ⟨0, rfl, Nat.zero_le _, R1, HB1⟩
  case round =>
    obtain ⟨k, rfl, hkn, HR, HB⟩ := hrel
    clear R1 HB1
    by_cases hlt : k < n
    · have hq : (k : Int) < (n : Int) := by omega
      obtain ⟨b, rfl, hld⟩ := HP.out (by omega)
      have hc := hld wr HB.out k hlt
      have hid := (HI.out k hlt).at 0 (by omega)
      obtain ⟨p, hp⟩ : ∃ p : Nat, bt d[k]! 0 = p := ⟨(bt d[k]! 0).toNat, by omega⟩
      rw [hp] at hc hid
      have hp2 : p < 256 := by omega
      have F1 : Hid (wr.rowIs w.heap.size 3 256 (fun j => .int .i64 (fx d k p j))) := HR.out.congr (fun j hj => by simp only [fx_first d k p hp])
      have HX : Hid (∀ i : Nat, p ≤ i → cs d (k + 1) i = cs d k i + 1) := fun i hi => by
        simp only [cs, hp]
        rw [if_pos (by omega)]
      have hwk : IntKind.i64.wrap ((k : Int) + 1) = (k : Int) + 1 := by rw [IntKind.wrap_i64]; omega
      have HLT : Hid (k < n) := hlt
      have hwp : IntKind.i64.wrap (p : Int) = (p : Int) := by rw [IntKind.wrap_i64]; omega
      have HP2 : Hid (p < 256) := hp2
      clear hld hid hkn HR
      go_wp2_with fail
      go_loopw [5] (fun s5 wr => ∃ i : Nat, s5 = .int .i64 i ∧ p ≤ i ∧ i ≤ 256 ∧ Hid (wr.rowIs w.heap.size 3 256 (fun j => .int .i64 (fx d k i j))) ∧ Hid (Below w.heap.size w wr))
        (fun s5 _ => 256 - (intOf s5).toNat)
      case atStart => exact ⟨p, by first | rfl | simp, Nat.le_refl _, by have := HP2.out; omega, F1, HB⟩
      case round =>
        obtain ⟨i, rfl, hip, hi2, I1, IB⟩ := hrel
        clear F1 HB hc
        by_cases hi : i < 256
        · have hqi : (i : Int) < 256 := by omega
          have cA := I1.out.cell (i := i) hi
          have fz := I1.out.frozen i
          have eA : fx d k i i = cs d k i := by unfold fx; rw [if_neg (Nat.lt_irrefl _)]
          simp only [eA] at cA
          have bA := cs_b d k i
          have hx := HX.out i hip
          have HIi : Hid (i < 256 ∧ p ≤ i) := ⟨hi, hip⟩
          obtain ⟨q, hqe⟩ : ∃ q, cs d k i = q := ⟨_, rfl⟩
          rw [hqe] at cA bA hx
          have J1 : Hid ((wr.setCell ⟨w.heap.size, i, none⟩ (.int .i64 (q + 1))).rowIs w.heap.size 3 256 (fun j => .int .i64 (fx d k (i + 1) j))) := set_row I1.out i _ (fun j hj => by
            unfold fx
            by_cases e : j = i
            · subst e
              rw [if_pos (Nat.lt_succ_self _), if_pos rfl, hx]
            · rw [if_neg e]
              by_cases e2 : j < i
              · rw [if_pos e2, if_pos (by omega)]
              · rw [if_neg e2, if_neg (by omega)])
          have JB : Hid (Below w.heap.size w (wr.setCell ⟨w.heap.size, i, none⟩ (.int .i64 (q + 1)))) := IB.out.trans ((set_fr wr w.heap.size i _).below _ IB.out.size (fun i hi => by omega))
          have hwq : IntKind.i64.wrap (q + 1) = q + 1 := by have := HLT.out; rw [IntKind.wrap_i64]; omega
          have hwi : IntKind.i64.wrap ((i : Int) + 1) = (i : Int) + 1 := by rw [IntKind.wrap_i64]; omega
          clear eA bA hx hqe I1 IB hip hi2
          go_wp2_with fail
          refine ⟨⟨i + 1, by simp, by have := HIi.out; omega, by have := HIi.out; omega, J1, JB⟩, by simp [intOf]; have := HIi.out; omega⟩
        · obtain rfl : i = 256 := by omega
          have hqi : ¬ ((256 : Nat) : Int) < 256 := by omega
          have K1 : Hid (wr.rowIs w.heap.size 3 256 (fun j => .int .i64 (cs d (k + 1) j))) := I1.out.congr (fun j hj => by simp only [fx_last d k j hj])
          clear I1
          go_wp2_with fail
          refine ⟨⟨k + 1, by simp, HLT.out, K1, IB⟩, by simp [intOf]; have := HLT.out; omega⟩
    · obtain rfl : k = n := by omega
      have hq : ¬ (k : Int) < (k : Int) := by omega
      clear HP
      go_wp2_with fail
      go_ret
      exact ⟨_, rfl, HR.out, Nat.le_refl _, HB.out⟩

end Go.Proofs.YtmjcikomcnokkaaDoor
