/- apply. -/
import Derived.Test.YthaibdflehnbbaaWWin
namespace Go.Proofs.Ythaibdflehnbbaa
open Go.RowKit

theorem mks_take (b : List Int) (l : List Op) (k : Nat) (hk : k < l.length) : mks b (l.take (k + 1)) = mks b (l.take k) ++ mk1 b (l.getD k oz) := by
  rw [take_snoc l oz k hk, mks_app, mks_one]

theorem tot_le (l : List Op) (k : Nat) (h : ∀ o ∈ l, okr o) : tot (l.take k) ≤ tot l := by
  have e := tot_app (l.take k) (l.drop k)
  rw [List.take_append_drop] at e
  have := (tot_pos (l.drop k) (fun o ho => h o (List.mem_of_mem_drop ho))).1
  omega

theorem mks_le (b : List Int) (l : List Op) (k : Nat) (h : ∀ o ∈ l, okr o) (hw : wins b.length l) : (mks b (l.take k)).length ≤ (mks b l).length := by
  have h1 := mks_len b (l.take k) (fun o ho => h o (List.mem_of_mem_take ho)) (fun o ho => hw o (List.mem_of_mem_take ho))
  have h2 := mks_len b l h hw
  have := tot_le l k h
  omega

theorem mks_byt (b : List Int) (hb : ∀ x ∈ b, 0 ≤ x ∧ x < 256) (l : List Op) (h : ∀ o ∈ l, okr o) : ∀ x ∈ mks b l, 0 ≤ x ∧ x < 256 := by
  intro x hx
  obtain ⟨o, ho, hxo⟩ := List.mem_flatMap.1 hx
  exact mk1_byt b hb o (h o ho) x hxo

theorem mk1_copy (b : List Int) (f n : Int) (d : List Int) : mk1 b ⟨true, f, n, d⟩ = (b.drop f.toNat).take n.toNat := rfl
theorem mk1_put (b : List Int) (f n : Int) (d : List Int) : mk1 b ⟨false, f, n, d⟩ = d := rfl

set_option maxRecDepth 100000 in
set_option maxHeartbeats 1000000 in
theorem apply_ops (ao : Option Addr) (n c : Nat) (xs : List MO) (l : List Op) (bo : Option Addr) (N C : Nat) (bs : List Int) (S : Nat) (w : World) (h : Os w ao n xs l) (hb : Rd w bo N C bs) (hn : n ≤ 1000000) (hN : N ≤ 1000000000) (hk : ∀ o ∈ l, okr o) (hw : wins N l) (hS : S ≤ 1000000000000) (hm : tot l = S) :
    Calls Try.prog 26 #[.slice ao n c, .slice bo N C, .int .i64 S] w fun e w' => ∃ g cap, e = .returned (.slice (some ⟨g, 0, none⟩) S cap) ∧ w'.ownsRow w.heap.size 5 1 (.slice (some ⟨g, 0, none⟩) S cap) S ((mks bs l).map (Value.int .u8)) ∧ Below w.heap.size w w' := by
  obtain ⟨i0, hi, hz0, hz1, hz2⟩ := info_parts Try.info5
  have hlen := h.len
  have hbl := hb.len
  have HT : Hid (Os w ao n xs l) := h
  have HB : Hid (Rd w bo N C bs) := hb
  have HK : Hid (∀ o ∈ l, okr o) := hk
  have HW : Hid (wins N l) := hw
  have HM : Hid ((mks bs l).length = S) := by
    have := mks_len bs l hk (by rw [hbl]; exact hw)
    show _ = _
    omega
  clear h hb hk hw hm
  go_enter Try.func26, Try.ntmps26
  go_wp2_with (first
    | (at_make; refine wpList_make_own _ rfl _ _ 22 rfl w.heap.size 5 i0 (.int .u8 0) 1 Try.underlying22 hi hz0 hz1 _ _ _ S rfl rfl (by omega) (by rw [hz2]; omega) (by unfold maxLen; omega) (Nat.le_refl _) ?_; intro w1 hown hgrow))
  have B1 : Hid (Below w.heap.size w w1) := (Below.refl _ _).grown hgrow (Nat.le_refl _) (fun k hk => by cases hk)
  have O1 : Hid (w1.ownsRow w.heap.size 5 1 (.slice (some ⟨w.heap.size, 0, none⟩) 0 S) 0 (([] : List Int).map (Value.int .u8))) := hown
  clear hgrow hown
  go_loopw [7, 14] (fun o i wr => ∃ k m g cap : Nat, k ≤ n ∧ i = .int .i64 k ∧ o = .slice (some ⟨g, 0, none⟩) m cap ∧ Hid ((mks bs (l.take k)).length = m) ∧ Hid (wr.ownsRow w.heap.size 5 1 (.slice (some ⟨g, 0, none⟩) m cap) m ((mks bs (l.take k)).map (Value.int .u8))) ∧ Hid (Below w.heap.size w wr)) (fun _ i _ => n - (intOf i).toNat)
  case atStart => exact ⟨0, 0, _, _, by omega, rfl, rfl, rfl, O1, B1⟩
  case round =>
    obtain ⟨k, m, g, cap, hk, rfl, rfl, hm, hown, hb⟩ := hrel
    clear O1 B1
    by_cases hlt : k < n
    · have ho := HT.out.keep (hb.out.mono (Nat.le_refl _))
      have hmem := HK.out _ (HT.out.at k hlt)
      have hwin := HW.out _ (HT.out.at k hlt)
      obtain ⟨b, off, rfl, h0, h1, h2, h3⟩ := ho.cells k hlt
      have his := ho.is k hlt
      have HE : Hid (mks bs (l.take (k + 1)) = mks bs (l.take k) ++ mk1 bs (l.getD k oz)) := mks_take bs l k (by omega)
      have HL : Hid ((mks bs (l.take (k + 1))).length ≤ S) := by have := mks_le bs l (k + 1) HK.out (by rw [hbl]; exact HW.out); have := HM.out; show _ ≤ _; omega
      have hsz := mk1_len bs _ hmem (by rw [hbl]; exact hwin)
      have hsb := hmem.size
      clear ho
      generalize xs.getD k mz = x at *
      generalize l.getD k oz = o at *
      obtain ⟨e1, e2, e3, hrd⟩ := his
      have hp := hmem.pos
      obtain ⟨xc, xf, xn, xa, xm, xk⟩ := x
      obtain ⟨oc, of, on, od⟩ := o
      simp only at e1 e2 e3 h0 h1 h2 h3 hp hrd
      subst e1 e2 e3
      have hlp : m + (mk1 bs ⟨xc, xf, xn, od⟩).length ≤ S := by have h1 := HL.out; have h2 := hm.out; rw [HE.out, List.length_append] at h1; omega
      have HR : Hid (Rd (wr.alloc (.cells #[.bool xc, .int .i64 xf, .int .i64 xn, .slice xa xm xk] 42)) xa xm xk od) := hrd.keep (new_below _ _)
      have HBB : Hid (Rd (wr.alloc (.cells #[.bool xc, .int .i64 xf, .int .i64 xn, .slice xa xm xk] 42)) bo N C bs) := (HB.out.keep hb.out).keep (new_below _ _)
      have OO : Hid ((wr.alloc (.cells #[.bool xc, .int .i64 xf, .int .i64 xn, .slice xa xm xk] 42)).ownsRow w.heap.size 5 1 (.slice (some ⟨g, 0, none⟩) m cap) m ((mks bs (l.take k)).map (Value.int .u8))) := hown.out.alloc _
      have B2 : Hid (Below w.heap.size w (wr.alloc (.cells #[.bool xc, .int .i64 xf, .int .i64 xn, .slice xa xm xk] 42))) := hb.out.alloc hb.out.size _
      have hpg := own_base hown.out
      cases xc with
      | true =>
        rw [mk1_copy] at HE hlp
        have hwn : xf + xn ≤ N := hwin rfl
        have hp0 := hp.1
        have hp1 := hp.2.1
        obtain ⟨F, rfl⟩ : ∃ F : Nat, xf = F := ⟨xf.toNat, by omega⟩
        obtain ⟨M, rfl⟩ : ∃ M : Nat, xn = M := ⟨xn.toNat, by omega⟩
        simp only [Int.toNat_natCast] at HE hlp
        have hl2 : ((bs.drop F).take M).length = M := by simp; omega
        rw [hl2] at hlp
        have hF : F + M ≤ N := by omega
        have HH : Hid (m + M ≤ S) := hlp
        clear hmem hwin hsz hsb hrd HR hp hown hb hl2 hlp hp0 hp1
        go_wp2_with (first
          | (refine wpList_sub rfl _ _ _ rfl HBB.out F M hF rfl (.inl rfl) (.inl (by rw [Int.natCast_add]; rfl)) ?_; intro ao2 c2 hr2 hs2)
          | (at_builtin; refine wpList_append_rd rfl _ _ rfl w.heap.size g m cap _ rfl OO.out ao2 M c2 _ rfl hr2 (by have := HH.out; omega) B2.out.size ?_; intro g5 c5 w5 o5 gr5))
        have B5 : Hid (Below w.heap.size w w5) := B2.out.grown gr5 B2.out.size (fun q hq => by cases hq; exact hpg)
        have O5 : Hid (w5.ownsRow w.heap.size 5 1 (.slice (some ⟨g5, 0, none⟩) (m + M) c5) (m + M) ((mks bs (l.take (k + 1))).map (Value.int .u8))) := by rw [HE.out]; exact o5
        have M5 : Hid ((mks bs (l.take (k + 1))).length = m + M) := by have := o5.1; rw [← HE.out] at this; show _ = _; simpa using this
        clear o5 gr5 hr2 hs2 HE OO B2 HBB
        go_roundw
        case rel => exact ⟨k + 1, m + M, g5, c5, by omega, by go_num, rfl, M5, O5, B5⟩
        case measure => simp [intOf]; omega
      | false =>
        rw [mk1_put] at HE hlp
        have hl := hrd.len
        have HH : Hid (m + xm ≤ S) := by show _ ≤ _; omega
        clear hmem hwin hsz hsb hrd hp hown hb hlp hl
        go_wp2_with (first
          | (at_builtin; refine wpList_append_rd rfl _ _ rfl w.heap.size g m cap _ rfl OO.out xa xm xk _ rfl HR.out (by have := HH.out; omega) B2.out.size ?_; intro g5 c5 w5 o5 gr5))
        have B5 : Hid (Below w.heap.size w w5) := B2.out.grown gr5 B2.out.size (fun q hq => by cases hq; exact hpg)
        have O5 : Hid (w5.ownsRow w.heap.size 5 1 (.slice (some ⟨g5, 0, none⟩) (m + xm) c5) (m + xm) ((mks bs (l.take (k + 1))).map (Value.int .u8))) := by rw [HE.out]; exact o5
        have M5 : Hid ((mks bs (l.take (k + 1))).length = m + xm) := by have := o5.1; rw [← HE.out] at this; show _ = _; simpa using this
        clear o5 gr5 HE OO B2 HBB HR
        go_roundw
        case rel => exact ⟨k + 1, m + xm, g5, c5, by omega, by go_num, rfl, M5, O5, B5⟩
        case measure => simp [intOf]; omega
    · obtain rfl : k = n := by omega
      have e : l.take k = l := by rw [← hlen, List.take_length]
      rw [e] at hown hm
      have e2 : m = S := by have := hm.out; have := HM.out; omega
      subst e2
      go_wp2
      go_ret
      exact ⟨g, cap, rfl, hown.out, hb.out⟩

end Go.Proofs.Ythaibdflehnbbaa
