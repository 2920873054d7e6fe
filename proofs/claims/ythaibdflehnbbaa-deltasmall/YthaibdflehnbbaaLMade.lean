/- DeltaMade. -/
import Derived.Test.YthaibdflehnbbaaXApply
namespace Go.Proofs.Ythaibdflehnbbaa
open Go.RowKit

theorem one_own (w : World) (x : Int) (B : Nat) (hB : B ≤ w.heap.size) : (w.alloc (.cells #[.int .u8 x] 5)).ownsRow B 5 1 (.slice (some ⟨w.heap.size, 0, none⟩) 1 1) 1 ([x].map (Value.int .u8)) :=
  World.ownsRow_lit (base := B) (e := 5) (size := 1) w #[.int .u8 x] 1 hB (by unfold maxLen; omega) rfl

theorem apy_made_less {bs ts : List Int} {l : List Op} {N M : Nat} {most : Int} (h : Made bs ts l) (hN : bs.length = N) (hm : most < M) (h65 : N ≤ 65536) (h66 : M ≤ 65536) : apy bs (prt N M l) most = ([], 5) := by
  have hp := prs_prt (N : Int) (M : Int) l (by omega) (by omega) (by omega) (by omega) h.good.ok
  exact apy_long bs (prt N M l) most (by rw [hp]) (by rw [hp, hN]) (by rw [hp]; exact hm)

theorem apy_made_other {bs ts cs : List Int} {l : List Op} {N M : Nat} {most : Int} (h : Made bs ts l) (hN : cs.length ≠ N) (h65 : N ≤ 65536) (h66 : M ≤ 65536) : apy cs (prt N M l) most = ([], 2) := by
  have hp := prs_prt (N : Int) (M : Int) l (by omega) (by omega) (by omega) (by omega) h.good.ok
  exact apy_len cs (prt N M l) most (by rw [hp]) (by rw [hp]; show (N : Int) ≠ _; omega)

theorem made_skip (bo : Option Addr) (N C : Nat) (tg : Option Addr) (M E : Nat) (ef : Int) (w : World) (h : 3000 < N ∨ 3000 < M) :
    Calls Try.prog 5 #[.slice bo N C, .slice tg M E, .int .i64 ef] w fun e w' => e = .returned (.bool true) ∧ Below w.heap.size w w' := by
  by_cases hN : 3000 < N
  · have z : (3000 : Int) < N := by omega
    go_enter Try.func5, Try.ntmps5
    go_wp2_with (first | (go_at_call 9; refine (known_any w).mono ?_; rintro e w1 ⟨rfl, hB⟩))
    go_ret
    exact ⟨rfl, hB⟩
  · have z : (3000 : Int) < M := by omega
    have z2 : (N : Int) ≤ 3000 := by omega
    have z3 : decide ((3000 : Int) < (N : Int)) = false := decide_eq_false (by omega)
    go_enter Try.func5, Try.ntmps5
    go_wp2_with (first | (go_at_call 9; refine (known_any w).mono ?_; rintro e w1 ⟨rfl, hB⟩))
    go_ret
    exact ⟨rfl, hB⟩

set_option maxRecDepth 100000 in
set_option maxHeartbeats 2000000 in
theorem made_go (bo : Option Addr) (N C : Nat) (bs : List Int) (tg : Option Addr) (M E : Nat) (ts : List Int) (ef : Int) (w : World) (hb : Rd w bo N C bs) (ht : Rd w tg M E ts) (hN : N ≤ 3000) (hM : M ≤ 3000) :
    Calls Try.prog 5 #[.slice bo N C, .slice tg M E, .int .i64 ef] w fun e w' => e = .returned (.bool true) ∧ Below w.heap.size w w' := by
  have z1 : decide ((3000 : Int) < (N : Int)) = false := decide_eq_false (by omega)
  have z2 : decide ((3000 : Int) < (M : Int)) = false := decide_eq_false (by omega)
  have hbl := hb.len
  have htl := ht.len
  have HB : Hid (Rd w bo N C bs) := hb
  have HT : Hid (Rd w tg M E ts) := ht
  clear hb ht
  go_enter Try.func5, Try.ntmps5
  go_wp2_with fail
  refine (known_any w).mono ?_
  rintro e w1 ⟨rfl, B1⟩
  have b1 := HB.out.keep B1
  have t1 := HT.out.keep B1
  go_wp2_with fail
  refine (Make_any bo N C bs tg M E ts ef w1 b1 t1 (by omega) (by omega)).mono ?_
  rintro e w2 ⟨v2, l, rfl, hm, o2, g2⟩
  have hl := made_len (N := N) (M := M) hm (by omega)
  have B2 := B1.trans (g2.mono B1.size)
  have b2 := HB.out.keep B2
  have t2 := HT.out.keep B2
  obtain ⟨da, dc, rfl, rd2, _⟩ := own_rd o2 (made_byt hm)
  have hap := apy_made (N := N) (M := M) (most := M) hm hbl htl (by omega) (by omega) (by omega)
  have HM : Hid (Made bs ts l) := hm
  obtain ⟨dn, hdn⟩ : ∃ dn, dn = (prt N M l).length := ⟨_, rfl⟩
  rw [← hdn] at hl rd2 ⊢
  clear hdn b1 t1 o2 g2
  have i3 := rApply_any bo N C bs da dn dc _ (M : Int) w2 b2 rd2 (by omega) (by omega) (by omega)
  rw [hap] at i3
  go_wp2_with fail
  refine i3.mono ?_
  rintro e w3 ⟨v3, rfl, o3, g3⟩
  have B3 := B2.trans (g3.mono B2.size)
  have b3 := HB.out.keep B3
  have t3 := HT.out.keep B3
  have rd3 := rd2.keep g3
  obtain ⟨xa, xc, rfl, x3, _⟩ := own_rd o3 HT.out.byt
  rw [htl] at x3 ⊢
  clear i3 o3
  have i4 := Apply_any bo N C bs da dn dc _ (M : Int) w3 b3 rd3 (by omega) (by omega) (by omega)
  rw [hap] at i4
  go_wp2_with fail
  refine i4.mono ?_
  rintro e w4 ⟨v4, rfl, o4, g4⟩
  have B4 := B3.trans (g4.mono B3.size)
  have b4 := HB.out.keep B4
  have t4 := HT.out.keep B4
  have rd4 := rd3.keep g4
  have x4 := x3.keep g4
  obtain ⟨ya, yc, rfl, y4, _⟩ := own_rd o4 HT.out.byt
  rw [htl] at y4 ⊢
  have sx := x4.str
  have sy := y4.str
  have st := t4.str
  clear i4 o4 x3 b3 t3 rd3 x4 y4 rd2 b2 t2
  by_cases hM0 : M = 0
  · subst hM0
    go_wp2
    go_ret
    exact ⟨rfl, B4⟩
  · have zM : ((M : Int) == 0) = false := by simp; omega
    have i5 := Apply_any bo N C bs da dn dc _ ((M : Int) - 1) w4 b4 rd4 (by omega) (by omega) (by omega)
    rw [apy_made_less HM.out hbl (by omega) (by omega) (by omega)] at i5
    go_wp2_with fail
    refine i5.mono ?_
    rintro e w5 ⟨v5, rfl, o5, g5⟩
    have B5 := B4.trans (g5.mono B4.size)
    have b5 := HB.out.keep B5
    have rd5 := rd4.keep g5
    have bA := b5.keep (new_below w5 (.cells #[.int .u8 1] 5))
    clear i5 o5 sx sy st
    go_wp2_with (first
      | (at_builtin; refine wpList_append_v rfl _ _ rfl w5.heap.size 1 _ [1] rfl (one_own w5 1 _ (Nat.le_refl _)) bo N C bs rfl bA (by omega) (by simp) ?_; intro v6 w6 o6 g6))
    have B6 : Below w5.heap.size w5 w6 := ((Below.refl _ _).alloc (Nat.le_refl _) _).grown g6 (by simp) (fun k hk => by cases hk; exact Nat.le_refl _)
    have hcb : ∀ x ∈ [1] ++ bs, 0 ≤ x ∧ x < 256 := fun x hx => by
      rcases List.mem_append.1 hx with h | h
      · simp at h; omega
      · exact HB.out.byt x h
    obtain ⟨ca, cc, rfl, c6, _⟩ := own_rd o6 hcb
    have rd6 := rd5.keep B6
    have i7 := Apply_any ca (1 + N) cc _ da dn dc _ (M : Int) w6 c6 rd6 (by omega) (by omega) (by omega)
    rw [apy_made_other HM.out (by simp; omega) (by omega) (by omega)] at i7
    clear o6 g6 bA b5 rd5
    refine i7.mono ?_
    rintro e w7 ⟨v7, rfl, o7, g7⟩
    have B7 := B5.trans ((B6.trans (g7.mono B6.size)).mono B5.size)
    clear i7 o7
    go_wp2
    go_ret
    exact ⟨rfl, B7⟩

end Go.Proofs.Ythaibdflehnbbaa
