/- DeltaSmall: the walk. -/
import Derived.Test.YthaibdflehnbbaaLSmall
namespace Go.Proofs.Ythaibdflehnbbaa
open Go.RowKit

theorem small_skip (bo : Option Addr) (N C : Nat) (p : Int) (pa : Option Addr) (M E : Nat) (ef : Int) (w : World) (h : N < 64 ∨ 3000 < N ∨ p < 0 ∨ (N : Int) < p ∨ 10 < M ∨ ef < 1) :
    Calls Try.prog 6 #[.slice bo N C, .int .i64 p, .slice pa M E, .int .i64 ef] w fun e w' => e = .returned (.bool true) ∧ Below w.heap.size w w' := by
  by_cases h1 : N < 64
  · have z : (N : Int) < 64 := by omega
    go_enter Try.func6, Try.ntmps6
    go_wp2_with (first | (go_at_call 9; refine (known_any w).mono ?_; rintro e w1 ⟨rfl, hB⟩))
    go_ret
    exact ⟨rfl, hB⟩
  · have d1 : decide ((N : Int) < 64) = false := decide_eq_false (by omega)
    by_cases h2 : 3000 < N
    · have z : (3000 : Int) < N := by omega
      go_enter Try.func6, Try.ntmps6
      go_wp2_with (first | (go_at_call 9; refine (known_any w).mono ?_; rintro e w1 ⟨rfl, hB⟩))
      go_ret
      exact ⟨rfl, hB⟩
    · have d2 : decide ((3000 : Int) < (N : Int)) = false := decide_eq_false (by omega)
      by_cases h3 : p < 0
      · go_enter Try.func6, Try.ntmps6
        go_wp2_with (first | (go_at_call 9; refine (known_any w).mono ?_; rintro e w1 ⟨rfl, hB⟩))
        go_ret
        exact ⟨rfl, hB⟩
      · have d3 : decide (p < 0) = false := decide_eq_false h3
        by_cases h4 : (N : Int) < p
        · go_enter Try.func6, Try.ntmps6
          go_wp2_with (first | (go_at_call 9; refine (known_any w).mono ?_; rintro e w1 ⟨rfl, hB⟩))
          go_ret
          exact ⟨rfl, hB⟩
        · have d4 : decide ((N : Int) < p) = false := decide_eq_false h4
          by_cases h5 : 10 < M
          · have z : (10 : Int) < M := by omega
            go_enter Try.func6, Try.ntmps6
            go_wp2_with (first | (go_at_call 9; refine (known_any w).mono ?_; rintro e w1 ⟨rfl, hB⟩))
            go_ret
            exact ⟨rfl, hB⟩
          · have d5 : decide ((10 : Int) < (M : Int)) = false := decide_eq_false (by omega)
            have h6 : ef < 1 := by omega
            go_enter Try.func6, Try.ntmps6
            go_wp2_with (first | (go_at_call 9; refine (known_any w).mono ?_; rintro e w1 ⟨rfl, hB⟩))
            go_ret
            exact ⟨rfl, hB⟩

set_option maxRecDepth 100000 in
set_option maxHeartbeats 2000000 in
theorem small_go (bo : Option Addr) (N C : Nat) (bs : List Int) (p : Nat) (pa : Option Addr) (M E : Nat) (ps : List Int) (ef : Int) (w : World) (hb : Rd w bo N C bs) (ht : Rd w pa M E ps) (h1 : 64 ≤ N) (h2 : N ≤ 3000) (h4 : p ≤ N) (h5 : M ≤ 10) (h6 : 1 ≤ ef) :
    Calls Try.prog 6 #[.slice bo N C, .int .i64 p, .slice pa M E, .int .i64 ef] w fun e w' => e = .returned (.bool true) ∧ Below w.heap.size w w' := by
  have d1 : decide ((N : Int) < 64) = false := decide_eq_false (by omega)
  have d2 : decide ((3000 : Int) < (N : Int)) = false := decide_eq_false (by omega)
  have d4 : decide ((N : Int) < (p : Int)) = false := decide_eq_false (by omega)
  have d4n : decide (N < p) = false := decide_eq_false (by omega)
  have d3 : decide ((p : Int) < 0) = false := decide_eq_false (by omega)
  have d5 : decide ((10 : Int) < (M : Int)) = false := decide_eq_false (by omega)
  have d6 : decide (ef < 1) = false := decide_eq_false (by omega)
  have hbl := hb.len
  have htl := ht.len
  have HB : Hid (Rd w bo N C bs) := hb
  have HT : Hid (Rd w pa M E ps) := ht
  have hNC : N ≤ C := hb.le
  obtain ⟨bb, bf, ebo, _⟩ := hb.plain (by omega)
  clear hb ht
  go_enter Try.func6, Try.ntmps6
  go_wp2_with fail
  refine (known_any w).mono ?_
  rintro e w1 ⟨rfl, B1⟩
  have b1 := HB.out.keep B1
  have t1 := HT.out.keep B1
  have bd := b1.keep (drew_keep w1)
  have td := t1.keep (drew_keep w1)
  have s1 := (bd.keep (new_below w1.drew (.cells #[] 5))).sub 0 p (by omega)
  have s2 := bd.sub p (N - p) (by omega)
  have z1 : (p : Int) ≤ N := by omega
  have z2 : (p : Int) ≤ C := by omega
  have z3 : p ≤ C := by omega
  have hC0 : ¬ C = 0 := by omega
  rw [if_neg hC0, ebo, Option.map_some, Addr.add_lit, Nat.add_zero, Nat.sub_zero, List.drop_zero] at s1
  subst ebo
  have own0 := none_own w1.drew w1.heap.size (Nat.le_refl _)
  have hsm : ∀ (t : List Int), t = bs.take p ++ ps ++ bs.drop p → t.length = N + M := fun t ht => by rw [ht]; simp; omega
  by_cases hCp : C = p
  · rw [if_pos hCp] at s2
    have s2' : Rd w1.drew (some ⟨bb, bf, none⟩) (N - p) (C - p) (bs.drop p) := s2.rest hbl
    have hpN : p = N := by omega
    obtain rfl : p = C := hCp.symm
    subst hpN
    rw [Nat.sub_self] at s2'
    clear z1 z2 z3 hNC h4 d4 d4n
    go_wp2_with fail
    go_region_held3 (fun _ => True) (trivial)
      ((first
        | (refine step_append_rd (by rfl) (.tmp 48) (.tmp 51) (by rfl) w1.heap.size g3 (p + M) c3 (bs.take p ++ ps) (by rfl) o3 (some ⟨bb, bf, none⟩) 0 0 (bs.drop p) (by rfl) (s2'.keep b3) (by omega) b3.size (p + M) rfl _ rfl ?_; intro g4 c4 w4 o4 gr4; have b4 : Below w1.heap.size w1.drew w4 := b3.grown gr4 b3.size (fun q hq => by cases hq; exact own_base o3))
        | (refine step_append_rd (by rfl) (.tmp 46) (.tmp 47) (by rfl) w1.heap.size g2 p c2 (bs.take p) (by rfl) o2 pa M E ps (by rfl) (td.keep b2) (by omega) b2.size (p + M) rfl _ rfl ?_; intro g3 c3 w3 o3 gr3; have b3 : Below w1.heap.size w1.drew w3 := b2.grown gr3 b2.size (fun q hq => by cases hq; exact own_base o2))
        | (refine step_append_rd (by rfl) (.tmp 42) (.tmp 45) (by rfl) w1.heap.size w1.heap.size 0 0 [] (by rfl) own0 (some ⟨bb, bf, none⟩) p p (bs.take p) (by rfl) s1 (by omega) (by simp) p (by omega) (bs.take p) rfl ?_; intro g2 c2 w2 o2 gr2; have b2 : Below w1.heap.size w1.drew w2 := alloc_grown (w3 := w1.drew) gr2)))
    have B4 : Below w.heap.size w w4 := (B1.trans ((drew_keep w1).mono B1.size)).trans (b4.mono B1.size)
    obtain ⟨T, hT⟩ : ∃ T, T = bs.take p ++ ps ++ bs.drop p := ⟨_, rfl⟩
    have hTby : ∀ x ∈ T, 0 ≤ x ∧ x < 256 := fun x hx => by
      rw [hT] at hx
      rcases List.mem_append.1 hx with hx | hx
      · rcases List.mem_append.1 hx with hx | hx
        · exact HB.out.byt x (List.mem_of_mem_take hx)
        · exact HT.out.byt x hx
      · exact HB.out.byt x (List.mem_of_mem_drop hx)
    have hTl : T.length = p + M := by rw [hT]; simp; omega
    rw [← hT] at o4
    have hbnd := small_bound bs ps p (by omega) (by omega) (by omega) T hT
    have t4 := Rd.ofOwn o4 hTby
    have b4' := HB.out.keep B4
    obtain ⟨q, hq⟩ : ∃ q, q = p + M := ⟨_, rfl⟩
    rw [← hq] at t4 hTl ⊢
    have hq3 : q ≤ 3010 := by omega
    clear hq o4 gr4 gr3 gr2 b4 b3 b2 o3 o2 s1 s2 s2' own0 td bd t1 b1 hT hsm
    go_wp2_with fail
    refine (Make_any _ p p bs _ q c4 T ef w4 b4' t4 (by omega) (by omega)).mono ?_
    rintro e w5 ⟨v5, l, rfl, hm, o5, g5⟩
    have hl := made_len (N := p) (M := q) hm (by omega)
    have B5 := B4.trans (g5.mono B4.size)
    have b5 := HB.out.keep B5
    have t5 := t4.keep g5
    obtain ⟨da, dc, rfl, rd5, _⟩ := own_rd o5 (made_byt hm)
    have hap := apy_made (N := p) (M := q) (most := q) hm hbl hTl (by omega) (by omega) (by omega)
    have hsml := hm.small
    have hcost : (prt p q l).length ≤ 60 := by
      have e1 := sz_two (p : Int) (by omega)
      have e2 := sz_two (q : Int) (by omega)
      unfold prt
      simp only [List.length_append]
      rw [hTl] at hsml hbnd
      omega
    obtain ⟨dn, hdn⟩ : ∃ dn, dn = (prt p q l).length := ⟨_, rfl⟩
    rw [← hdn] at hl rd5 hcost ⊢
    clear hdn o5 g5 hsml hbnd
    have i6 := rApply_any _ p p bs da dn dc _ (q : Int) w5 b5 rd5 (by omega) (by omega) (by omega)
    rw [hap] at i6
    go_wp2_with fail
    refine i6.mono ?_
    rintro e w6 ⟨v6, rfl, o6, g6⟩
    have B6 := B5.trans (g6.mono B5.size)
    obtain ⟨xa, xc, rfl, x6, _⟩ := own_rd o6 hTby
    rw [hTl] at x6 ⊢
    have sx := x6.str
    have st := (t5.keep g6).str
    have hdiv : (q : Int) / 3000 = ((q / 3000 : Nat) : Int) := by omega
    have h60 : (dn : Int) ≤ 60 + (q : Int) / 3000 := by omega
    have h60d : decide ((dn : Int) ≤ 60 + (q : Int) / 3000) = true := decide_eq_true h60
    clear i6 o6 x6 t4 t5 b4' b5 rd5 hap hdiv
    go_wp2
    go_ret
    exact ⟨rfl, B6⟩
  · rw [if_neg hCp, Option.map_some, Addr.add_lit] at s2
    have s2' : Rd w1.drew (some ⟨bb, bf + p, none⟩) (N - p) (C - p) (bs.drop p) := s2.rest hbl
    go_wp2_with fail
    go_region_held3 (fun _ => True) (trivial)
      ((first
        | (refine step_append_rd (by rfl) (.tmp 48) (.tmp 51) (by rfl) w1.heap.size g3 (p + M) c3 (bs.take p ++ ps) (by rfl) o3 (some ⟨bb, bf + p, none⟩) (N - p) (C - p) (bs.drop p) (by rfl) (s2'.keep b3) (by omega) b3.size (p + M + (N - p)) rfl _ rfl ?_; intro g4 c4 w4 o4 gr4; have b4 : Below w1.heap.size w1.drew w4 := b3.grown gr4 b3.size (fun q hq => by cases hq; exact own_base o3))
        | (refine step_append_rd (by rfl) (.tmp 46) (.tmp 47) (by rfl) w1.heap.size g2 p c2 (bs.take p) (by rfl) o2 pa M E ps (by rfl) (td.keep b2) (by omega) b2.size (p + M) rfl _ rfl ?_; intro g3 c3 w3 o3 gr3; have b3 : Below w1.heap.size w1.drew w3 := b2.grown gr3 b2.size (fun q hq => by cases hq; exact own_base o2))
        | (refine step_append_rd (by rfl) (.tmp 42) (.tmp 45) (by rfl) w1.heap.size w1.heap.size 0 0 [] (by rfl) own0 (some ⟨bb, bf, none⟩) p C (bs.take p) (by rfl) s1 (by omega) (by simp) p (by omega) (bs.take p) rfl ?_; intro g2 c2 w2 o2 gr2; have b2 : Below w1.heap.size w1.drew w2 := alloc_grown (w3 := w1.drew) gr2)))
    have B4 : Below w.heap.size w w4 := (B1.trans ((drew_keep w1).mono B1.size)).trans (b4.mono B1.size)
    obtain ⟨T, hT⟩ : ∃ T, T = bs.take p ++ ps ++ bs.drop p := ⟨_, rfl⟩
    have hTby : ∀ x ∈ T, 0 ≤ x ∧ x < 256 := fun x hx => by
      rw [hT] at hx
      rcases List.mem_append.1 hx with hx | hx
      · rcases List.mem_append.1 hx with hx | hx
        · exact HB.out.byt x (List.mem_of_mem_take hx)
        · exact HT.out.byt x hx
      · exact HB.out.byt x (List.mem_of_mem_drop hx)
    have hTl : T.length = p + M + (N - p) := by rw [hT]; simp; omega
    rw [← hT] at o4
    have hbnd := small_bound bs ps p (by omega) (by omega) (by omega) T hT
    have t4 := Rd.ofOwn o4 hTby
    have b4' := HB.out.keep B4
    obtain ⟨q, hq⟩ : ∃ q, q = p + M + (N - p) := ⟨_, rfl⟩
    rw [← hq] at t4 hTl ⊢
    have hq3 : q ≤ 3010 := by omega
    clear hq o4 gr4 gr3 gr2 b4 b3 b2 o3 o2 s1 s2 s2' own0 td bd t1 b1 hT hsm
    go_wp2_with fail
    refine (Make_any _ N C bs _ q c4 T ef w4 b4' t4 (by omega) (by omega)).mono ?_
    rintro e w5 ⟨v5, l, rfl, hm, o5, g5⟩
    have hl := made_len (N := N) (M := q) hm (by omega)
    have B5 := B4.trans (g5.mono B4.size)
    have b5 := HB.out.keep B5
    have t5 := t4.keep g5
    obtain ⟨da, dc, rfl, rd5, _⟩ := own_rd o5 (made_byt hm)
    have hap := apy_made (N := N) (M := q) (most := q) hm hbl hTl (by omega) (by omega) (by omega)
    have hsml := hm.small
    have hcost : (prt N q l).length ≤ 60 := by
      have e1 := sz_two (N : Int) (by omega)
      have e2 := sz_two (q : Int) (by omega)
      unfold prt
      simp only [List.length_append]
      rw [hTl] at hsml hbnd
      omega
    obtain ⟨dn, hdn⟩ : ∃ dn, dn = (prt N q l).length := ⟨_, rfl⟩
    rw [← hdn] at hl rd5 hcost ⊢
    clear hdn o5 g5 hsml hbnd
    have i6 := rApply_any _ N C bs da dn dc _ (q : Int) w5 b5 rd5 (by omega) (by omega) (by omega)
    rw [hap] at i6
    go_wp2_with fail
    refine i6.mono ?_
    rintro e w6 ⟨v6, rfl, o6, g6⟩
    have B6 := B5.trans (g6.mono B5.size)
    obtain ⟨xa, xc, rfl, x6, _⟩ := own_rd o6 hTby
    rw [hTl] at x6 ⊢
    have sx := x6.str
    have st := (t5.keep g6).str
    have hdiv : (q : Int) / 3000 = ((q / 3000 : Nat) : Int) := by omega
    have h60 : (dn : Int) ≤ 60 + (q : Int) / 3000 := by omega
    have h60d : decide ((dn : Int) ≤ 60 + (q : Int) / 3000) = true := decide_eq_true h60
    clear i6 o6 x6 t4 t5 b4' b5 rd5 hap hdiv
    go_wp2
    go_ret
    exact ⟨rfl, B6⟩

end Go.Proofs.Ythaibdflehnbbaa
