/- The walk of BitsReads. -/
import Derived.Test.YtnpgeiflfpjniaaHelp
import Derived.Test.YtnpgeiflfpjniaaXReader
namespace Go.Proofs.Ytnpgeiflfpjniaa
open Go.RowKit

theorem IsY.drew {w : World} {R : Nat} {ao : Option Addr} {n c : Nat} {X : Int} {p : Nat} (r : IsY w R ao n c X p) : IsY w.drew R ao n c X p := r.fr (Fr.refl (fun _ => False) _).drew (fun h => h) (fun _ _ _ h => h)

theorem reads_skip (ao lo : Option Addr) (n c k d : Nat) (w : World) (h : 2000 < n ∨ 400 < k) :
    Calls Try.prog 4 #[.slice ao n c, .slice lo k d] w fun e w' => e = .returned (.bool true) ∧ Below w.heap.size w w' := by
  by_cases h1 : 2000 < n
  · clear h
    go_enter Try.func4, Try.ntmps4
    go_wp2_with (go_at_call 7; refine (known_any _).mono ?_; rintro e w1 ⟨rfl, hb⟩)
    go_ret
    exact ⟨rfl, hb⟩
  · have h2 : 400 < k := by omega
    clear h
    go_enter Try.func4, Try.ntmps4
    go_wp2_with (go_at_call 7; refine (known_any _).mono ?_; rintro e w1 ⟨rfl, hb⟩)
    go_ret
    exact ⟨rfl, hb⟩

theorem one_below {R B : Nat} {w w' : World} (h : Fr (fun k => k = R) w w') (hB : B ≤ w.heap.size) (hR : B ≤ R) : Below B w w' := h.below B hB (fun i hi e => by omega)

set_option maxRecDepth 100000 in
set_option maxHeartbeats 2000000 in
theorem reads_go (ao lo : Option Addr) (n c k d : Nat) (X : Int) (M : Nat → Int) (w : World) (hn : n ≤ 2000) (hk : k ≤ 400) (hr : Rd w ao n c (by8 X n))
    (hcell : ∀ j, j < k → ∃ b off, lo = some ⟨b, off, none⟩ ∧ w.cell? ⟨b, off + j, none⟩ = some (.int .i64 (M j))) :
    Calls Try.prog 4 #[.slice ao n c, .slice lo k d] w fun e w' => e = .returned (.bool true) ∧ Below w.heap.size w w' := by
  have hd1 : decide ((2000 : Int) < (n : Int)) = false := by simp; omega
  have hd2 : decide ((400 : Int) < (k : Int)) = false := by simp; omega
  go_enter Try.func4, Try.ntmps4
  go_wp2_with (go_at_call 7; refine (known_any _).mono ?_; rintro e w1 ⟨rfl, hb⟩)
  refine (newR_any ao n c X w1 (hr.keep hb) (by omega)).mono ?_
  rintro e w2 ⟨R, ro, rc, rfl, hR, hRl, hfr, b2⟩
  have hRw : w.heap.size ≤ R := Nat.le_trans hb.size hRl
  have B2 := hb.trans (b2.mono hb.size)
  have hr2 := hr.keep B2
  have hRY : R < w2.heap.size := hR.row.lt
  have hYw : w.heap.size ≤ w2.heap.size := B2.size
  have sX : ∀ ad, ao = some ad → 0 < n → ad.block < w.heap.size := by
    intro ad had h0
    have hc := World.block_lt_of_cell? w _ (hr.cells ad had 0 h0)
    have hbk : (ad.add 0).block = ad.block := by unfold Addr.add; split <;> rfl
    omega
  have sRY : ∀ ad, ro = some ad → 0 < n → ad.block ≠ w2.heap.size := by
    intro ad had h0 e
    have hc := World.block_lt_of_cell? w2 _ (hR.rd.cells ad had 0 h0)
    have hbk : (ad.add 0).block = ad.block := by unfold Addr.add; split <;> rfl
    omega
  have sXR : ∀ ad, ao = some ad → 0 < n → ad.block ≠ R := fun ad h1 h2 e => by have := sX ad h1 h2; omega
  have hbA : Below w2.heap.size w2 (w2.alloc (Obj.cells #[Value.slice ao n c, Value.int IntKind.i64 0] 43)) := (Below.refl _ _).alloc (Nat.le_refl _) _
  have hR3 := hR.keep hbA
  have hY3 : IsY (w2.alloc (Obj.cells #[Value.slice ao n c, Value.int IntKind.i64 0] 43)) w2.heap.size ao n c X 0 :=
    ⟨World.rowIs_alloc w2 _ 43 _ (fun i hi => by
      simp at hi
      rcases i with _ | _ | i <;> first | rfl | omega), hr2.keep hbA, fun ad had h0 e => by have := sX ad had h0; omega, by omega, by omega⟩
  have B3 : Below w.heap.size w (w2.alloc (Obj.cells #[Value.slice ao n c, Value.int IntKind.i64 0] 43)) := B2.trans (hbA.mono hYw)
  have hne : R ≠ w2.heap.size := by omega
  clear hb b2 hRl hfr hR hr2 B2 hbA sX hr hRY
  go_wp2_with fail
  generalize w2.heap.size = Y at *
  go_loopw [7, 8, 9, 10, 11] (fun i _ _ _ _ wr => ∃ (t p : Nat), t ≤ k ∧ i = .int .i64 t ∧ IsR wr R ro n rc X p ∧ IsY wr Y ao n c X p ∧ Below w.heap.size w wr)
    (fun i _ _ _ _ _ => k - (intOf i).toNat)
  case atStart => exact ⟨0, 0, by omega, rfl, hR3, hY3, B3⟩
  case round =>
    obtain ⟨t, p, ht, rfl, hRr, hYr, hB⟩ := hrel
    clear hR3 hY3 B3
    by_cases htk : t < k
    · obtain ⟨b, off, rfl, hc0⟩ := hcell t htk
      have hM : wr.cell? ⟨b, off + t, none⟩ = some (.int .i64 (M t)) := by
        rw [hB.cell (World.block_lt_of_cell? w _ hc0)]; exact hc0
      have HM : Hid (∀ w' : World, Below w.heap.size w w' → w'.cell? ⟨b, off + t, none⟩ = some (.int .i64 (M t))) := fun w' h' => by
        rw [h'.cell (World.block_lt_of_cell? w _ hc0)]; exact hc0
      clear hcell hc0
      generalize M t = nn at *
      by_cases e1 : nn = -1
      · subst e1
        go_wp2_with fail
        refine (ralign_any R ro n rc X p wr hRr).mono ?_
        rintro e w3 ⟨rfl, hR4, f4⟩
        have hY4 := hYr.fr f4 (fun e => hne e.symm) sXR
        have B4 := hB.trans (one_below f4 hB.size hRw)
        clear hRr hYr hB f4 hM
        go_wp2_with fail
        refine (yalign_any Y ao n c X p w3 hY4).mono ?_
        rintro e w4 ⟨rfl, hY5, f5⟩
        have hR5 := hR4.fr f5 hne sRY
        have B5 := B4.trans (one_below f5 B4.size hYw)
        clear hR4 hY4 B4 f5
        generalize al p = p' at *
        have q1 := hY5.drew
        have q2 := hR5.drew.drew
        have q3 := hY5.drew.drew
        go_wp2_with (first
          | (go_at_call 25; refine (left_any R ro n rc X p' w4 hR5).mono ?_; rintro e w9 ⟨rfl, hw⟩; subst w9)
          | (go_at_call 26; refine (yleft_any Y ao n c X p' w4.drew q1).mono ?_; rintro e w9 ⟨rfl, hw⟩; subst w9)
          | (go_at_call 27; refine (past_any R ro n rc X p' w4.drew.drew q2).mono ?_; rintro e w9 ⟨rfl, hw⟩; subst w9)
          | (go_at_call 28; refine (ypast_any Y ao n c X p' w4.drew.drew q3).mono ?_; rintro e w9 ⟨rfl, hw⟩; subst w9))
        go_roundw
        case rel => exact ⟨t + 1, p', by omega, by go_num, q2, q3, B5.drew.drew⟩
        case measure => simp [intOf]; omega
      · have q0 : (nn == -1) = false := by simp [e1]
        clear e1
        go_wp2_with fail
        refine (get_any R ro n rc X p nn wr hRr).mono ?_
        rintro e w3 ⟨rfl, hR4, f4⟩
        have hY4 := hYr.fr f4 (fun e => hne e.symm) sXR
        have B4 := hB.trans (one_below f4 hB.size hRw)
        have hM4 := HM.out w3 B4
        clear hRr hYr hB f4 hM
        go_wp2_with fail
        refine (yget_any Y ao n c X p nn w3 hY4).mono ?_
        rintro e w4 ⟨rfl, hY5, f5⟩
        have hR5 := hR4.fr f5 hne sRY
        have B5 := B4.trans (one_below f5 B4.size hYw)
        clear hR4 hY4 B4 f5 hM4
        generalize gtP n p nn = p' at *
        generalize gtV n X p nn = gv at *
        generalize gtOk n p nn = gk at *
        have q1 := hY5.drew
        have q2 := hR5.drew.drew
        have q3 := hY5.drew.drew
        go_wp2_with (first
          | (go_at_call 25; refine (left_any R ro n rc X p' w4 hR5).mono ?_; rintro e w9 ⟨rfl, hw⟩; subst w9)
          | (go_at_call 26; refine (yleft_any Y ao n c X p' w4.drew q1).mono ?_; rintro e w9 ⟨rfl, hw⟩; subst w9)
          | (go_at_call 27; refine (past_any R ro n rc X p' w4.drew.drew q2).mono ?_; rintro e w9 ⟨rfl, hw⟩; subst w9)
          | (go_at_call 28; refine (ypast_any Y ao n c X p' w4.drew.drew q3).mono ?_; rintro e w9 ⟨rfl, hw⟩; subst w9))
        go_roundw
        case rel => exact ⟨t + 1, p', by omega, by go_num, q2, q3, B5.drew.drew⟩
        case measure => simp [intOf]; omega
    · go_wp2
      go_ret
      exact ⟨rfl, hB⟩

end Go.Proofs.Ytnpgeiflfpjniaa
