/- known. -/
import Derived.Test.YtnpgeiflfpjniaaWReader
namespace Go.Proofs.Ytnpgeiflfpjniaa
open Go.RowKit

theorem of_nil {R B : Nat} (h : B ≤ R) : ∀ k, Of R (.slice none 0 0) k → B ≤ k := by
  rintro k (rfl | hk)
  · exact h
  · cases hk

theorem step_of {R : Nat} {v v' : Value} {w w' : World} {N : Int} {q : Nat} {hv : Int} (s : Step R v v' w w') (B : Nat) (r : Raw w R v N q hv) (hB : ∀ k, Of R v k → B ≤ k) : Below B w w' ∧ ∀ k, Of R v' k → B ≤ k := by
  have hlt := r.row.lt
  have hR := hB R (.inl rfl)
  exact ⟨s.below B (by omega) hB, s.from B (by omega) hB⟩

set_option maxRecDepth 100000 in
set_option maxHeartbeats 2000000 in
theorem known_any (w : World) : Calls Try.prog 7 #[] w fun e w' => e = .returned (.bool true) ∧ Below w.heap.size w w' := by
  go_enter Try.func7, Try.ntmps7
  go_wp2_with fail
  refine (newW_any w).mono ?_
  rintro e w1 ⟨R, rfl, h1, hR, b1⟩
  have o1 := of_nil (B := w.heap.size) (by omega : w.heap.size ≤ R)
  clear hR
  go_wp2_with fail
  refine (put_any R _ 0 5 3 0 w1 h1 (by omega)).mono ?_
  rintro e w2 ⟨rfl, v2, h2, s2⟩
  rw [show ptN 0 0 5 3 = 5 by decide, show ptL 0 3 = 3 by decide] at h2
  obtain ⟨b2, o2⟩ := step_of s2 w.heap.size h1.raw o1
  have B2 := b1.trans b2
  clear b1 b2 s2 o1 h1
  go_wp2_with fail
  refine (code_any R v2 5 1 2 3 w2 h2 (by omega)).mono ?_
  rintro e w3 ⟨rfl, v3, h3, s3⟩
  rw [show cdN 5 3 1 2 = 21 by decide, show ptL 3 2 = 5 by decide] at h3
  obtain ⟨b3, o3⟩ := step_of s3 w.heap.size h2.raw o2
  have B3 := B2.trans b3
  clear B2 b3 s3 o2 h2
  go_wp2_with fail
  refine (byte_any R v3 21 9 5 w3 h3 (by omega)).mono ?_
  rintro e w4 ⟨rfl, v4, h4, s4⟩
  rw [show btN 21 5 9 = 2325 by decide, show al 5 + 8 = 16 by decide] at h4
  obtain ⟨b4, o4⟩ := step_of s4 w.heap.size h3.raw o3
  have B4 := B3.trans b4
  clear B3 b4 s4 o3 h3
  go_wp2_with fail
  refine (done_any R v4 2325 16 w4 h4 (by omega)).mono ?_
  rintro e w5 ⟨v5, rfl, d5, b5⟩
  have B5 := B4.trans (b5.mono B4.size)
  obtain ⟨ao, c, rfl, r5, _⟩ := own_rd d5 (by8_byt _ _)
  clear b5 h4 o4 B4 d5
  simp only [show (16 + 7) / 8 = 2 from rfl] at r5 ⊢
  go_wp2_with fail
  refine (newR_any ao 2 c 2325 w5 r5 (by omega)).mono ?_
  rintro e w6 ⟨R2, ao2, c2, rfl, h6, hR2, _, b6⟩
  have B6 := B5.trans (b6.mono B5.size)
  have r6 := r5.keep b6
  have hsz : w.heap.size ≤ R2 := Nat.le_trans B5.size hR2
  obtain ⟨b, off, rfl, hcell⟩ := r6.plain (by omega)
  have hc1 := hcell 1 (by omega)
  rw [show (by8 2325 2).getD 1 0 = 9 by decide] at hc1
  clear b6 B5 r5 r6 hcell hR2
  go_wp2_with fail
  refine (get_any R2 ao2 2 c2 2325 0 3 w6 h6).mono ?_
  rintro e w7 ⟨rfl, h7, f7⟩
  rw [show gtV 2 2325 0 3 = 5 by decide, show gtOk 2 0 3 = true by decide]
  rw [show gtP 2 0 3 = 3 by decide] at h7
  have B7 := B6.trans (f7.below w.heap.size B6.size (by rintro i hi rfl; omega))
  clear B6 f7 h6 hc1
  go_wp2_with fail
  refine (get_any R2 ao2 2 c2 2325 3 2 w7 h7).mono ?_
  rintro e w8 ⟨rfl, h8, f8⟩
  rw [show gtV 2 2325 3 2 = 2 by decide, show gtOk 2 3 2 = true by decide]
  rw [show gtP 2 3 2 = 5 by decide] at h8
  have B8 := B7.trans (f8.below w.heap.size B7.size (by rintro i hi rfl; omega))
  clear B7 f8 h7
  have p9 := past_any R2 ao2 2 c2 2325 5 w8.drew (h8.fr (Fr.refl (fun _ => False) _).drew (fun h => h) (fun _ _ _ h => h))
  go_wp2_with (first
    | (go_at_call 25; refine (left_any R2 ao2 2 c2 2325 5 w8 h8).mono ?_; rintro e w9 ⟨rfl, hw⟩; subst w9)
    | (go_at_call 27; refine p9.mono ?_; rintro e w9 ⟨rfl, hw⟩; subst w9)
    | (go_at_call 29; refine (turn_yes 1 3 _ (by omega)).mono ?_; rintro e w9 ⟨rfl, hw⟩; subst w9))
  go_ret
  exact ⟨congrArg (fun b => Ending.returned (Value.bool b)) (show (T 1 3 == 4) = true by decide), B8.drew⟩

end Go.Proofs.Ytnpgeiflfpjniaa
