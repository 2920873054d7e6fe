/- row.first and its closure. -/
import Derived.Test.YtmjcikomcnokkaaDoorWSearch
namespace Go.Proofs.YtmjcikomcnokkaaDoor
open Go.RowKit

set_option maxHeartbeats 2000000 in
set_option maxRecDepth 100000 in
theorem clo33 (P Q S b N c : Nat) (d : Array (List Int)) (z : List Int) (W : World) (h1 : W.rowIs P 67 1 (fun _ => .func (.func 33) #[] #[])) (h2 : W.rowIs Q 62 1 (fun _ => .slice (some ⟨b, 0, none⟩) d.size c)) (h3 : W.rowIs S 23 20 (cl z)) (h : Rw W b N d) (hz : IsId z) (i : Nat) (hi : i < d.size) :
    Calls Tryd.prog 44 #[.int .i64 i, .pointer (some ⟨P, 0, none⟩), .pointer (some ⟨Q, 0, none⟩), .pointer (some ⟨S, 0, none⟩)] W fun e W' => e = .returned (.bool (!ltl d[i]! z)) ∧ Below W.heap.size W W' := by
  have hr := reaches_any b N c d z W h hz i hi
  have c1 := h1.cell (i := 0) (by omega)
  have c2 := h2.cell (i := 0) (by omega)
  clear h1 h2 h
  generalize d.size = n at *
  generalize (!ltl d[i]! z) = v at *
  go_enter Tryd.func44, Tryd.ntmps44
  go_wp2_with (first
    | (refine wpList_ld0 rfl 23 _ rfl S rfl _ h3 20 (by omega) Tryd.underlying23 rfl size23 ?_; clear h3)
    | (go_at_call 33; refine hr.mono ?_; rintro e w' ⟨rfl, hB⟩))
  go_ret
  exact ⟨rfl, hB⟩

set_option maxHeartbeats 2000000 in
set_option maxRecDepth 100000 in
theorem first33 (b N c n : Nat) (d : Array (List Int)) (z : List Int) (w : World) (h : Rw w b N d) (hn : d.size = n) (hz : IsId z) (hsz : n < 100000) (hm : ∀ i j, i ≤ j → j < n → (fun i : Nat => !ltl d[i]! z) i = true → (fun i : Nat => !ltl d[i]! z) j = true) :
    Calls Tryd.prog 32 #[.slice (some ⟨b, 0, none⟩) n c, .func (.func 33) #[] #[], idv z] w fun e w' => ∃ k, e = .returned (.int .i64 (k : Nat)) ∧ Fst n (fun i : Nat => !ltl d[i]! z) k ∧ Below w.heap.size w w' := by
  have r1 := World.rowIs_alloc w #[Value.slice (some ⟨b, 0, none⟩) n c] 62 (fun _ => .slice (some ⟨b, 0, none⟩) n c) (fun i hi => by simp at hi; subst hi; rfl)
  have hza : ∀ (w : World) o, (w.alloc o).heap.size = w.heap.size + 1 := fun w o => by simp
  obtain ⟨w1, hw1⟩ : ∃ w1, w.alloc (.cells #[.slice (some ⟨b, 0, none⟩) n c] 62) = w1 := ⟨_, rfl⟩
  have z1 : w1.heap.size = w.heap.size + 1 := by rw [← hw1]; exact hza _ _
  have b1 : Below w.heap.size w w1 := by rw [← hw1]; exact new_below _ _
  rw [hw1] at r1
  have r2 := World.rowIs_alloc w1 #[Value.func (.func 33) #[] #[]] 67 (fun _ => .func (.func 33) #[] #[]) (fun i hi => by simp at hi; subst hi; rfl)
  obtain ⟨w2, hw2⟩ : ∃ w2, w1.alloc (.cells #[.func (.func 33) #[] #[]] 67) = w2 := ⟨_, rfl⟩
  have z2 : w2.heap.size = w.heap.size + 2 := by rw [← hw2, hza, z1]
  have b2 : Below w1.heap.size w1 w2 := by rw [← hw2]; exact new_below _ _
  rw [hw2, z1] at r2
  have r3 := rowIs_vals w2 (cl z) 20 23
  obtain ⟨w3, hw3⟩ : ∃ w3, w2.alloc (.cells (vals (cl z) 20).toArray 23) = w3 := ⟨_, rfl⟩
  have b3 : Below w2.heap.size w2 w3 := by rw [← hw3]; exact new_below _ _
  rw [hw3, z2] at r3
  have fk : ∀ {p q : World}, Below p.heap.size p q → Fr (fun _ => False) p q := fun h => Fr.ofBelow h
  have R1 : w3.rowIs w.heap.size 62 1 (fun _ => .slice (some ⟨b, 0, none⟩) n c) := rowIs_fr (rowIs_fr r1 (fk b2) (fun h => h)) (fk b3) (fun h => h)
  have R2 : w3.rowIs (w.heap.size + 1) 67 1 (fun _ => .func (.func 33) #[] #[]) := rowIs_fr r2 (fk b3) (fun h => h)
  have R : Rw w3 b N d := ((h.keep b1).keep b2).keep b3
  have B : Below w.heap.size w w3 := (b1.trans (b2.mono (by omega))).trans (b3.mono (by omega))
  have c1 : w3.cell? ⟨w.heap.size, 0, none⟩ = some (.slice (some ⟨b, 0, none⟩) n c) := R1.cell (i := 0) (by omega)
  have hs := search_any n (fun i : Nat => !ltl d[i]! z) (.pointer (some ⟨w.heap.size + 1, 0, none⟩)) (.pointer (some ⟨w.heap.size, 0, none⟩)) (.pointer (some ⟨w.heap.size + 2, 0, none⟩)) w3 hsz hm (fun W i hW hi =>
    (clo33 (w.heap.size + 1) w.heap.size (w.heap.size + 2) b N c d z W (rowIs_fr R2 (fk hW) (fun h => h)) (by rw [hn]; exact rowIs_fr R1 (fk hW) (fun h => h)) (rowIs_fr r3 (fk hW) (fun h => h)) (R.keep hW) hz i (by omega)).mono fun e w' ⟨g1, g2⟩ => ⟨g1, hW.trans (g2.mono hW.size)⟩)
  have HB : Hid (Below w.heap.size w w3 ∧ w.heap.size ≤ w3.heap.size) := ⟨B, B.size⟩
  rw [← hw3, ← hw2, ← hw1] at hs c1 HB
  clear r1 r2 r3 R1 R2 R B b1 b2 b3 h hza z1 z2 hw1 hw2 hw3 hn hm
  generalize (fun i : Nat => !ltl d[i]! z) = FF at *
  go_enter Tryd.func32, Tryd.ntmps32
  go_wp2_with (go_at_call 43; refine hs.mono ?_; rintro e w' ⟨k, rfl, hk, hB⟩)
  go_ret
  exact ⟨k, rfl, hk, HB.out.1.trans (hB.mono HB.out.2)⟩

set_option maxHeartbeats 2000000 in
set_option maxRecDepth 100000 in
theorem clo38 (P Q S b N c : Nat) (d : Array (List Int)) (z : List Int) (W : World) (h1 : W.rowIs P 67 1 (fun _ => .func (.func 38) #[] #[])) (h2 : W.rowIs Q 62 1 (fun _ => .slice (some ⟨b, 0, none⟩) d.size c)) (h3 : W.rowIs S 23 20 (cl z)) (h : Rw W b N d) (hz : IsId z) (i : Nat) (hi : i < d.size) :
    Calls Tryd.prog 44 #[.int .i64 i, .pointer (some ⟨P, 0, none⟩), .pointer (some ⟨Q, 0, none⟩), .pointer (some ⟨S, 0, none⟩)] W fun e W' => e = .returned (.bool (ltl z d[i]!)) ∧ Below W.heap.size W W' := by
  have hr := passes_any b N c d z W h hz i hi
  have c1 := h1.cell (i := 0) (by omega)
  have c2 := h2.cell (i := 0) (by omega)
  clear h1 h2 h
  generalize d.size = n at *
  generalize (ltl z d[i]!) = v at *
  go_enter Tryd.func44, Tryd.ntmps44
  go_wp2_with (first
    | (refine wpList_ld0 rfl 23 _ rfl S rfl _ h3 20 (by omega) Tryd.underlying23 rfl size23 ?_; clear h3)
    | (go_at_call 38; refine hr.mono ?_; rintro e w' ⟨rfl, hB⟩))
  go_ret
  exact ⟨rfl, hB⟩

set_option maxHeartbeats 2000000 in
set_option maxRecDepth 100000 in
theorem first38 (b N c n : Nat) (d : Array (List Int)) (z : List Int) (w : World) (h : Rw w b N d) (hn : d.size = n) (hz : IsId z) (hsz : n < 100000) (hm : ∀ i j, i ≤ j → j < n → (fun i : Nat => ltl z d[i]!) i = true → (fun i : Nat => ltl z d[i]!) j = true) :
    Calls Tryd.prog 32 #[.slice (some ⟨b, 0, none⟩) n c, .func (.func 38) #[] #[], idv z] w fun e w' => ∃ k, e = .returned (.int .i64 (k : Nat)) ∧ Fst n (fun i : Nat => ltl z d[i]!) k ∧ Below w.heap.size w w' := by
  have r1 := World.rowIs_alloc w #[Value.slice (some ⟨b, 0, none⟩) n c] 62 (fun _ => .slice (some ⟨b, 0, none⟩) n c) (fun i hi => by simp at hi; subst hi; rfl)
  have hza : ∀ (w : World) o, (w.alloc o).heap.size = w.heap.size + 1 := fun w o => by simp
  obtain ⟨w1, hw1⟩ : ∃ w1, w.alloc (.cells #[.slice (some ⟨b, 0, none⟩) n c] 62) = w1 := ⟨_, rfl⟩
  have z1 : w1.heap.size = w.heap.size + 1 := by rw [← hw1]; exact hza _ _
  have b1 : Below w.heap.size w w1 := by rw [← hw1]; exact new_below _ _
  rw [hw1] at r1
  have r2 := World.rowIs_alloc w1 #[Value.func (.func 38) #[] #[]] 67 (fun _ => .func (.func 38) #[] #[]) (fun i hi => by simp at hi; subst hi; rfl)
  obtain ⟨w2, hw2⟩ : ∃ w2, w1.alloc (.cells #[.func (.func 38) #[] #[]] 67) = w2 := ⟨_, rfl⟩
  have z2 : w2.heap.size = w.heap.size + 2 := by rw [← hw2, hza, z1]
  have b2 : Below w1.heap.size w1 w2 := by rw [← hw2]; exact new_below _ _
  rw [hw2, z1] at r2
  have r3 := rowIs_vals w2 (cl z) 20 23
  obtain ⟨w3, hw3⟩ : ∃ w3, w2.alloc (.cells (vals (cl z) 20).toArray 23) = w3 := ⟨_, rfl⟩
  have b3 : Below w2.heap.size w2 w3 := by rw [← hw3]; exact new_below _ _
  rw [hw3, z2] at r3
  have fk : ∀ {p q : World}, Below p.heap.size p q → Fr (fun _ => False) p q := fun h => Fr.ofBelow h
  have R1 : w3.rowIs w.heap.size 62 1 (fun _ => .slice (some ⟨b, 0, none⟩) n c) := rowIs_fr (rowIs_fr r1 (fk b2) (fun h => h)) (fk b3) (fun h => h)
  have R2 : w3.rowIs (w.heap.size + 1) 67 1 (fun _ => .func (.func 38) #[] #[]) := rowIs_fr r2 (fk b3) (fun h => h)
  have R : Rw w3 b N d := ((h.keep b1).keep b2).keep b3
  have B : Below w.heap.size w w3 := (b1.trans (b2.mono (by omega))).trans (b3.mono (by omega))
  have c1 : w3.cell? ⟨w.heap.size, 0, none⟩ = some (.slice (some ⟨b, 0, none⟩) n c) := R1.cell (i := 0) (by omega)
  have hs := search_any n (fun i : Nat => ltl z d[i]!) (.pointer (some ⟨w.heap.size + 1, 0, none⟩)) (.pointer (some ⟨w.heap.size, 0, none⟩)) (.pointer (some ⟨w.heap.size + 2, 0, none⟩)) w3 hsz hm (fun W i hW hi =>
    (clo38 (w.heap.size + 1) w.heap.size (w.heap.size + 2) b N c d z W (rowIs_fr R2 (fk hW) (fun h => h)) (by rw [hn]; exact rowIs_fr R1 (fk hW) (fun h => h)) (rowIs_fr r3 (fk hW) (fun h => h)) (R.keep hW) hz i (by omega)).mono fun e w' ⟨g1, g2⟩ => ⟨g1, hW.trans (g2.mono hW.size)⟩)
  have HB : Hid (Below w.heap.size w w3 ∧ w.heap.size ≤ w3.heap.size) := ⟨B, B.size⟩
  rw [← hw3, ← hw2, ← hw1] at hs c1 HB
  clear r1 r2 r3 R1 R2 R B b1 b2 b3 h hza z1 z2 hw1 hw2 hw3 hn hm
  generalize (fun i : Nat => ltl z d[i]!) = FF at *
  go_enter Tryd.func32, Tryd.ntmps32
  go_wp2_with (go_at_call 43; refine hs.mono ?_; rintro e w' ⟨k, rfl, hk, hB⟩)
  go_ret
  exact ⟨k, rfl, hk, HB.out.1.trans (hB.mono HB.out.2)⟩

end Go.Proofs.YtmjcikomcnokkaaDoor
