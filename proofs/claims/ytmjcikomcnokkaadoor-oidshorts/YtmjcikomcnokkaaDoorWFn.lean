/- oid.Find where the row may have no memory. -/
import Derived.Test.YtmjcikomcnokkaaDoorWFd
namespace Go.Proofs.YtmjcikomcnokkaaDoor
open Go.RowKit

set_option maxHeartbeats 2000000 in
set_option maxRecDepth 100000 in
theorem first_nil33 (ao : Option Addr) (c : Nat) (z : List Int) (w : World) :
    Calls Tryd.prog 32 #[.slice ao 0 c, .func (.func 33) #[] #[], idv z] w fun e w' => e = .returned (.int .i64 0) ∧ Below w.heap.size w w' := by
  have r1 := World.rowIs_alloc w #[Value.slice ao 0 c] 62 (fun _ => .slice ao 0 c) (fun i hi => by simp at hi; subst hi; rfl)
  have hza : ∀ (w : World) o, (w.alloc o).heap.size = w.heap.size + 1 := fun w o => by simp
  obtain ⟨w1, hw1⟩ : ∃ w1, w.alloc (.cells #[.slice ao 0 c] 62) = w1 := ⟨_, rfl⟩
  have z1 : w1.heap.size = w.heap.size + 1 := by rw [← hw1]; exact hza _ _
  have b1 : Below w.heap.size w w1 := by rw [← hw1]; exact new_below _ _
  rw [hw1] at r1
  have r2 := World.rowIs_alloc w1 #[Value.func (.func 33) #[] #[]] 67 (fun _ => .func (.func 33) #[] #[]) (fun i hi => by simp at hi; subst hi; rfl)
  obtain ⟨w2, hw2⟩ : ∃ w2, w1.alloc (.cells #[.func (.func 33) #[] #[]] 67) = w2 := ⟨_, rfl⟩
  have z2 : w2.heap.size = w.heap.size + 2 := by rw [← hw2, hza, z1]
  have b2 : Below w1.heap.size w1 w2 := by rw [← hw2]; exact new_below _ _
  rw [hw2, z1] at r2
  have r3 := rowIs_vals w2 (cl z) 20 23
  obtain ⟨w3, hw3⟩ : ∃ w3, w2.alloc (.cells (vals (cl z) 20).toArray 23) = w3 := ⟨_, rfl⟩
  have b3 : Below w2.heap.size w2 w3 := by rw [← hw3]; exact new_below _ _
  rw [hw3, z2] at r3
  have fk : ∀ {p q : World}, Below p.heap.size p q → Fr (fun _ => False) p q := fun h => Fr.ofBelow h
  have R1 : w3.rowIs w.heap.size 62 1 (fun _ => .slice ao 0 c) := rowIs_fr (rowIs_fr r1 (fk b2) (fun h => h)) (fk b3) (fun h => h)
  have R2 : w3.rowIs (w.heap.size + 1) 67 1 (fun _ => .func (.func 33) #[] #[]) := rowIs_fr r2 (fk b3) (fun h => h)
  have B : Below w.heap.size w w3 := (b1.trans (b2.mono (by omega))).trans (b3.mono (by omega))
  have c1 : w3.cell? ⟨w.heap.size, 0, none⟩ = some (.slice ao 0 c) := R1.cell (i := 0) (by omega)
  have hs := search_any 0 (fun _ => false) (.pointer (some ⟨w.heap.size + 1, 0, none⟩)) (.pointer (some ⟨w.heap.size, 0, none⟩)) (.pointer (some ⟨w.heap.size + 2, 0, none⟩)) w3 (by omega) (fun i j _ h => by omega) (fun W i _ h => by omega)
  have HB : Hid (Below w.heap.size w w3 ∧ w.heap.size ≤ w3.heap.size) := ⟨B, B.size⟩
  rw [← hw3, ← hw2, ← hw1] at hs c1 HB
  clear r1 r2 r3 R1 R2 B b1 b2 b3 hza z1 z2 hw1 hw2 hw3
  go_enter Tryd.func32, Tryd.ntmps32
  go_wp2_with (go_at_call 43; refine hs.mono ?_; rintro e w' ⟨k, rfl, hk, hB⟩)
  go_ret
  have := hk.1
  obtain rfl : k = 0 := by omega
  exact ⟨rfl, HB.out.1.trans (hB.mono HB.out.2)⟩

set_option maxHeartbeats 2000000 in
set_option maxRecDepth 100000 in
theorem first_nil38 (ao : Option Addr) (c : Nat) (z : List Int) (w : World) :
    Calls Tryd.prog 32 #[.slice ao 0 c, .func (.func 38) #[] #[], idv z] w fun e w' => e = .returned (.int .i64 0) ∧ Below w.heap.size w w' := by
  have r1 := World.rowIs_alloc w #[Value.slice ao 0 c] 62 (fun _ => .slice ao 0 c) (fun i hi => by simp at hi; subst hi; rfl)
  have hza : ∀ (w : World) o, (w.alloc o).heap.size = w.heap.size + 1 := fun w o => by simp
  obtain ⟨w1, hw1⟩ : ∃ w1, w.alloc (.cells #[.slice ao 0 c] 62) = w1 := ⟨_, rfl⟩
  have z1 : w1.heap.size = w.heap.size + 1 := by rw [← hw1]; exact hza _ _
  have b1 : Below w.heap.size w w1 := by rw [← hw1]; exact new_below _ _
  rw [hw1] at r1
  have r2 := World.rowIs_alloc w1 #[Value.func (.func 38) #[] #[]] 67 (fun _ => .func (.func 38) #[] #[]) (fun i hi => by simp at hi; subst hi; rfl)
  obtain ⟨w2, hw2⟩ : ∃ w2, w1.alloc (.cells #[.func (.func 38) #[] #[]] 67) = w2 := ⟨_, rfl⟩
  have z2 : w2.heap.size = w.heap.size + 2 := by rw [← hw2, hza, z1]
  have b2 : Below w1.heap.size w1 w2 := by rw [← hw2]; exact new_below _ _
  rw [hw2, z1] at r2
  have r3 := rowIs_vals w2 (cl z) 20 23
  obtain ⟨w3, hw3⟩ : ∃ w3, w2.alloc (.cells (vals (cl z) 20).toArray 23) = w3 := ⟨_, rfl⟩
  have b3 : Below w2.heap.size w2 w3 := by rw [← hw3]; exact new_below _ _
  rw [hw3, z2] at r3
  have fk : ∀ {p q : World}, Below p.heap.size p q → Fr (fun _ => False) p q := fun h => Fr.ofBelow h
  have R1 : w3.rowIs w.heap.size 62 1 (fun _ => .slice ao 0 c) := rowIs_fr (rowIs_fr r1 (fk b2) (fun h => h)) (fk b3) (fun h => h)
  have R2 : w3.rowIs (w.heap.size + 1) 67 1 (fun _ => .func (.func 38) #[] #[]) := rowIs_fr r2 (fk b3) (fun h => h)
  have B : Below w.heap.size w w3 := (b1.trans (b2.mono (by omega))).trans (b3.mono (by omega))
  have c1 : w3.cell? ⟨w.heap.size, 0, none⟩ = some (.slice ao 0 c) := R1.cell (i := 0) (by omega)
  have hs := search_any 0 (fun _ => false) (.pointer (some ⟨w.heap.size + 1, 0, none⟩)) (.pointer (some ⟨w.heap.size, 0, none⟩)) (.pointer (some ⟨w.heap.size + 2, 0, none⟩)) w3 (by omega) (fun i j _ h => by omega) (fun W i _ h => by omega)
  have HB : Hid (Below w.heap.size w w3 ∧ w.heap.size ≤ w3.heap.size) := ⟨B, B.size⟩
  rw [← hw3, ← hw2, ← hw1] at hs c1 HB
  clear r1 r2 r3 R1 R2 B b1 b2 b3 hza z1 z2 hw1 hw2 hw3
  go_enter Tryd.func32, Tryd.ntmps32
  go_wp2_with (go_at_call 43; refine hs.mono ?_; rintro e w' ⟨k, rfl, hk, hB⟩)
  go_ret
  have := hk.1
  obtain rfl : k = 0 := by omega
  exact ⟨rfl, HB.out.1.trans (hB.mono HB.out.2)⟩

set_option maxRecDepth 100000 in
set_option maxHeartbeats 2000000 in
theorem find_nil (ao : Option Addr) (c : Nat) (z : List Int) (w : World) :
    Calls Tryd.prog 16 #[.slice ao 0 c, idv z] w fun e w' => e = .returned (.tuple #[.int .i64 0, .bool false]) ∧ Below w.heap.size w w' := by
  have hB : Below w.heap.size w (w.alloc (.cells (vals (cl z) 20).toArray 23)) := new_below _ _
  have hf := first_nil33 ao c z (w.alloc (.cells (vals (cl z) 20).toArray 23))
  have r0 := rowIs_vals w (cl z) 20 23
  have HB : Hid (Below w.heap.size w (w.alloc (.cells (vals (cl z) 20).toArray 23))) := hB
  clear hB
  go_enter Tryd.func16, Tryd.ntmps16
  go_wp2_with (first
    | (refine wpList_ld0 rfl 23 _ rfl w.heap.size rfl _ r0 20 (by omega) Tryd.underlying23 rfl size23 ?_; clear r0)
    | (go_at_call 32; refine hf.mono ?_; rintro e w1 ⟨rfl, hB1⟩; clear hf))
  refine wp_region_quiet (C := fun W => Below (w.alloc (.cells (vals (cl z) 20).toArray 23)).heap.size w1 W) (by kernel_rfl) (by kernel_rfl) (Below.refl _ _).drew ?_
  repeat
    refine wpQuiet_step (fun K hK => ?_)
    (go_simp; first | (refine ⟨_, fun wq hs => rfl, hK _ ?_⟩; clear hK K) | (refine hK _ ?_; clear hK K))
  refine wpQuiet_nil ?_
  intro w2 hB2
  go_wp2_with fail
  go_ret2
  exact ⟨rfl, HB.out.trans ((hB1.trans hB2).mono HB.out.size)⟩

/-- Find in any row. -/
theorem find_any (B : Nat) (v : Value) (d : Array (List Int)) (z : List Int) (w : World) (h : Nw B w v d) (hu : Up d) (hz : IsId z) (hsz : d.size < 100000) :
    Calls Tryd.prog 16 #[v, idv z] w fun e w' => ∃ k, e = .returned (.tuple #[.int .i64 (k : Nat), .bool (decide (k < d.size) && decide (d[k]! = z))]) ∧ wh d z k ∧ Below w.heap.size w w' := by
  rcases h with ⟨h0, ao, c, rfl⟩ | ⟨h0, b, c, rfl, _, _, hr⟩
  · refine (find_nil ao c z w).mono ?_
    rintro e w' ⟨rfl, hb⟩
    exact ⟨0, by simp [h0], ⟨by omega, fun q hq => by omega, fun q _ hq => by omega⟩, hb⟩
  · exact find_row b _ c d.size d z w hr rfl hu hz hsz

end Go.Proofs.YtmjcikomcnokkaaDoor
