/- New. -/
import Derived.Test.YtmpfbemdljfamaaWSync
namespace Go.Proofs.Ytmpfbemdljfamaa
open Go.RowKit Go.Maps

/-- A new disk. -/
def fresh (q : Int) (H : Nat) : St := ⟨q, H, H + 1, H + 2, false, 0, 0, .slice none 0 0, [], .map [], .map [], .map [], fun _ => none, fun _ => none⟩

theorem mp_made (w : World) : Mp (w.alloc (.map #[] 0)) w.heap.size (.map []) := Mp.of (World.ownsMap_made w Try.prog 9 ptrE)

theorem mp_alloc {w : World} {b : Nat} {D : DataW Unit} (h : Mp w b D) (o : Obj) : Mp (w.alloc o) b D := h.fr (P := fun _ => False) (Fr.ofBelow (new_below w o)) (fun h => h)

set_option maxRecDepth 100000 in
theorem new_any (q : Int) (w : World) (h0 : 0 ≤ q) (h1 : q ≤ 1073741824) :
    Calls Try.prog 8 #[.int .i64 q] w fun e w' => ∃ d, e = .returned (.tuple #[.pointer (some ⟨d, 0, none⟩), .int .i64 0]) ∧ Dk w' (fun b => w.heap.size ≤ b ∧ b < w'.heap.size) d (fresh q w.heap.size) ∧ Below w.heap.size w w' := by
  have q1 : decide (q < 0) = false := by simp; omega
  have q2 : decide ((1073741824 : Int) < q) = false := by simp; omega
  obtain ⟨W, hW⟩ : ∃ W, W = ((((w.alloc (.map #[] 0)).alloc (.map #[] 0)).alloc (.map #[] 0)).alloc (.cells #[.int .i64 q, .map (some w.heap.size), .map (some (w.heap.size + 1)), .map (some (w.heap.size + 1 + 1)), .bool false, .int .i64 0, .int .i64 0, .slice none 0 0] 48)) := ⟨_, rfl⟩
  have m1 : Mp W w.heap.size (.map []) := by
    rw [hW]
    exact mp_alloc (mp_alloc (mp_alloc (mp_made w) _) _) _
  have m2 : Mp W (w.heap.size + 1) (.map []) := by
    rw [hW]
    have := mp_alloc (mp_alloc (mp_made (w.alloc (.map #[] 0))) (.map #[] 0)) (.cells #[.int .i64 q, .map (some w.heap.size), .map (some (w.heap.size + 1)), .map (some (w.heap.size + 1 + 1)), .bool false, .int .i64 0, .int .i64 0, .slice none 0 0] 48)
    simpa using this
  have m3 : Mp W (w.heap.size + 2) (.map []) := by
    rw [hW]
    have := mp_alloc (mp_made ((w.alloc (.map #[] 0)).alloc (.map #[] 0))) (.cells #[.int .i64 q, .map (some w.heap.size), .map (some (w.heap.size + 1)), .map (some (w.heap.size + 1 + 1)), .bool false, .int .i64 0, .int .i64 0, .slice none 0 0] 48)
    simpa using this
  have r : W.rowIs (w.heap.size + 1 + 1 + 1) 48 8 (dc (fresh q w.heap.size)) := by
    rw [hW]
    have := World.rowIs_alloc (((w.alloc (.map #[] 0)).alloc (.map #[] 0)).alloc (.map #[] 0)) #[.int .i64 q, .map (some w.heap.size), .map (some (w.heap.size + 1)), .map (some (w.heap.size + 1 + 1)), .bool false, .int .i64 0, .int .i64 0, .slice none 0 0] 48 (dc (fresh q w.heap.size)) (fun i hi => by
      have hi' : i < 8 := by simpa using hi
      match i, hi' with
      | 0, _ | 1, _ | 2, _ | 3, _ | 4, _ | 5, _ | 6, _ | 7, _ => rfl)
    simpa using this
  have hsz : W.heap.size = w.heap.size + 4 := by rw [hW]; simp
  have hb : Below w.heap.size w W := by
    rw [hW]
    exact ((((Below.refl _ _).alloc (Nat.le_refl _) _).alloc (by simp) _).alloc (by simp; omega) _).alloc (by simp; omega) _
  have fin : Dk W (fun b => w.heap.size ≤ b ∧ b < W.heap.size) (w.heap.size + 1 + 1 + 1) (fresh q w.heap.size) := by
    refine ⟨r, m1, m2, m3, ⟨by simp [fresh], by simp [fresh], by simp [fresh]⟩, ⟨(fun f x e => by cases e), (fun f f' x x' g _ e => by cases e)⟩, ⟨(fun f x e => by cases e), (fun f f' x x' g _ e => by cases e)⟩, World.ownsRow_nil _ _ _ _, ⟨⟨by omega, by omega⟩, ⟨Nat.le_refl _, by simp [fresh]; omega⟩, ⟨by simp [fresh], by simp [fresh]; omega⟩, ⟨by simp [fresh], by simp [fresh]; omega⟩, (fun g e => by cases e)⟩, fun b e => e.2⟩
  have HW : Hid (W = ((((w.alloc (.map #[] 0)).alloc (.map #[] 0)).alloc (.map #[] 0)).alloc (.cells #[.int .i64 q, .map (some w.heap.size), .map (some (w.heap.size + 1)), .map (some (w.heap.size + 1 + 1)), .bool false, .int .i64 0, .int .i64 0, .slice none 0 0] 48))) := hW
  have Hf : Hid (Dk W (fun b => w.heap.size ≤ b ∧ b < W.heap.size) (w.heap.size + 1 + 1 + 1) (fresh q w.heap.size)) := fin
  have k1 : ∀ W, (Instr.makeMap 45 none).run Try.prog W = .ok (.map (some W.heap.size)) (W.alloc (.map #[] 0)) := fun W => by simp [Instr.makeMap]
  have k2 : ∀ W, (Instr.makeMap 46 none).run Try.prog W = .ok (.map (some W.heap.size)) (W.alloc (.map #[] 0)) := fun W => by simp [Instr.makeMap]
  clear hW m1 m2 m3 r hsz fin
  go_enter Try.func8, Try.ntmps8
  go_wp2
  go_ret2
  rw [← HW.out]
  exact ⟨_, rfl, Hf.out, hb⟩

end Go.Proofs.Ytmpfbemdljfamaa
