/- row.reaches, row.passes. -/
import Derived.Test.YtmjcikomcnokkaaDoorRow
namespace Go.Proofs.YtmjcikomcnokkaaDoor
open Go.RowKit

theorem box_load (w W : World) (z : List Int) (hz : IsId z) (hW : Below (w.alloc (.cells (vals (cl z) 20).toArray 23)).heap.size (w.alloc (.cells (vals (cl z) 20).toArray 23)) W) :
    (loadVar 23 ⟨w.heap.size, 0, none⟩).run Tryd.prog W = .ok (idv z) W := by
  have h : Rw (w.alloc (.cells (vals (cl z) 20).toArray 23)) w.heap.size 20 #[z] := ⟨⟨cl z, rowIs_vals w (cl z) 20 23, fun i hi j hj => by
    have : i < 1 := hi
    obtain rfl : i = 0 := by omega
    rw [Nat.zero_mul, Nat.zero_add]; rfl⟩, Nat.le_refl _, fun i hi => by
    have : i < 1 := hi
    obtain rfl : i = 0 := by omega
    exact hz⟩
  exact (h.keep hW).load 0 (by show 0 < 1; omega)

set_option maxRecDepth 100000 in
theorem reaches_any (b N c : Nat) (d : Array (List Int)) (z : List Int) (w : World) (h : Rw w b N d) (hz : IsId z) (i : Nat) (hi : i < d.size) :
    Calls Tryd.prog 33 #[.slice (some ⟨b, 0, none⟩) d.size c, .int .i64 i, idv z] w fun e w' => e = .returned (.bool (!ltl d[i]! z)) ∧ Below w.heap.size w w' := by
  have hB : Below w.heap.size w (w.alloc (.cells (vals (cl z) 20).toArray 23)) := new_below _ _
  have H : Hid (∀ W, Below (w.alloc (.cells (vals (cl z) 20).toArray 23)).heap.size (w.alloc (.cells (vals (cl z) 20).toArray 23)) W → (loadVar 23 ⟨b, i * 20, none⟩).run Tryd.prog W = .ok (idv d[i]!) W ∧ (loadVar 23 ⟨w.heap.size, 0, none⟩).run Tryd.prog W = .ok (idv z) W ∧ Calls Tryd.prog 21 #[idv d[i]!, idv z] W (fun e w' => e = .returned (.bool (ltl d[i]! z)) ∧ Below (w.alloc (.cells (vals (cl z) 20).toArray 23)).heap.size (w.alloc (.cells (vals (cl z) 20).toArray 23)) w')) := fun W hW =>
    ⟨((h.keep hB).keep hW).load i hi, box_load w W z hz hW, (less_any d[i]! z (h.ids i hi) hz W).mono fun e w' ⟨h1, h2⟩ => ⟨h1, hW.trans (h2.mono hW.size)⟩⟩
  have hi2 : (i : Int) < (d.size : Int) := by omega
  have HB : Hid (Below w.heap.size w (w.alloc (.cells (vals (cl z) 20).toArray 23))) := hB
  have c21 : Hid (∀ vs w, (callFunc 21 vs).run Tryd.prog w = .ok (.enter 21 vs) w) := fun vs w => by simp [go_sem]
  generalize d.size = n at *
  generalize d[i]! = x at *
  generalize ltl x z = v at *
  clear h hB
  go_enter Tryd.func33, Tryd.ntmps33
  go_wp2_with fail
  refine wp_region_quiet (C := fun W => Below (w.alloc (.cells (vals (cl z) 20).toArray 23)).heap.size (w.alloc (.cells (vals (cl z) 20).toArray 23)) W) (by kernel_rfl) (by kernel_rfl) (Below.refl _ _).drew ?_
  repeat
    refine wpQuiet_step (fun K hK => ?_)
    first
      | (refine q_load (by rfl) 23 _ rfl ⟨b, i * 20, none⟩ rfl (idv x) (fun W hW => (H.out W hW).1) (hK _ ?_); clear hK K)
      | (refine q_load (by rfl) 23 _ rfl ⟨w.heap.size, 0, none⟩ rfl (idv z) (fun W hW => (H.out W hW).2.1) (hK _ ?_); clear hK K)
      | (refine q_call2 (by rfl) 21 c21.out _ _ _ rfl (idv x) (idv z) rfl rfl (.bool v) (fun W hW => (H.out W hW).2.2) (hK _ ?_); clear hK K)
      | (go_simp; refine ⟨_, fun wq hs => rfl, hK _ ?_⟩; clear hK K)
  refine wpQuiet_nil ?_
  intro w1 hB1
  go_wp2_with fail
  go_ret
  exact ⟨rfl, HB.out.trans (hB1.mono HB.out.size)⟩

set_option maxRecDepth 100000 in
theorem passes_any (b N c : Nat) (d : Array (List Int)) (z : List Int) (w : World) (h : Rw w b N d) (hz : IsId z) (i : Nat) (hi : i < d.size) :
    Calls Tryd.prog 38 #[.slice (some ⟨b, 0, none⟩) d.size c, .int .i64 i, idv z] w fun e w' => e = .returned (.bool (ltl z d[i]!)) ∧ Below w.heap.size w w' := by
  have hB : Below w.heap.size w (w.alloc (.cells (vals (cl z) 20).toArray 23)) := new_below _ _
  have H : Hid (∀ W, Below (w.alloc (.cells (vals (cl z) 20).toArray 23)).heap.size (w.alloc (.cells (vals (cl z) 20).toArray 23)) W → (loadVar 23 ⟨b, i * 20, none⟩).run Tryd.prog W = .ok (idv d[i]!) W ∧ (loadVar 23 ⟨w.heap.size, 0, none⟩).run Tryd.prog W = .ok (idv z) W ∧ Calls Tryd.prog 21 #[idv z, idv d[i]!] W (fun e w' => e = .returned (.bool (ltl z d[i]!)) ∧ Below (w.alloc (.cells (vals (cl z) 20).toArray 23)).heap.size (w.alloc (.cells (vals (cl z) 20).toArray 23)) w')) := fun W hW =>
    ⟨((h.keep hB).keep hW).load i hi, box_load w W z hz hW, (less_any z d[i]! hz (h.ids i hi) W).mono fun e w' ⟨h1, h2⟩ => ⟨h1, hW.trans (h2.mono hW.size)⟩⟩
  have hi2 : (i : Int) < (d.size : Int) := by omega
  have HB : Hid (Below w.heap.size w (w.alloc (.cells (vals (cl z) 20).toArray 23))) := hB
  have c21 : Hid (∀ vs w, (callFunc 21 vs).run Tryd.prog w = .ok (.enter 21 vs) w) := fun vs w => by simp [go_sem]
  generalize d.size = n at *
  generalize d[i]! = x at *
  generalize ltl z x = v at *
  clear h hB
  go_enter Tryd.func38, Tryd.ntmps38
  go_wp2_with fail
  refine wp_region_quiet (C := fun W => Below (w.alloc (.cells (vals (cl z) 20).toArray 23)).heap.size (w.alloc (.cells (vals (cl z) 20).toArray 23)) W) (by kernel_rfl) (by kernel_rfl) (Below.refl _ _).drew ?_
  repeat
    refine wpQuiet_step (fun K hK => ?_)
    first
      | (refine q_load (by rfl) 23 _ rfl ⟨b, i * 20, none⟩ rfl (idv x) (fun W hW => (H.out W hW).1) (hK _ ?_); clear hK K)
      | (refine q_load (by rfl) 23 _ rfl ⟨w.heap.size, 0, none⟩ rfl (idv z) (fun W hW => (H.out W hW).2.1) (hK _ ?_); clear hK K)
      | (refine q_call2 (by rfl) 21 c21.out _ _ _ rfl (idv z) (idv x) rfl rfl (.bool v) (fun W hW => (H.out W hW).2.2) (hK _ ?_); clear hK K)
      | (go_simp; refine ⟨_, fun wq hs => rfl, hK _ ?_⟩; clear hK K)
  refine wpQuiet_nil ?_
  intro w1 hB1
  go_wp2_with fail
  go_ret
  exact ⟨rfl, HB.out.trans (hB1.mono HB.out.size)⟩

end Go.Proofs.YtmjcikomcnokkaaDoor
