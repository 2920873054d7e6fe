/- fixedCoding. -/
import Derived.Test.YtiahbicodlgmhaaGreatDoorM21
namespace Go.Proofs.YtiahbicodlgmhaaGreatDoor.Z
open Go.RowKit

/-- Two pointers. -/
def p2c (a b : Nat) : Nat → Value
  | 0 => .pointer (some ⟨a, 0, none⟩)
  | _ => .pointer (some ⟨b, 0, none⟩)

theorem p2c_one (a b : Nat) : ∀ j, (p2c a b j).oneCell' = true := by
  intro j
  rcases j with _ | j <;> rfl

theorem size63 : (Tryz.prog.info? 63).map (·.size) = some 2 := by kernel_rfl

set_option maxRecDepth 100000 in
set_option maxHeartbeats 1000000 in
theorem fixedCoding_any (w : World) : Calls Tryz.prog 68 #[] w fun e w' => ∃ R0 R1, e = .returned (.agg #[.pointer (some ⟨R0, 0, none⟩), .pointer (some ⟨R1, 0, none⟩)]) ∧ Cx w' R0 w.heap.size w'.heap.size fl 288 ∧ Cx w' R1 w.heap.size w'.heap.size dl 32 ∧ Below w.heap.size w w' := by
  have b1 : Below w.heap.size w (w.alloc (Obj.cells #[Value.pointer none, Value.pointer none] 63)) := (Below.refl _ _).alloc (Nat.le_refl _) _
  have r1 : (w.alloc (Obj.cells #[Value.pointer none, Value.pointer none] 63)).rowIs w.heap.size 63 2 (fun _ => .pointer none) := World.rowIs_alloc w _ 63 _ (fun i hi => by simp at hi; rcases i with _ | _ | i <;> first | rfl | omega)
  have HB1 : Hid (Below w.heap.size w (w.alloc (Obj.cells #[Value.pointer none, Value.pointer none] 63)) ∧ (w.alloc (Obj.cells #[Value.pointer none, Value.pointer none] 63)).rowIs w.heap.size 63 2 (fun _ => .pointer none)) := ⟨b1, r1⟩
  have hfx := fixed_any (w.alloc (Obj.cells #[Value.pointer none, Value.pointer none] 63))
  clear b1 r1
  go_enter Tryz.func68, Tryz.ntmps68
  go_wp2_with fail
  refine hfx.mono ?_
  rintro e w1 ⟨la, lc, da, rfl, hla, hda, hb1⟩
  have hc1 := codeOf_any la 288 lc fl w1 hla fl_nw
  have H1 : Hid (w1.rowIs da 3 32 (fun _ => .int .i64 5) ∧ Below (w.alloc (Obj.cells #[Value.pointer none, Value.pointer none] 63)).heap.size (w.alloc (Obj.cells #[Value.pointer none, Value.pointer none] 63)) w1) := ⟨hda, hb1⟩
  clear hfx hla hda hb1
  go_wp2_with fail
  refine hc1.mono ?_
  rintro e w2 ⟨R0, rfl, cx0, hb2⟩
  have rd2 : w2.rowIs da 3 32 (fun j => .int .i64 (dl j)) := (H1.out.1.of_block (hb2.block _ H1.out.1.lt)).congr (fun j hj => rfl)
  have hc2 := codeOf_any (some ⟨da, 0, none⟩) 32 32 dl w2 (Ri.row rd2) dl_nw
  have H2 : Hid (Cx w2 R0 w1.heap.size w2.heap.size fl 288 ∧ Below w1.heap.size w1 w2) := ⟨cx0, hb2⟩
  clear hc1 cx0 hb2 rd2
  go_wp2_with fail
  refine hc2.mono ?_
  rintro e w3 ⟨R1, rfl, cx1, hb3⟩
  obtain ⟨a1, a2⟩ := HB1.out
  obtain ⟨_, c2⟩ := H1.out
  obtain ⟨d1, d2⟩ := H2.out
  have B1 := a1.trans (c2.mono a1.size)
  have B2 := B1.trans (d2.mono B1.size)
  have B3 := B2.trans (hb3.mono B2.size)
  have r3 : w3.rowIs w.heap.size 63 2 (fun _ => .pointer none) := ((a2.of_block (c2.block _ a2.lt)).of_block (d2.block _ (by have := a2.lt; have := c2.size; omega))).of_block (hb3.block _ (by have := a2.lt; have := c2.size; have := d2.size; omega))
  have z1 : w.heap.size < w1.heap.size := by have := a2.lt; have := c2.size; omega
  have z2 := d2.size
  have HR3 : Hid (w3.rowIs w.heap.size 63 2 (fun _ => .pointer none)) := r3
  have H3 : Hid (Below w.heap.size w w3 ∧ Cx w3 R0 w1.heap.size w3.heap.size fl 288 ∧ Cx w3 R1 w2.heap.size w3.heap.size dl 32 ∧ w.heap.size < w1.heap.size ∧ w1.heap.size ≤ w2.heap.size) := ⟨B3, (d1.mid (Mid.ofBelow hb3)).upper hb3.size (Nat.le_refl _), cx1, z1, z2⟩
  clear hc2 cx1 hb3 a1 a2 c2 d1 d2 B1 B2 B3 r3 z1 z2 HB1 H1 H2
  go_wp2_with (refine wpList_st rfl 63 _ _ rfl w.heap.size rfl (p2c R0 R1) rfl HR3.out size63 (p2c_one _ _) ?_; intro w5 h5 f5)
  obtain ⟨q1, q2, q3, q4, q5⟩ := H3.out
  refine bodyPost_ret (results_row rfl _ rfl h5 Tryz.underlying63 rfl size63) rfl ⟨R0, R1, rfl, ?_, ?_, q1.trans (f5.below _ q1.size (fun i hi e => by omega))⟩
  · exact ((q2.mid (Mid.ofFr f5 (Nat.le_refl _) (fun k h1 h2 e => by omega))).upper f5.size (Nat.le_refl _)).lower (by omega)
  · exact ((q3.mid (Mid.ofFr f5 (Nat.le_refl _) (fun k h1 h2 e => by omega))).upper f5.size (Nat.le_refl _)).lower (by omega)

end Go.Proofs.YtiahbicodlgmhaaGreatDoor.Z
