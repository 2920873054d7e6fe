/- ObjectCommits: the law. -/
import Derived.Test.YtojgablpjdlegaaGreatDoorMC12
import Derived.Test.YtojgablpjdlegaaGreatDoorMC13
import Derived.Test.YtojgablpjdlegaaGreatDoorMC14
import Derived.Test.YtojgablpjdlegaaGreatDoorM19
namespace Go.Proofs.YtojgablpjdlegaaGreatDoor
open Go.RowKit Go.Shelf

theorem cstep_call2 {w : World} {ops : Array Oper} {o : Oper} {a : Act} {K : Act → World → Prop} {Q : Exit → Act → World → Prop} {E : Prop} {C : Value → World → Prop} (hw : Region.wanted o (yielded ops a.tmps) = true) (f : FuncId) (hf : ∀ vs w, (callFunc f vs).run Tryz.prog w = .ok (.enter f vs) w) (x y : Operand) (ts : Array TypeId) (ho : o.op = .call { callee := .value (.func f), args := #[x, y], argTypes := ts }) (u u' : Value) (hx : a.eval x = u) (hy : a.eval y = u')
    (hc : Calls Tryz.prog f #[u, u'] w (fun e w' => ∃ v, e = .returned v ∧ C v w')) (hk : ∀ v w', C v w' → K (a.put o.dst v) w') : if Region.wanted o (yielded ops a.tmps) = true then Oper.wp Tryz.prog o a w K Q else E := by
  rw [if_pos hw]
  have hr : (resolve a.eval { callee := .value (.func f), args := #[x, y], argTypes := ts } o.type >>= fun d => invoke d.target d.args).run Tryz.prog w = .ok (.enter f #[u, u']) w := by
    rw [← hf #[u, u'] w, ← hx, ← hy]
    simp [resolve, Act.eval, invoke, Deferred.ofValue]
  unfold Oper.wp execOp
  simp only [ho, hr]
  refine hc.mono ?_
  rintro e w' ⟨v, rfl, h⟩
  exact hk v w' h

theorem cmf27 (vs : Array Value) (w : World) : (callFunc 27 vs).run Tryz.prog w = .ok (.enter 27 vs) w := by simp [go_sem]
theorem cmf43 (vs : Array Value) (w : World) : (callFunc 43 vs).run Tryz.prog w = .ok (.enter 43 vs) w := by simp [go_sem]
theorem cmf46 (vs : Array Value) (w : World) : (callFunc 46 vs).run Tryz.prog w = .ok (.enter 46 vs) w := by simp [go_sem]
theorem cmf47 (vs : Array Value) (w : World) : (callFunc 47 vs).run Tryz.prog w = .ok (.enter 47 vs) w := by simp [go_sem]

set_option maxRecDepth 100000 in
set_option maxHeartbeats 4000000 in
theorem commits_long0 (T : List Int) (ao : Option Addr) (n cap : Nat) (A C M : List UInt8) (x : List Int) (k : Int) (N G M2 : List UInt8) (w : World) (hg : Gs w)  (hj : 20 < n) :
    Calls Tryz.prog 6 #[cmv T (.slice ao n cap) A C M, tmv x k N G M2] w fun e w' => e = .returned (.bool true) ∧ Below w.heap.size w w' := by
  have hz := zero47
  have hz2 := zero56
  obtain ⟨W, hW⟩ : ∃ W, W = (w.alloc (Obj.cells (vals (cf T (.slice ao n cap) A C M) 24).toArray 47)).alloc (Obj.cells (vals (tf x k N G M2) 24).toArray 56) := ⟨_, rfl⟩
  have b0 := new_below w (Obj.cells (vals (cf T (.slice ao n cap) A C M) 24).toArray 47)
  have bW : Below w.heap.size w W := by rw [hW]; exact b0.alloc b0.size _
  have r1 : W.rowIs w.heap.size 47 24 (cf T (.slice ao n cap) A C M) := by rw [hW]; exact rowIs_fr (P := fun _ => False) (rowIs_vals w _ 24 47) (Fr.ofBelow (new_below _ _)) (fun h => h)
  have r2 : W.rowIs (w.heap.size + 1) 56 24 (tf x k N G M2) := by rw [hW]; have := rowIs_vals (w.alloc (Obj.cells (vals (cf T (.slice ao n cap) A C M) 24).toArray 47)) (tf x k N G M2) 24 56; simpa using this
  have HB : Hid (Below w.heap.size w W) := bW
  have HR : Hid (∀ V, Below W.heap.size W V → V.rowIs w.heap.size 47 24 (cf T (.slice ao n cap) A C M) ∧ V.rowIs (w.heap.size + 1) 56 24 (tf x k N G M2)) := fun V hV => ⟨rowIs_fr (P := fun _ => False) r1 (Fr.ofBelow hV) (fun h => h), rowIs_fr (P := fun _ => False) r2 (Fr.ofBelow hV) (fun h => h)⟩
  have HRC : Hid (∀ V, Below W.heap.size W V → V.cell? ⟨w.heap.size, 20, none⟩ = some (.slice ao n cap) ∧ V.cell? ⟨w.heap.size, 21, none⟩ = some (sv A) ∧ V.cell? ⟨w.heap.size, 22, none⟩ = some (sv C) ∧ V.cell? ⟨w.heap.size, 23, none⟩ = some (sv M) ∧ V.cell? ⟨w.heap.size + 1, 21, none⟩ = some (sv N) ∧ V.cell? ⟨w.heap.size + 1, 22, none⟩ = some (sv G) ∧ V.cell? ⟨w.heap.size + 1, 23, none⟩ = some (sv M2)) := fun V hV => by
    obtain ⟨g1, g2⟩ := HR.out V hV
    exact ⟨g1.cell (i := 20) (by omega), g1.cell (i := 21) (by omega), g1.cell (i := 22) (by omega), g1.cell (i := 23) (by omega), g2.cell (i := 21) (by omega), g2.cell (i := 22) (by omega), g2.cell (i := 23) (by omega)⟩
  have HK : Hid (Calls Tryz.prog 9 #[] W fun e w' => e = .returned (.bool true) ∧ Below W.heap.size W w') := known_yes W (hg.keep bW)
  have d0 : decide ((20 : Int) < (n : Int)) = true := by simp; omega
  have e0 : decide (20 < n) = true := by simp; omega
  have HW : Hid (W = (w.alloc (Obj.cells (vals (cf T (.slice ao n cap) A C M) 24).toArray 47)).alloc (Obj.cells (vals (tf x k N G M2) 24).toArray 56)) := hW
  clear b0 bW r1 r2 hW hg hj
  go_enter Tryz.func6, Tryz.ntmps6
  go_wp2_with fail
  rw [← HW.out]
  refine (show Calls Tryz.prog 9 #[] W _ from HK.out).mono ?_
  rintro e w1 ⟨rfl, b1⟩
  have HB1 : Hid (Below W.heap.size W w1) := b1
  obtain ⟨c20, c21, c22, c23, k21, k22, k23⟩ := HRC.out w1 b1
  clear b1
  go_wp2_with fail
  go_ret
  exact ⟨rfl, HB.out.trans (HB1.out.mono HB.out.size)⟩

set_option maxRecDepth 100000 in
set_option maxHeartbeats 4000000 in
theorem commits_long1 (T : List Int) (ao : Option Addr) (n cap : Nat) (A C M : List UInt8) (x : List Int) (k : Int) (N G M2 : List UInt8) (w : World) (hg : Gs w) (h0 : n ≤ 20) (hj : 300 < A.length) :
    Calls Tryz.prog 6 #[cmv T (.slice ao n cap) A C M, tmv x k N G M2] w fun e w' => e = .returned (.bool true) ∧ Below w.heap.size w w' := by
  have hz := zero47
  have hz2 := zero56
  obtain ⟨W, hW⟩ : ∃ W, W = (w.alloc (Obj.cells (vals (cf T (.slice ao n cap) A C M) 24).toArray 47)).alloc (Obj.cells (vals (tf x k N G M2) 24).toArray 56) := ⟨_, rfl⟩
  have b0 := new_below w (Obj.cells (vals (cf T (.slice ao n cap) A C M) 24).toArray 47)
  have bW : Below w.heap.size w W := by rw [hW]; exact b0.alloc b0.size _
  have r1 : W.rowIs w.heap.size 47 24 (cf T (.slice ao n cap) A C M) := by rw [hW]; exact rowIs_fr (P := fun _ => False) (rowIs_vals w _ 24 47) (Fr.ofBelow (new_below _ _)) (fun h => h)
  have r2 : W.rowIs (w.heap.size + 1) 56 24 (tf x k N G M2) := by rw [hW]; have := rowIs_vals (w.alloc (Obj.cells (vals (cf T (.slice ao n cap) A C M) 24).toArray 47)) (tf x k N G M2) 24 56; simpa using this
  have HB : Hid (Below w.heap.size w W) := bW
  have HR : Hid (∀ V, Below W.heap.size W V → V.rowIs w.heap.size 47 24 (cf T (.slice ao n cap) A C M) ∧ V.rowIs (w.heap.size + 1) 56 24 (tf x k N G M2)) := fun V hV => ⟨rowIs_fr (P := fun _ => False) r1 (Fr.ofBelow hV) (fun h => h), rowIs_fr (P := fun _ => False) r2 (Fr.ofBelow hV) (fun h => h)⟩
  have HRC : Hid (∀ V, Below W.heap.size W V → V.cell? ⟨w.heap.size, 20, none⟩ = some (.slice ao n cap) ∧ V.cell? ⟨w.heap.size, 21, none⟩ = some (sv A) ∧ V.cell? ⟨w.heap.size, 22, none⟩ = some (sv C) ∧ V.cell? ⟨w.heap.size, 23, none⟩ = some (sv M) ∧ V.cell? ⟨w.heap.size + 1, 21, none⟩ = some (sv N) ∧ V.cell? ⟨w.heap.size + 1, 22, none⟩ = some (sv G) ∧ V.cell? ⟨w.heap.size + 1, 23, none⟩ = some (sv M2)) := fun V hV => by
    obtain ⟨g1, g2⟩ := HR.out V hV
    exact ⟨g1.cell (i := 20) (by omega), g1.cell (i := 21) (by omega), g1.cell (i := 22) (by omega), g1.cell (i := 23) (by omega), g2.cell (i := 21) (by omega), g2.cell (i := 22) (by omega), g2.cell (i := 23) (by omega)⟩
  have HK : Hid (Calls Tryz.prog 9 #[] W fun e w' => e = .returned (.bool true) ∧ Below W.heap.size W w') := known_yes W (hg.keep bW)
  have d0 : decide ((20 : Int) < (n : Int)) = false := by simp; omega
  have e0 : decide (20 < n) = false := by simp; omega
  have d1 : decide ((300 : Int) < (A.length : Int)) = true := by simp; omega
  have e1 : decide (300 < A.length) = true := by simp; omega
  have HW : Hid (W = (w.alloc (Obj.cells (vals (cf T (.slice ao n cap) A C M) 24).toArray 47)).alloc (Obj.cells (vals (tf x k N G M2) 24).toArray 56)) := hW
  clear b0 bW r1 r2 hW hg hj h0
  go_enter Tryz.func6, Tryz.ntmps6
  go_wp2_with fail
  rw [← HW.out]
  refine (show Calls Tryz.prog 9 #[] W _ from HK.out).mono ?_
  rintro e w1 ⟨rfl, b1⟩
  have HB1 : Hid (Below W.heap.size W w1) := b1
  obtain ⟨c20, c21, c22, c23, k21, k22, k23⟩ := HRC.out w1 b1
  clear b1
  go_wp2_with fail
  go_ret
  exact ⟨rfl, HB.out.trans (HB1.out.mono HB.out.size)⟩

set_option maxRecDepth 100000 in
set_option maxHeartbeats 4000000 in
theorem commits_long2 (T : List Int) (ao : Option Addr) (n cap : Nat) (A C M : List UInt8) (x : List Int) (k : Int) (N G M2 : List UInt8) (w : World) (hg : Gs w) (h0 : n ≤ 20) (h1 : A.length ≤ 300) (hj : 300 < C.length) :
    Calls Tryz.prog 6 #[cmv T (.slice ao n cap) A C M, tmv x k N G M2] w fun e w' => e = .returned (.bool true) ∧ Below w.heap.size w w' := by
  have hz := zero47
  have hz2 := zero56
  obtain ⟨W, hW⟩ : ∃ W, W = (w.alloc (Obj.cells (vals (cf T (.slice ao n cap) A C M) 24).toArray 47)).alloc (Obj.cells (vals (tf x k N G M2) 24).toArray 56) := ⟨_, rfl⟩
  have b0 := new_below w (Obj.cells (vals (cf T (.slice ao n cap) A C M) 24).toArray 47)
  have bW : Below w.heap.size w W := by rw [hW]; exact b0.alloc b0.size _
  have r1 : W.rowIs w.heap.size 47 24 (cf T (.slice ao n cap) A C M) := by rw [hW]; exact rowIs_fr (P := fun _ => False) (rowIs_vals w _ 24 47) (Fr.ofBelow (new_below _ _)) (fun h => h)
  have r2 : W.rowIs (w.heap.size + 1) 56 24 (tf x k N G M2) := by rw [hW]; have := rowIs_vals (w.alloc (Obj.cells (vals (cf T (.slice ao n cap) A C M) 24).toArray 47)) (tf x k N G M2) 24 56; simpa using this
  have HB : Hid (Below w.heap.size w W) := bW
  have HR : Hid (∀ V, Below W.heap.size W V → V.rowIs w.heap.size 47 24 (cf T (.slice ao n cap) A C M) ∧ V.rowIs (w.heap.size + 1) 56 24 (tf x k N G M2)) := fun V hV => ⟨rowIs_fr (P := fun _ => False) r1 (Fr.ofBelow hV) (fun h => h), rowIs_fr (P := fun _ => False) r2 (Fr.ofBelow hV) (fun h => h)⟩
  have HRC : Hid (∀ V, Below W.heap.size W V → V.cell? ⟨w.heap.size, 20, none⟩ = some (.slice ao n cap) ∧ V.cell? ⟨w.heap.size, 21, none⟩ = some (sv A) ∧ V.cell? ⟨w.heap.size, 22, none⟩ = some (sv C) ∧ V.cell? ⟨w.heap.size, 23, none⟩ = some (sv M) ∧ V.cell? ⟨w.heap.size + 1, 21, none⟩ = some (sv N) ∧ V.cell? ⟨w.heap.size + 1, 22, none⟩ = some (sv G) ∧ V.cell? ⟨w.heap.size + 1, 23, none⟩ = some (sv M2)) := fun V hV => by
    obtain ⟨g1, g2⟩ := HR.out V hV
    exact ⟨g1.cell (i := 20) (by omega), g1.cell (i := 21) (by omega), g1.cell (i := 22) (by omega), g1.cell (i := 23) (by omega), g2.cell (i := 21) (by omega), g2.cell (i := 22) (by omega), g2.cell (i := 23) (by omega)⟩
  have HK : Hid (Calls Tryz.prog 9 #[] W fun e w' => e = .returned (.bool true) ∧ Below W.heap.size W w') := known_yes W (hg.keep bW)
  have d0 : decide ((20 : Int) < (n : Int)) = false := by simp; omega
  have e0 : decide (20 < n) = false := by simp; omega
  have d1 : decide ((300 : Int) < (A.length : Int)) = false := by simp; omega
  have e1 : decide (300 < A.length) = false := by simp; omega
  have d2 : decide ((300 : Int) < (C.length : Int)) = true := by simp; omega
  have e2 : decide (300 < C.length) = true := by simp; omega
  have HW : Hid (W = (w.alloc (Obj.cells (vals (cf T (.slice ao n cap) A C M) 24).toArray 47)).alloc (Obj.cells (vals (tf x k N G M2) 24).toArray 56)) := hW
  clear b0 bW r1 r2 hW hg hj h0 h1
  go_enter Tryz.func6, Tryz.ntmps6
  go_wp2_with fail
  rw [← HW.out]
  refine (show Calls Tryz.prog 9 #[] W _ from HK.out).mono ?_
  rintro e w1 ⟨rfl, b1⟩
  have HB1 : Hid (Below W.heap.size W w1) := b1
  obtain ⟨c20, c21, c22, c23, k21, k22, k23⟩ := HRC.out w1 b1
  clear b1
  go_wp2_with fail
  go_ret
  exact ⟨rfl, HB.out.trans (HB1.out.mono HB.out.size)⟩

set_option maxRecDepth 100000 in
set_option maxHeartbeats 4000000 in
theorem commits_long3 (T : List Int) (ao : Option Addr) (n cap : Nat) (A C M : List UInt8) (x : List Int) (k : Int) (N G M2 : List UInt8) (w : World) (hg : Gs w) (h0 : n ≤ 20) (h1 : A.length ≤ 300) (h2 : C.length ≤ 300) (hj : 3000 < M.length) :
    Calls Tryz.prog 6 #[cmv T (.slice ao n cap) A C M, tmv x k N G M2] w fun e w' => e = .returned (.bool true) ∧ Below w.heap.size w w' := by
  have hz := zero47
  have hz2 := zero56
  obtain ⟨W, hW⟩ : ∃ W, W = (w.alloc (Obj.cells (vals (cf T (.slice ao n cap) A C M) 24).toArray 47)).alloc (Obj.cells (vals (tf x k N G M2) 24).toArray 56) := ⟨_, rfl⟩
  have b0 := new_below w (Obj.cells (vals (cf T (.slice ao n cap) A C M) 24).toArray 47)
  have bW : Below w.heap.size w W := by rw [hW]; exact b0.alloc b0.size _
  have r1 : W.rowIs w.heap.size 47 24 (cf T (.slice ao n cap) A C M) := by rw [hW]; exact rowIs_fr (P := fun _ => False) (rowIs_vals w _ 24 47) (Fr.ofBelow (new_below _ _)) (fun h => h)
  have r2 : W.rowIs (w.heap.size + 1) 56 24 (tf x k N G M2) := by rw [hW]; have := rowIs_vals (w.alloc (Obj.cells (vals (cf T (.slice ao n cap) A C M) 24).toArray 47)) (tf x k N G M2) 24 56; simpa using this
  have HB : Hid (Below w.heap.size w W) := bW
  have HR : Hid (∀ V, Below W.heap.size W V → V.rowIs w.heap.size 47 24 (cf T (.slice ao n cap) A C M) ∧ V.rowIs (w.heap.size + 1) 56 24 (tf x k N G M2)) := fun V hV => ⟨rowIs_fr (P := fun _ => False) r1 (Fr.ofBelow hV) (fun h => h), rowIs_fr (P := fun _ => False) r2 (Fr.ofBelow hV) (fun h => h)⟩
  have HRC : Hid (∀ V, Below W.heap.size W V → V.cell? ⟨w.heap.size, 20, none⟩ = some (.slice ao n cap) ∧ V.cell? ⟨w.heap.size, 21, none⟩ = some (sv A) ∧ V.cell? ⟨w.heap.size, 22, none⟩ = some (sv C) ∧ V.cell? ⟨w.heap.size, 23, none⟩ = some (sv M) ∧ V.cell? ⟨w.heap.size + 1, 21, none⟩ = some (sv N) ∧ V.cell? ⟨w.heap.size + 1, 22, none⟩ = some (sv G) ∧ V.cell? ⟨w.heap.size + 1, 23, none⟩ = some (sv M2)) := fun V hV => by
    obtain ⟨g1, g2⟩ := HR.out V hV
    exact ⟨g1.cell (i := 20) (by omega), g1.cell (i := 21) (by omega), g1.cell (i := 22) (by omega), g1.cell (i := 23) (by omega), g2.cell (i := 21) (by omega), g2.cell (i := 22) (by omega), g2.cell (i := 23) (by omega)⟩
  have HK : Hid (Calls Tryz.prog 9 #[] W fun e w' => e = .returned (.bool true) ∧ Below W.heap.size W w') := known_yes W (hg.keep bW)
  have d0 : decide ((20 : Int) < (n : Int)) = false := by simp; omega
  have e0 : decide (20 < n) = false := by simp; omega
  have d1 : decide ((300 : Int) < (A.length : Int)) = false := by simp; omega
  have e1 : decide (300 < A.length) = false := by simp; omega
  have d2 : decide ((300 : Int) < (C.length : Int)) = false := by simp; omega
  have e2 : decide (300 < C.length) = false := by simp; omega
  have d3 : decide ((3000 : Int) < (M.length : Int)) = true := by simp; omega
  have e3 : decide (3000 < M.length) = true := by simp; omega
  have HW : Hid (W = (w.alloc (Obj.cells (vals (cf T (.slice ao n cap) A C M) 24).toArray 47)).alloc (Obj.cells (vals (tf x k N G M2) 24).toArray 56)) := hW
  clear b0 bW r1 r2 hW hg hj h0 h1 h2
  go_enter Tryz.func6, Tryz.ntmps6
  go_wp2_with fail
  rw [← HW.out]
  refine (show Calls Tryz.prog 9 #[] W _ from HK.out).mono ?_
  rintro e w1 ⟨rfl, b1⟩
  have HB1 : Hid (Below W.heap.size W w1) := b1
  obtain ⟨c20, c21, c22, c23, k21, k22, k23⟩ := HRC.out w1 b1
  clear b1
  go_wp2_with fail
  go_ret
  exact ⟨rfl, HB.out.trans (HB1.out.mono HB.out.size)⟩

set_option maxRecDepth 100000 in
set_option maxHeartbeats 4000000 in
theorem commits_long4 (T : List Int) (ao : Option Addr) (n cap : Nat) (A C M : List UInt8) (x : List Int) (k : Int) (N G M2 : List UInt8) (w : World) (hg : Gs w) (h0 : n ≤ 20) (h1 : A.length ≤ 300) (h2 : C.length ≤ 300) (h3 : M.length ≤ 3000) (hj : 300 < N.length) :
    Calls Tryz.prog 6 #[cmv T (.slice ao n cap) A C M, tmv x k N G M2] w fun e w' => e = .returned (.bool true) ∧ Below w.heap.size w w' := by
  have hz := zero47
  have hz2 := zero56
  obtain ⟨W, hW⟩ : ∃ W, W = (w.alloc (Obj.cells (vals (cf T (.slice ao n cap) A C M) 24).toArray 47)).alloc (Obj.cells (vals (tf x k N G M2) 24).toArray 56) := ⟨_, rfl⟩
  have b0 := new_below w (Obj.cells (vals (cf T (.slice ao n cap) A C M) 24).toArray 47)
  have bW : Below w.heap.size w W := by rw [hW]; exact b0.alloc b0.size _
  have r1 : W.rowIs w.heap.size 47 24 (cf T (.slice ao n cap) A C M) := by rw [hW]; exact rowIs_fr (P := fun _ => False) (rowIs_vals w _ 24 47) (Fr.ofBelow (new_below _ _)) (fun h => h)
  have r2 : W.rowIs (w.heap.size + 1) 56 24 (tf x k N G M2) := by rw [hW]; have := rowIs_vals (w.alloc (Obj.cells (vals (cf T (.slice ao n cap) A C M) 24).toArray 47)) (tf x k N G M2) 24 56; simpa using this
  have HB : Hid (Below w.heap.size w W) := bW
  have HR : Hid (∀ V, Below W.heap.size W V → V.rowIs w.heap.size 47 24 (cf T (.slice ao n cap) A C M) ∧ V.rowIs (w.heap.size + 1) 56 24 (tf x k N G M2)) := fun V hV => ⟨rowIs_fr (P := fun _ => False) r1 (Fr.ofBelow hV) (fun h => h), rowIs_fr (P := fun _ => False) r2 (Fr.ofBelow hV) (fun h => h)⟩
  have HRC : Hid (∀ V, Below W.heap.size W V → V.cell? ⟨w.heap.size, 20, none⟩ = some (.slice ao n cap) ∧ V.cell? ⟨w.heap.size, 21, none⟩ = some (sv A) ∧ V.cell? ⟨w.heap.size, 22, none⟩ = some (sv C) ∧ V.cell? ⟨w.heap.size, 23, none⟩ = some (sv M) ∧ V.cell? ⟨w.heap.size + 1, 21, none⟩ = some (sv N) ∧ V.cell? ⟨w.heap.size + 1, 22, none⟩ = some (sv G) ∧ V.cell? ⟨w.heap.size + 1, 23, none⟩ = some (sv M2)) := fun V hV => by
    obtain ⟨g1, g2⟩ := HR.out V hV
    exact ⟨g1.cell (i := 20) (by omega), g1.cell (i := 21) (by omega), g1.cell (i := 22) (by omega), g1.cell (i := 23) (by omega), g2.cell (i := 21) (by omega), g2.cell (i := 22) (by omega), g2.cell (i := 23) (by omega)⟩
  have HK : Hid (Calls Tryz.prog 9 #[] W fun e w' => e = .returned (.bool true) ∧ Below W.heap.size W w') := known_yes W (hg.keep bW)
  have d0 : decide ((20 : Int) < (n : Int)) = false := by simp; omega
  have e0 : decide (20 < n) = false := by simp; omega
  have d1 : decide ((300 : Int) < (A.length : Int)) = false := by simp; omega
  have e1 : decide (300 < A.length) = false := by simp; omega
  have d2 : decide ((300 : Int) < (C.length : Int)) = false := by simp; omega
  have e2 : decide (300 < C.length) = false := by simp; omega
  have d3 : decide ((3000 : Int) < (M.length : Int)) = false := by simp; omega
  have e3 : decide (3000 < M.length) = false := by simp; omega
  have d4 : decide ((300 : Int) < (N.length : Int)) = true := by simp; omega
  have e4 : decide (300 < N.length) = true := by simp; omega
  have HW : Hid (W = (w.alloc (Obj.cells (vals (cf T (.slice ao n cap) A C M) 24).toArray 47)).alloc (Obj.cells (vals (tf x k N G M2) 24).toArray 56)) := hW
  clear b0 bW r1 r2 hW hg hj h0 h1 h2 h3
  go_enter Tryz.func6, Tryz.ntmps6
  go_wp2_with fail
  rw [← HW.out]
  refine (show Calls Tryz.prog 9 #[] W _ from HK.out).mono ?_
  rintro e w1 ⟨rfl, b1⟩
  have HB1 : Hid (Below W.heap.size W w1) := b1
  obtain ⟨c20, c21, c22, c23, k21, k22, k23⟩ := HRC.out w1 b1
  clear b1
  go_wp2_with fail
  go_ret
  exact ⟨rfl, HB.out.trans (HB1.out.mono HB.out.size)⟩

set_option maxRecDepth 100000 in
set_option maxHeartbeats 4000000 in
theorem commits_long5 (T : List Int) (ao : Option Addr) (n cap : Nat) (A C M : List UInt8) (x : List Int) (k : Int) (N G M2 : List UInt8) (w : World) (hg : Gs w) (h0 : n ≤ 20) (h1 : A.length ≤ 300) (h2 : C.length ≤ 300) (h3 : M.length ≤ 3000) (h4 : N.length ≤ 300) (hj : 300 < G.length) :
    Calls Tryz.prog 6 #[cmv T (.slice ao n cap) A C M, tmv x k N G M2] w fun e w' => e = .returned (.bool true) ∧ Below w.heap.size w w' := by
  have hz := zero47
  have hz2 := zero56
  obtain ⟨W, hW⟩ : ∃ W, W = (w.alloc (Obj.cells (vals (cf T (.slice ao n cap) A C M) 24).toArray 47)).alloc (Obj.cells (vals (tf x k N G M2) 24).toArray 56) := ⟨_, rfl⟩
  have b0 := new_below w (Obj.cells (vals (cf T (.slice ao n cap) A C M) 24).toArray 47)
  have bW : Below w.heap.size w W := by rw [hW]; exact b0.alloc b0.size _
  have r1 : W.rowIs w.heap.size 47 24 (cf T (.slice ao n cap) A C M) := by rw [hW]; exact rowIs_fr (P := fun _ => False) (rowIs_vals w _ 24 47) (Fr.ofBelow (new_below _ _)) (fun h => h)
  have r2 : W.rowIs (w.heap.size + 1) 56 24 (tf x k N G M2) := by rw [hW]; have := rowIs_vals (w.alloc (Obj.cells (vals (cf T (.slice ao n cap) A C M) 24).toArray 47)) (tf x k N G M2) 24 56; simpa using this
  have HB : Hid (Below w.heap.size w W) := bW
  have HR : Hid (∀ V, Below W.heap.size W V → V.rowIs w.heap.size 47 24 (cf T (.slice ao n cap) A C M) ∧ V.rowIs (w.heap.size + 1) 56 24 (tf x k N G M2)) := fun V hV => ⟨rowIs_fr (P := fun _ => False) r1 (Fr.ofBelow hV) (fun h => h), rowIs_fr (P := fun _ => False) r2 (Fr.ofBelow hV) (fun h => h)⟩
  have HRC : Hid (∀ V, Below W.heap.size W V → V.cell? ⟨w.heap.size, 20, none⟩ = some (.slice ao n cap) ∧ V.cell? ⟨w.heap.size, 21, none⟩ = some (sv A) ∧ V.cell? ⟨w.heap.size, 22, none⟩ = some (sv C) ∧ V.cell? ⟨w.heap.size, 23, none⟩ = some (sv M) ∧ V.cell? ⟨w.heap.size + 1, 21, none⟩ = some (sv N) ∧ V.cell? ⟨w.heap.size + 1, 22, none⟩ = some (sv G) ∧ V.cell? ⟨w.heap.size + 1, 23, none⟩ = some (sv M2)) := fun V hV => by
    obtain ⟨g1, g2⟩ := HR.out V hV
    exact ⟨g1.cell (i := 20) (by omega), g1.cell (i := 21) (by omega), g1.cell (i := 22) (by omega), g1.cell (i := 23) (by omega), g2.cell (i := 21) (by omega), g2.cell (i := 22) (by omega), g2.cell (i := 23) (by omega)⟩
  have HK : Hid (Calls Tryz.prog 9 #[] W fun e w' => e = .returned (.bool true) ∧ Below W.heap.size W w') := known_yes W (hg.keep bW)
  have d0 : decide ((20 : Int) < (n : Int)) = false := by simp; omega
  have e0 : decide (20 < n) = false := by simp; omega
  have d1 : decide ((300 : Int) < (A.length : Int)) = false := by simp; omega
  have e1 : decide (300 < A.length) = false := by simp; omega
  have d2 : decide ((300 : Int) < (C.length : Int)) = false := by simp; omega
  have e2 : decide (300 < C.length) = false := by simp; omega
  have d3 : decide ((3000 : Int) < (M.length : Int)) = false := by simp; omega
  have e3 : decide (3000 < M.length) = false := by simp; omega
  have d4 : decide ((300 : Int) < (N.length : Int)) = false := by simp; omega
  have e4 : decide (300 < N.length) = false := by simp; omega
  have d5 : decide ((300 : Int) < (G.length : Int)) = true := by simp; omega
  have e5 : decide (300 < G.length) = true := by simp; omega
  have HW : Hid (W = (w.alloc (Obj.cells (vals (cf T (.slice ao n cap) A C M) 24).toArray 47)).alloc (Obj.cells (vals (tf x k N G M2) 24).toArray 56)) := hW
  clear b0 bW r1 r2 hW hg hj h0 h1 h2 h3 h4
  go_enter Tryz.func6, Tryz.ntmps6
  go_wp2_with fail
  rw [← HW.out]
  refine (show Calls Tryz.prog 9 #[] W _ from HK.out).mono ?_
  rintro e w1 ⟨rfl, b1⟩
  have HB1 : Hid (Below W.heap.size W w1) := b1
  obtain ⟨c20, c21, c22, c23, k21, k22, k23⟩ := HRC.out w1 b1
  clear b1
  go_wp2_with fail
  go_ret
  exact ⟨rfl, HB.out.trans (HB1.out.mono HB.out.size)⟩

set_option maxRecDepth 100000 in
set_option maxHeartbeats 4000000 in
theorem commits_long6 (T : List Int) (ao : Option Addr) (n cap : Nat) (A C M : List UInt8) (x : List Int) (k : Int) (N G M2 : List UInt8) (w : World) (hg : Gs w) (h0 : n ≤ 20) (h1 : A.length ≤ 300) (h2 : C.length ≤ 300) (h3 : M.length ≤ 3000) (h4 : N.length ≤ 300) (h5 : G.length ≤ 300) (hj : 3000 < M2.length) :
    Calls Tryz.prog 6 #[cmv T (.slice ao n cap) A C M, tmv x k N G M2] w fun e w' => e = .returned (.bool true) ∧ Below w.heap.size w w' := by
  have hz := zero47
  have hz2 := zero56
  obtain ⟨W, hW⟩ : ∃ W, W = (w.alloc (Obj.cells (vals (cf T (.slice ao n cap) A C M) 24).toArray 47)).alloc (Obj.cells (vals (tf x k N G M2) 24).toArray 56) := ⟨_, rfl⟩
  have b0 := new_below w (Obj.cells (vals (cf T (.slice ao n cap) A C M) 24).toArray 47)
  have bW : Below w.heap.size w W := by rw [hW]; exact b0.alloc b0.size _
  have r1 : W.rowIs w.heap.size 47 24 (cf T (.slice ao n cap) A C M) := by rw [hW]; exact rowIs_fr (P := fun _ => False) (rowIs_vals w _ 24 47) (Fr.ofBelow (new_below _ _)) (fun h => h)
  have r2 : W.rowIs (w.heap.size + 1) 56 24 (tf x k N G M2) := by rw [hW]; have := rowIs_vals (w.alloc (Obj.cells (vals (cf T (.slice ao n cap) A C M) 24).toArray 47)) (tf x k N G M2) 24 56; simpa using this
  have HB : Hid (Below w.heap.size w W) := bW
  have HR : Hid (∀ V, Below W.heap.size W V → V.rowIs w.heap.size 47 24 (cf T (.slice ao n cap) A C M) ∧ V.rowIs (w.heap.size + 1) 56 24 (tf x k N G M2)) := fun V hV => ⟨rowIs_fr (P := fun _ => False) r1 (Fr.ofBelow hV) (fun h => h), rowIs_fr (P := fun _ => False) r2 (Fr.ofBelow hV) (fun h => h)⟩
  have HRC : Hid (∀ V, Below W.heap.size W V → V.cell? ⟨w.heap.size, 20, none⟩ = some (.slice ao n cap) ∧ V.cell? ⟨w.heap.size, 21, none⟩ = some (sv A) ∧ V.cell? ⟨w.heap.size, 22, none⟩ = some (sv C) ∧ V.cell? ⟨w.heap.size, 23, none⟩ = some (sv M) ∧ V.cell? ⟨w.heap.size + 1, 21, none⟩ = some (sv N) ∧ V.cell? ⟨w.heap.size + 1, 22, none⟩ = some (sv G) ∧ V.cell? ⟨w.heap.size + 1, 23, none⟩ = some (sv M2)) := fun V hV => by
    obtain ⟨g1, g2⟩ := HR.out V hV
    exact ⟨g1.cell (i := 20) (by omega), g1.cell (i := 21) (by omega), g1.cell (i := 22) (by omega), g1.cell (i := 23) (by omega), g2.cell (i := 21) (by omega), g2.cell (i := 22) (by omega), g2.cell (i := 23) (by omega)⟩
  have HK : Hid (Calls Tryz.prog 9 #[] W fun e w' => e = .returned (.bool true) ∧ Below W.heap.size W w') := known_yes W (hg.keep bW)
  have d0 : decide ((20 : Int) < (n : Int)) = false := by simp; omega
  have e0 : decide (20 < n) = false := by simp; omega
  have d1 : decide ((300 : Int) < (A.length : Int)) = false := by simp; omega
  have e1 : decide (300 < A.length) = false := by simp; omega
  have d2 : decide ((300 : Int) < (C.length : Int)) = false := by simp; omega
  have e2 : decide (300 < C.length) = false := by simp; omega
  have d3 : decide ((3000 : Int) < (M.length : Int)) = false := by simp; omega
  have e3 : decide (3000 < M.length) = false := by simp; omega
  have d4 : decide ((300 : Int) < (N.length : Int)) = false := by simp; omega
  have e4 : decide (300 < N.length) = false := by simp; omega
  have d5 : decide ((300 : Int) < (G.length : Int)) = false := by simp; omega
  have e5 : decide (300 < G.length) = false := by simp; omega
  have d6 : decide ((3000 : Int) < (M2.length : Int)) = true := by simp; omega
  have e6 : decide (3000 < M2.length) = true := by simp; omega
  have HW : Hid (W = (w.alloc (Obj.cells (vals (cf T (.slice ao n cap) A C M) 24).toArray 47)).alloc (Obj.cells (vals (tf x k N G M2) 24).toArray 56)) := hW
  clear b0 bW r1 r2 hW hg hj h0 h1 h2 h3 h4 h5
  go_enter Tryz.func6, Tryz.ntmps6
  go_wp2_with fail
  rw [← HW.out]
  refine (show Calls Tryz.prog 9 #[] W _ from HK.out).mono ?_
  rintro e w1 ⟨rfl, b1⟩
  have HB1 : Hid (Below W.heap.size W w1) := b1
  obtain ⟨c20, c21, c22, c23, k21, k22, k23⟩ := HRC.out w1 b1
  clear b1
  go_wp2_with fail
  go_ret
  exact ⟨rfl, HB.out.trans (HB1.out.mono HB.out.size)⟩

set_option maxRecDepth 100000 in
set_option maxHeartbeats 16000000 in
theorem commits_go (T : List Int) (ao : Option Addr) (n cap : Nat) (A C M : List UInt8) (x : List Int) (k : Int) (N G M2 : List UInt8) (w : World) (hg : Gs w) (d : Array (List Int)) (hnd : n = d.size) (hv : Is w (.slice ao n cap) d) (hT : IsId T) (hx : IsId x) (h0 : n ≤ 20) (h1 : A.length ≤ 300) (h2 : C.length ≤ 300) (h3 : M.length ≤ 3000) (h4 : N.length ≤ 300) (h5 : G.length ≤ 300) (h6 : M2.length ≤ 3000) :
    Calls Tryz.prog 6 #[cmv T (.slice ao n cap) A C M, tmv x k N G M2] w fun e w' => e = .returned (.bool true) ∧ Below w.heap.size w w' := by
  have hz := zero47
  have hz2 := zero56
  obtain ⟨W, hW⟩ : ∃ W, W = (w.alloc (Obj.cells (vals (cf T (.slice ao n cap) A C M) 24).toArray 47)).alloc (Obj.cells (vals (tf x k N G M2) 24).toArray 56) := ⟨_, rfl⟩
  have b0 := new_below w (Obj.cells (vals (cf T (.slice ao n cap) A C M) 24).toArray 47)
  have bW : Below w.heap.size w W := by rw [hW]; exact b0.alloc b0.size _
  have r1 : W.rowIs w.heap.size 47 24 (cf T (.slice ao n cap) A C M) := by rw [hW]; exact rowIs_fr (P := fun _ => False) (rowIs_vals w _ 24 47) (Fr.ofBelow (new_below _ _)) (fun h => h)
  have r2 : W.rowIs (w.heap.size + 1) 56 24 (tf x k N G M2) := by rw [hW]; have := rowIs_vals (w.alloc (Obj.cells (vals (cf T (.slice ao n cap) A C M) 24).toArray 47)) (tf x k N G M2) 24 56; simpa using this
  have HB : Hid (Below w.heap.size w W) := bW
  have HR : Hid (∀ V, Below W.heap.size W V → V.rowIs w.heap.size 47 24 (cf T (.slice ao n cap) A C M) ∧ V.rowIs (w.heap.size + 1) 56 24 (tf x k N G M2)) := fun V hV => ⟨rowIs_fr (P := fun _ => False) r1 (Fr.ofBelow hV) (fun h => h), rowIs_fr (P := fun _ => False) r2 (Fr.ofBelow hV) (fun h => h)⟩
  have HRC : Hid (∀ V, Below W.heap.size W V → V.cell? ⟨w.heap.size, 20, none⟩ = some (.slice ao n cap) ∧ V.cell? ⟨w.heap.size, 21, none⟩ = some (sv A) ∧ V.cell? ⟨w.heap.size, 22, none⟩ = some (sv C) ∧ V.cell? ⟨w.heap.size, 23, none⟩ = some (sv M) ∧ V.cell? ⟨w.heap.size + 1, 21, none⟩ = some (sv N) ∧ V.cell? ⟨w.heap.size + 1, 22, none⟩ = some (sv G) ∧ V.cell? ⟨w.heap.size + 1, 23, none⟩ = some (sv M2)) := fun V hV => by
    obtain ⟨g1, g2⟩ := HR.out V hV
    exact ⟨g1.cell (i := 20) (by omega), g1.cell (i := 21) (by omega), g1.cell (i := 22) (by omega), g1.cell (i := 23) (by omega), g2.cell (i := 21) (by omega), g2.cell (i := 22) (by omega), g2.cell (i := 23) (by omega)⟩
  have HK : Hid (Calls Tryz.prog 9 #[] W fun e w' => e = .returned (.bool true) ∧ Below W.heap.size W w') := known_yes W (hg.keep bW)
  have d0 : decide ((20 : Int) < (n : Int)) = false := by simp; omega
  have e0 : decide (20 < n) = false := by simp; omega
  have d1 : decide ((300 : Int) < (A.length : Int)) = false := by simp; omega
  have e1 : decide (300 < A.length) = false := by simp; omega
  have d2 : decide ((300 : Int) < (C.length : Int)) = false := by simp; omega
  have e2 : decide (300 < C.length) = false := by simp; omega
  have d3 : decide ((3000 : Int) < (M.length : Int)) = false := by simp; omega
  have e3 : decide (3000 < M.length) = false := by simp; omega
  have d4 : decide ((300 : Int) < (N.length : Int)) = false := by simp; omega
  have e4 : decide (300 < N.length) = false := by simp; omega
  have d5 : decide ((300 : Int) < (G.length : Int)) = false := by simp; omega
  have e5 : decide (300 < G.length) = false := by simp; omega
  have d6 : decide ((3000 : Int) < (M2.length : Int)) = false := by simp; omega
  have e6 : decide (3000 < M2.length) = false := by simp; omega
  obtain ⟨E, hE⟩ : ∃ E, E = ec A C M T d.toList := ⟨_, rfl⟩
  obtain ⟨X, hX⟩ : ∃ X, X = xc A C M T d.toList := ⟨_, rfl⟩
  obtain ⟨F, hF⟩ : ∃ F, F = et x k N G M2 := ⟨_, rfl⟩
  obtain ⟨Y, hY⟩ : ∃ Y, Y = xt x k N G M2 := ⟨_, rfl⟩
  obtain ⟨D, hD⟩ : ∃ D, D = dat C := ⟨_, rfl⟩
  obtain ⟨LX, hLX⟩ : ∃ LX, LX = tb X := ⟨_, rfl⟩
  obtain ⟨LY, hLY⟩ : ∃ LY, LY = tb Y := ⟨_, rfl⟩
  have HE : Hid (E = ec A C M T d.toList ∧ X = xc A C M T d.toList ∧ LX = tb X) := ⟨hE, hX, hLX⟩
  have HF : Hid (F = et x k N G M2 ∧ Y = xt x k N G M2 ∧ LY = tb Y) := ⟨hF, hY, hLY⟩
  have HV : Hid (∀ V, Below W.heap.size W V → Is V (.slice ao n cap) d) := fun V hV => (hv.keep bW).keep hV
  have HG : Hid (∀ V, Below W.heap.size W V → Gs V) := fun V hV => (hg.keep bW).keep hV
  have HID : Hid (IsId T ∧ IsId x) := ⟨hT, hx⟩
  have HS : Hid (d.size ≤ 20) := by show d.size ≤ 20; omega
  have HEC : Hid (∀ V, Below W.heap.size W V → Calls Tryz.prog 41 #[cmv T (.slice ao n cap) A C M] V fun e w' => ∃ ao n c, e = .returned (.tuple #[.slice ao n c, .int .i64 E]) ∧ Rd w' ao n c X ∧ Below V.heap.size V w') := fun V hV => by
    have h := encC T (.slice ao n cap) A C M d V hT (HV.out V hV) (by omega) (by omega) (by omega) (by omega)
    rw [← hX, ← hE] at h
    exact h
  have HRE : Hid (∀ V v B, Dn B V v d → Calls Tryz.prog 42 #[cmv T v A C M] V fun e w' => ∃ ao n c, e = .returned (.tuple #[.slice ao n c, .int .i64 E]) ∧ Rd w' ao n c X ∧ Below V.heap.size V w') := fun V v B hB => by
    have h := rencC T v A C M d B V hT hB (by omega) (by omega) (by omega) (by omega)
    rw [← hX, ← hE] at h
    exact h
  have HEG : Hid (∀ V, Below W.heap.size W V → Calls Tryz.prog 44 #[tmv x k N G M2] V fun e w' => ∃ ao n c, e = .returned (.tuple #[.slice ao n c, .int .i64 F]) ∧ Rd w' ao n c Y ∧ Below V.heap.size V w') := fun V hV => by
    have h := encG x k N G M2 V hx (HG.out V hV) (by omega) (by omega) (by omega)
    rw [← hY, ← hF] at h
    exact h
  have HRG : Hid (∀ V, Calls Tryz.prog 45 #[tmv x k N G M2] V fun e w' => ∃ ao n c, e = .returned (.tuple #[.slice ao n c, .int .i64 F]) ∧ Rd w' ao n c Y ∧ Below V.heap.size V w') := fun V => by
    have h := rencG x k N G M2 V hx (by omega) (by omega) (by omega)
    rw [← hY, ← hF] at h
    exact h
  have HCM : Hid (∀ V, Below W.heap.size W V → Calls Tryz.prog 43 #[cmv T (.slice ao n cap) A C M] V fun e w' => ∃ v', e = .returned (cmv T v' A C M) ∧ Dn V.heap.size w' v' d ∧ Below V.heap.size V w') := fun V hV => commit_any T (.slice ao n cap) A C M d V (HV.out V hV) (by omega)
  have HDA : Hid (∀ V, Calls Tryz.prog 46 #[cmv T (.slice ao n cap) A C M] V fun e w' => e = .returned (.int .i64 D) ∧ Below V.heap.size V w') := fun V => by
    rw [hD]
    exact date_any T (.slice ao n cap) A C M V (by omega)
  have HRD : Hid (∀ V v, Calls Tryz.prog 47 #[cmv T v A C M] V fun e w' => e = .returned (.int .i64 D) ∧ Below V.heap.size V w') := fun V v => by
    rw [hD]
    exact rdate_any T v A C M V (by omega)
  have HDC : Hid (E = 0 → ∀ V ao n q, Below W.heap.size W V → Rd V ao n q X → Calls Tryz.prog 23 #[.slice ao n q] V fun e w' => ∃ v3, e = .returned (.tuple #[cmv T v3 A C M, .int .i64 0]) ∧ Dp (V.heap.size + 1) w' v3 d ∧ Below V.heap.size V w') := fun h0 V ao n q hV hr => by
    obtain ⟨g1, g2, g3⟩ := ec_zero (hE.symm.trans h0)
    have hX2 : X = tn (enc T d.toList A C M) := by rw [hX, g3]
    have hn : n ≤ 16384 := by rw [← hr.len, hX2, tn_len]; exact g2
    have hids : ∀ y ∈ d.toList, IsId y := fun y hy => by
      obtain ⟨j, hj, rfl⟩ := List.mem_iff_getElem.1 hy
      have hj2 : j < d.size := by simpa using hj
      have := hv.ids j hj2
      rwa [getElem!_pos d j hj2, ← Array.getElem_toList] at this
    have hm := cmg_enc T d.toList A C M hT hids g1
    have h := decodeCommit_any ao n q X T d.toList A C M 0 V (HG.out V hV) hr hn (by rw [hX2, tb_tn]; exact hm)
    refine h.mono ?_
    rintro e w' ⟨v3, h1, h2, h3⟩
    exact ⟨v3, h1, h2 rfl, h3⟩
  have HDG : Hid (F = 0 → ∀ V ao n q, Below W.heap.size W V → Rd V ao n q Y → Calls Tryz.prog 25 #[.slice ao n q] V fun e w' => e = .returned (.tuple #[tmv x k N G M2, .int .i64 0]) ∧ Below V.heap.size V w') := fun h0 V ao n q hV hr => by
    obtain ⟨g1, g2, g3⟩ := et_zero (hF.symm.trans h0)
    have hY2 : Y = tn (encT x k N G M2) := by rw [hY, g3]
    have hn : n ≤ 16384 := by rw [← hr.len, hY2, tn_len]; exact g2
    have hm := tgg_enc x k N G M2 hx g1
    exact decodeTag_any ao n q Y x k N G M2 0 V (HG.out V hV) hr hn (by rw [hY2, tb_tn]; exact hm)
  have HW : Hid (W = (w.alloc (Obj.cells (vals (cf T (.slice ao n cap) A C M) 24).toArray 47)).alloc (Obj.cells (vals (tf x k N G M2) 24).toArray 56)) := hW
  have HCX : Hid (∀ V ao n q, Rd V ao n q X → (convert 22 9 (.slice ao n q)).run Tryz.prog V = .ok (sv LX) V) := fun V ao n q hr => by
    have := hr.str
    rw [tb_sv, ← hLX] at this
    exact this
  have HCY : Hid (∀ V ao n q, Rd V ao n q Y → (convert 22 9 (.slice ao n q)).run Tryz.prog V = .ok (sv LY) V) := fun V ao n q hr => by
    have := hr.str
    rw [tb_sv, ← hLY] at this
    exact this
  clear hE hX hF hY hD hLX hLY b0 bW r1 r2 hW hg hv hnd hT hx h0 h1 h2 h3 h4 h5 h6
  go_enter Tryz.func6, Tryz.ntmps6
  go_wp2_with fail
  rw [← HW.out]
  refine (show Calls Tryz.prog 9 #[] W _ from HK.out).mono ?_
  rintro e w1 ⟨rfl, b1⟩
  have HB1 : Hid (Below W.heap.size W w1) := b1
  obtain ⟨c20, c21, c22, c23, k21, k22, k23⟩ := HRC.out w1 b1
  clear b1
  go_wp2_with ((refine wpList_ld0 rfl 47 _ rfl w.heap.size rfl _ (HR.out w1 HB1.out).1 24 (Nat.le_refl _) Tryz.underlying47 rfl (by kernel_rfl) ?_))
  refine (HEC.out w1 HB1.out).mono ?_
  rintro e w2 ⟨o1, n1, q1, rfl, rd1, b2⟩
  have HB2 : Hid (Below W.heap.size W w2) := HB1.out.trans (b2.mono HB1.out.size)
  have HX1 : Hid (Rd w2 o1 n1 q1 X) := rd1
  clear b2 rd1 c20 c21 c22 c23 k21 k22 k23 d0 d1 d2 d3 d4 d5 d6 e0 e1 e2 e3 e4 e5 e6
  go_wp2_with ((refine wpList_ld0 rfl 47 _ rfl w.heap.size rfl _ (HR.out w2 HB2.out).1 24 (Nat.le_refl _) Tryz.underlying47 rfl (by kernel_rfl) ?_))
  refine (HCM.out w2 HB2.out).mono ?_
  rintro e w3 ⟨v1, rfl, dn1, b3⟩
  have HB3 : Hid (Below W.heap.size W w3) := HB2.out.trans (b3.mono HB2.out.size)
  have HX13 : Hid (Rd w3 o1 n1 q1 X) := HX1.out.keep b3
  have HD1 : Hid (Dn w2.heap.size w3 v1 d) := dn1
  clear b3 dn1
  go_wp2_with fail
  refine (HRE.out w3 v1 _ HD1.out).mono ?_
  rintro e w4 ⟨o2, n2, q2, rfl, rd2, b4⟩
  have HB4 : Hid (Below W.heap.size W w4) := HB3.out.trans (b4.mono HB3.out.size)
  have HX14 : Hid (Rd w4 o1 n1 q1 X ∧ Rd w4 o2 n2 q2 X) := ⟨HX13.out.keep b4, rd2⟩
  clear b4 rd2
  go_wp2_with ((refine wpList_ld0 rfl 56 _ rfl (w.heap.size + 1) rfl _ (HR.out w4 HB4.out).2 24 (Nat.le_refl _) Tryz.underlying56 rfl (by kernel_rfl) ?_))
  refine (HEG.out w4 HB4.out).mono ?_
  rintro e w5 ⟨o3, n3, q3, rfl, rd3, b5⟩
  have HB5 : Hid (Below W.heap.size W w5) := HB4.out.trans (b5.mono HB4.out.size)
  have HX15 : Hid ((Rd w5 o1 n1 q1 X ∧ Rd w5 o2 n2 q2 X) ∧ Rd w5 o3 n3 q3 Y) := ⟨⟨HX14.out.1.keep b5, HX14.out.2.keep b5⟩, rd3⟩
  clear b5 rd3
  go_wp2_with ((refine wpList_ld0 rfl 56 _ rfl (w.heap.size + 1) rfl _ (HR.out w5 HB5.out).2 24 (Nat.le_refl _) Tryz.underlying56 rfl (by kernel_rfl) ?_))
  refine (tag_any x k N G M2 w5).mono ?_
  rintro e w6 ⟨rfl, b6⟩
  have HB6 : Hid (Below W.heap.size W w6) := HB5.out.trans (b6.mono HB5.out.size)
  have HX16 : Hid ((Rd w6 o1 n1 q1 X ∧ Rd w6 o2 n2 q2 X) ∧ Rd w6 o3 n3 q3 Y) := ⟨⟨HX15.out.1.1.keep b6, HX15.out.1.2.keep b6⟩, HX15.out.2.keep b6⟩
  clear b6
  go_wp2_with fail
  refine (HRG.out w6).mono ?_
  rintro e w9 ⟨o4, n4, q4, rfl, rd4, b9⟩
  have HB9 : Hid (Below W.heap.size W w9) := HB6.out.trans (b9.mono HB6.out.size)
  have HX19 : Hid ((Rd w9 o1 n1 q1 X ∧ Rd w9 o2 n2 q2 X) ∧ Rd w9 o3 n3 q3 Y ∧ Rd w9 o4 n4 q4 Y) := ⟨⟨HX16.out.1.1.keep b9, HX16.out.1.2.keep b9⟩, HX16.out.2.keep b9, rd4⟩
  clear b9 rd4
  go_wp2_with fail
  have HDr : Hid (Below w9.heap.size w9 w9.drew) := (Below.refl _ _).drew
  refine wp_region_noPanic ?_
  refine wp_region_held_drew (S := fun V => Below w9.heap.size w9 V) (by kernel_rfl) HDr.out (fun hHeld => ?_)
  refine wpAnyH_take (i := 0) (oi := ⟨some 81, _, _, _, _, _⟩) (v := ?_) rfl (by kernel_rfl) (by kernel_rfl) (by kernel_rfl) (fun _ _ _ h => h) (Or.inl ⟨by rfl, ?_⟩) hHeld ?_
  rotate_left
  · (intro w' hSw; go_simp; try with_reducible rfl)
  try simp only [Act.put, List.setIfInBounds_toArray, List.set_cons_zero, List.set_cons_succ]
  refine wpAnyH_take (i := 1) (oi := ⟨some 82, _, _, _, _, _⟩) (v := sv LX) rfl (by kernel_rfl) (by kernel_rfl) (by kernel_rfl) (fun _ _ _ h => h) (Or.inl ⟨by rfl, ?_⟩) hHeld ?_
  · (intro w' hSw; have qq := HCX.out _ _ _ _ ((HX19.out.1.1).keep hSw); go_simp; try with_reducible rfl)
  try simp only [Act.put, List.setIfInBounds_toArray, List.set_cons_zero, List.set_cons_succ]
  refine wpAnyH_take (i := 2) (oi := ⟨some 83, _, _, _, _, _⟩) (v := ?_) rfl (by kernel_rfl) (by kernel_rfl) (by kernel_rfl) (fun _ _ _ h => h) (Or.inl ⟨by rfl, ?_⟩) hHeld ?_
  rotate_left
  · (intro w' hSw; go_simp; try with_reducible rfl)
  try simp only [Act.put, List.setIfInBounds_toArray, List.set_cons_zero, List.set_cons_succ]
  refine wpAnyH_take (i := 3) (oi := ⟨some 84, _, _, _, _, _⟩) (v := sv LX) rfl (by kernel_rfl) (by kernel_rfl) (by kernel_rfl) (fun _ _ _ h => h) (Or.inl ⟨by rfl, ?_⟩) hHeld ?_
  · (intro w' hSw; have qq := HCX.out _ _ _ _ ((HX19.out.1.2).keep hSw); go_simp; try with_reducible rfl)
  try simp only [Act.put, List.setIfInBounds_toArray, List.set_cons_zero, List.set_cons_succ]
  refine wpAnyH_take (i := 4) (oi := ⟨some 85, _, _, _, _, _⟩) (v := .bool false) rfl (by kernel_rfl) (by kernel_rfl) (by kernel_rfl) (fun _ _ _ h => h) (Or.inl ⟨by rfl, ?_⟩) hHeld ?_
  · (intro w' hSw; go_simp; try with_reducible rfl)
  try simp only [Act.put, List.setIfInBounds_toArray, List.set_cons_zero, List.set_cons_succ]
  refine wpAnyH_take (i := 5) (oi := ⟨some 86, _, _, _, _, _⟩) (v := ?_) rfl (by kernel_rfl) (by kernel_rfl) (by kernel_rfl) (fun _ _ _ h => h) (Or.inl ⟨by rfl, ?_⟩) hHeld ?_
  rotate_left
  · (intro w' hSw; go_simp; try with_reducible rfl)
  try simp only [Act.put, List.setIfInBounds_toArray, List.set_cons_zero, List.set_cons_succ]
  refine wpAnyH_take (i := 6) (oi := ⟨some 87, _, _, _, _, _⟩) (v := ?_) rfl (by kernel_rfl) (by kernel_rfl) (by kernel_rfl) (fun _ _ _ h => h) (Or.inl ⟨by rfl, ?_⟩) hHeld ?_
  rotate_left
  · (intro w' hSw; go_simp; try with_reducible rfl)
  try simp only [Act.put, List.setIfInBounds_toArray, List.set_cons_zero, List.set_cons_succ]
  refine wpAnyH_take (i := 7) (oi := ⟨some 88, _, _, _, _, _⟩) (v := ?_) rfl (by kernel_rfl) (by kernel_rfl) (by kernel_rfl) (fun _ _ _ h => h) (Or.inl ⟨by rfl, ?_⟩) hHeld ?_
  rotate_left
  · (intro w' hSw; go_simp; try with_reducible rfl)
  try simp only [Act.put, List.setIfInBounds_toArray, List.set_cons_zero, List.set_cons_succ]
  refine wpAnyH_take (i := 8) (oi := ⟨some 89, _, _, _, _, _⟩) (v := .bool false) rfl (by kernel_rfl) (by kernel_rfl) (by kernel_rfl) (fun _ _ _ h => h) (Or.inl ⟨by rfl, ?_⟩) hHeld ?_
  · (intro w' hSw; go_simp; try with_reducible rfl)
  try simp only [Act.put, List.setIfInBounds_toArray, List.set_cons_zero, List.set_cons_succ]
  refine wpAnyH_take (i := 9) (oi := ⟨some 90, _, _, _, _, _⟩) (v := .bool false) rfl (by kernel_rfl) (by kernel_rfl) (by kernel_rfl) (fun _ _ _ h => h) (Or.inl ⟨by rfl, ?_⟩) hHeld ?_
  · (intro w' hSw; go_simp; try with_reducible rfl)
  try simp only [Act.put, List.setIfInBounds_toArray, List.set_cons_zero, List.set_cons_succ]
  refine wpAnyH_take (i := 10) (oi := ⟨some 91, _, _, _, _, _⟩) (v := ?_) rfl (by kernel_rfl) (by kernel_rfl) (by kernel_rfl) (fun _ _ _ h => h) (Or.inl ⟨by rfl, ?_⟩) hHeld ?_
  rotate_left
  · (intro w' hSw; go_simp; try with_reducible rfl)
  try simp only [Act.put, List.setIfInBounds_toArray, List.set_cons_zero, List.set_cons_succ]
  refine wpAnyH_take (i := 11) (oi := ⟨some 92, _, _, _, _, _⟩) (v := ?_) rfl (by kernel_rfl) (by kernel_rfl) (by kernel_rfl) (fun _ _ _ h => h) (Or.inl ⟨by rfl, ?_⟩) hHeld ?_
  rotate_left
  · (intro w' hSw; go_simp; try with_reducible rfl)
  try simp only [Act.put, List.setIfInBounds_toArray, List.set_cons_zero, List.set_cons_succ]
  refine wpAnyH_take (i := 12) (oi := ⟨some 93, _, _, _, _, _⟩) (v := sv LY) rfl (by kernel_rfl) (by kernel_rfl) (by kernel_rfl) (fun _ _ _ h => h) (Or.inl ⟨by rfl, ?_⟩) hHeld ?_
  · (intro w' hSw; have qq := HCY.out _ _ _ _ ((HX19.out.2.1).keep hSw); go_simp; try with_reducible rfl)
  try simp only [Act.put, List.setIfInBounds_toArray, List.set_cons_zero, List.set_cons_succ]
  refine wpAnyH_take (i := 13) (oi := ⟨some 94, _, _, _, _, _⟩) (v := ?_) rfl (by kernel_rfl) (by kernel_rfl) (by kernel_rfl) (fun _ _ _ h => h) (Or.inl ⟨by rfl, ?_⟩) hHeld ?_
  rotate_left
  · (intro w' hSw; go_simp; try with_reducible rfl)
  try simp only [Act.put, List.setIfInBounds_toArray, List.set_cons_zero, List.set_cons_succ]
  refine wpAnyH_take (i := 14) (oi := ⟨some 95, _, _, _, _, _⟩) (v := sv LY) rfl (by kernel_rfl) (by kernel_rfl) (by kernel_rfl) (fun _ _ _ h => h) (Or.inl ⟨by rfl, ?_⟩) hHeld ?_
  · (intro w' hSw; have qq := HCY.out _ _ _ _ ((HX19.out.2.2).keep hSw); go_simp; try with_reducible rfl)
  try simp only [Act.put, List.setIfInBounds_toArray, List.set_cons_zero, List.set_cons_succ]
  refine wpAnyH_take (i := 15) (oi := ⟨some 96, _, _, _, _, _⟩) (v := .bool false) rfl (by kernel_rfl) (by kernel_rfl) (by kernel_rfl) (fun _ _ _ h => h) (Or.inl ⟨by rfl, ?_⟩) hHeld ?_
  · (intro w' hSw; go_simp; try with_reducible rfl)
  try simp only [Act.put, List.setIfInBounds_toArray, List.set_cons_zero, List.set_cons_succ]
  refine wpAnyH_take (i := 16) (oi := ⟨some 97, _, _, _, _, _⟩) (v := .bool false) rfl (by kernel_rfl) (by kernel_rfl) (by kernel_rfl) (fun _ _ _ h => h) (Or.inl ⟨by rfl, ?_⟩) hHeld ?_
  · (intro w' hSw; go_simp; try with_reducible rfl)
  try simp only [Act.put, List.setIfInBounds_toArray, List.set_cons_zero, List.set_cons_succ]
  refine wpAnyH_take (i := 17) (oi := ⟨some 98, _, _, _, _, _⟩) (v := ?_) rfl (by kernel_rfl) (by kernel_rfl) (by kernel_rfl) (fun _ _ _ h => h) (Or.inl ⟨by rfl, ?_⟩) hHeld ?_
  rotate_left
  · (intro w' hSw; go_simp; try with_reducible rfl)
  try simp only [Act.put, List.setIfInBounds_toArray, List.set_cons_zero, List.set_cons_succ]
  refine wpAnyH_take (i := 18) (oi := ⟨some 99, _, _, _, _, _⟩) (v := ?_) rfl (by kernel_rfl) (by kernel_rfl) (by kernel_rfl) (fun _ _ _ h => h) (Or.inl ⟨by rfl, ?_⟩) hHeld ?_
  rotate_left
  · (intro w' hSw; go_simp; try with_reducible rfl)
  try simp only [Act.put, List.setIfInBounds_toArray, List.set_cons_zero, List.set_cons_succ]
  refine wpAnyH_take (i := 19) (oi := ⟨some 100, _, _, _, _, _⟩) (v := ?_) rfl (by kernel_rfl) (by kernel_rfl) (by kernel_rfl) (fun _ _ _ h => h) (Or.inl ⟨by rfl, ?_⟩) hHeld ?_
  rotate_left
  · (intro w' hSw; go_simp; try with_reducible rfl)
  try simp only [Act.put, List.setIfInBounds_toArray, List.set_cons_zero, List.set_cons_succ]
  refine wpAnyH_take (i := 20) (oi := ⟨some 101, _, _, _, _, _⟩) (v := .bool false) rfl (by kernel_rfl) (by kernel_rfl) (by kernel_rfl) (fun _ _ _ h => h) (Or.inl ⟨by rfl, ?_⟩) hHeld ?_
  · (intro w' hSw; go_simp; try with_reducible rfl)
  try simp only [Act.put, List.setIfInBounds_toArray, List.set_cons_zero, List.set_cons_succ]
  refine wpAnyH_take (i := 21) (oi := ⟨some 102, _, _, _, _, _⟩) (v := .bool false) rfl (by kernel_rfl) (by kernel_rfl) (by kernel_rfl) (fun _ _ _ h => h) (Or.inl ⟨by rfl, ?_⟩) hHeld ?_
  · (intro w' hSw; go_simp; try with_reducible rfl)
  try simp only [Act.put, List.setIfInBounds_toArray, List.set_cons_zero, List.set_cons_succ]
  refine wpAnyH_take (i := 22) (oi := ⟨some 103, _, _, _, _, _⟩) (v := ?_) rfl (by kernel_rfl) (by kernel_rfl) (by kernel_rfl) (fun _ _ _ h => h) (Or.inl ⟨by rfl, ?_⟩) hHeld ?_
  rotate_left
  · (intro w' hSw; go_simp; try with_reducible rfl)
  try simp only [Act.put, List.setIfInBounds_toArray, List.set_cons_zero, List.set_cons_succ]
  refine wpAnyH_take (i := 23) (oi := ⟨some 104, _, _, _, _, _⟩) (v := cmv T (.slice ao n cap) A C M) rfl (by kernel_rfl) (by kernel_rfl) (by kernel_rfl) (fun _ _ _ h => h) (yieldsIf_load_mid (by rfl) _ _ rfl w.heap.size 0 rfl (vals (cf T (.slice ao n cap) A C M) 24) _ (fun V hV => by
    have h := rangeAt_row ((HR.out V (HB9.out.trans (hV.mono HB9.out.size))).1) 0 24 (by omega)
    rw [vals_congr (fun j => cf T (.slice ao n cap) A C M (0 + j)) (cf T (.slice ao n cap) A C M) 24 (fun j _ => by rw [Nat.zero_add])] at h
    exact h) Tryz.underlying47 rfl (by rw [vals_len]; kernel_rfl)) hHeld ?_
  try simp only [Act.put, List.setIfInBounds_toArray, List.set_cons_zero, List.set_cons_succ]
  refine wpAnyH_take (i := 25) (oi := ⟨some 106, _, _, _, _, _⟩) (v := cmv T (.slice ao n cap) A C M) rfl (by kernel_rfl) (by kernel_rfl) (by kernel_rfl) (fun _ _ _ h => h) (yieldsIf_load_mid (by rfl) _ _ rfl w.heap.size 0 rfl (vals (cf T (.slice ao n cap) A C M) 24) _ (fun V hV => by
    have h := rangeAt_row ((HR.out V (HB9.out.trans (hV.mono HB9.out.size))).1) 0 24 (by omega)
    rw [vals_congr (fun j => cf T (.slice ao n cap) A C M (0 + j)) (cf T (.slice ao n cap) A C M) 24 (fun j _ => by rw [Nat.zero_add])] at h
    exact h) Tryz.underlying47 rfl (by rw [vals_len]; kernel_rfl)) hHeld ?_
  try simp only [Act.put, List.setIfInBounds_toArray, List.set_cons_zero, List.set_cons_succ]
  refine wpAnyH_ready (rs := [24]) (by kernel_rfl) (by simp) ?_
  refine AllReadyH.cons (o := ⟨some 105, _, _, _, _, _⟩) rfl (fun K hK => ?_) AllReadyH.nil
  refine step_cl1 (C := fun v w' => v = .int .i64 D ∧ Below w9.drew.heap.size w9.drew w') (by rfl) 46 cmf46 _ _ rfl (cmv T (.slice ao n cap) A C M) rfl ((HDA.out w9.drew).mono (fun e w' ⟨g1, g2⟩ => ⟨_, g1, rfl, g2⟩)) ?_
  rintro v' w10 ⟨rfl, b10⟩
  have HC10 : Hid (Below w9.heap.size w9 w10) := HDr.out.trans (b10.mono HDr.out.size)
  have HB10 : Hid (Below W.heap.size W w10) := HB9.out.trans (HC10.out.mono HB9.out.size)
  refine hK.out _ _ HC10.out (fun hHeld => ?_)
  clear hK K b10
  try simp only [Act.put, List.setIfInBounds_toArray, List.set_cons_zero, List.set_cons_succ]
  refine wpAnyH_ready (rs := [26]) (by kernel_rfl) (by simp) ?_
  refine AllReadyH.cons (o := ⟨some 107, _, _, _, _, _⟩) rfl (fun K hK => ?_) AllReadyH.nil
  refine step_cl1 (C := fun v w' => ∃ v', v = cmv T v' A C M ∧ Dn w10.heap.size w' v' d ∧ Below w10.heap.size w10 w') (by rfl) 43 cmf43 _ _ rfl (cmv T (.slice ao n cap) A C M) rfl ((HCM.out w10 HB10.out).mono (fun e w' ⟨v', g1, g2, g3⟩ => ⟨_, g1, v', rfl, g2, g3⟩)) ?_
  rintro _ w11 ⟨v2, rfl, dn2, b11⟩
  have HC11 : Hid (Below w9.heap.size w9 w11) := HC10.out.trans (b11.mono HC10.out.size)
  have HB11 : Hid (Below W.heap.size W w11) := HB9.out.trans (HC11.out.mono HB9.out.size)
  refine hK.out _ _ HC11.out (fun hHeld => ?_)
  clear hK K b11 dn2
  try simp only [Act.put, List.setIfInBounds_toArray, List.set_cons_zero, List.set_cons_succ]
  refine wpAnyH_ready (rs := [27]) (by kernel_rfl) (by simp) ?_
  refine AllReadyH.cons (o := ⟨some 108, _, _, _, _, _⟩) rfl (fun K hK => ?_) AllReadyH.nil
  refine step_cl1 (C := fun v w' => v = .int .i64 D ∧ Below w11.heap.size w11 w') (by rfl) 47 cmf47 _ _ rfl (cmv T v2 A C M) rfl ((HRD.out w11 v2).mono (fun e w' ⟨g1, g2⟩ => ⟨_, g1, rfl, g2⟩)) ?_
  rintro v' w12 ⟨rfl, b12⟩
  have HC12 : Hid (Below w9.heap.size w9 w12) := HC11.out.trans (b12.mono HC11.out.size)
  have HB12 : Hid (Below W.heap.size W w12) := HB9.out.trans (HC12.out.mono HB9.out.size)
  have HX12 : Hid (Rd w12 o1 n1 q1 X ∧ Rd w12 o3 n3 q3 Y) := ⟨HX19.out.1.1.keep HC12.out, HX19.out.2.1.keep HC12.out⟩
  refine hK.out _ _ HC12.out (fun hHeld => ?_)
  clear hK K b12
  try simp only [Act.put, List.setIfInBounds_toArray, List.set_cons_zero, List.set_cons_succ]
  refine wpAnyH_take (i := 28) (oi := ⟨some 109, _, _, _, _, _⟩) (v := .bool false) rfl (by kernel_rfl) (by kernel_rfl) (by kernel_rfl) (fun _ _ _ h => h) (Or.inl ⟨by rfl, ?_⟩) hHeld ?_
  · (intro w' hSw; go_simp; try with_reducible rfl)
  try simp only [Act.put, List.setIfInBounds_toArray, List.set_cons_zero, List.set_cons_succ]
  refine wpAnyH_take (i := 29) (oi := ⟨some 110, _, _, _, _, _⟩) (v := .bool false) rfl (by kernel_rfl) (by kernel_rfl) (by kernel_rfl) (fun _ _ _ h => h) (Or.inl ⟨by rfl, ?_⟩) hHeld ?_
  · (intro w' hSw; go_simp; try with_reducible rfl)
  try simp only [Act.put, List.setIfInBounds_toArray, List.set_cons_zero, List.set_cons_succ]
  refine wpAnyH_done (by kernel_rfl) ?_ _
  refine NoPanic.normal ?_
  clear hHeld
  clear HEC HRE HEG HRG HDA HRD HCX HCY HX19 HX16 HX15 HX14 HX13 HX1 HD1
  by_cases hE0 : E = 0
  · have hdc := (HDC.out hE0 w12 o1 n1 q1 HB12.out HX12.out.1)
    have hEn := hE0
    clear hE0
    subst hEn
    go_wp2_with fail
    refine hdc.mono ?_
    rintro e w13 ⟨v3, rfl, dp3, b13⟩
    have HB13 : Hid (Below W.heap.size W w13) := HB12.out.trans (b13.mono HB12.out.size)
    have HX13 : Hid (Rd w13 o3 n3 q3 Y) := HX12.out.2.keep b13
    have h3v : v3.oneCell' = true := by
      obtain ⟨xa, xc, hve⟩ := dp3.shape
      rw [hve]; rfl
    have hlt := dp3.own.lt
    have HNB : Hid (Below w13.heap.size w13 (w13.alloc (Obj.cells (vals (cf z20 nlv [] [] []) 24).toArray 47))) := new_below _ _
    have HDP : Hid (Dp (w12.heap.size + 1) (w13.alloc (Obj.cells (vals (cf z20 nlv [] [] []) 24).toArray 47)) v3 d ∧ ∀ k, v3.ownBlock = some k → k < w13.heap.size) := ⟨dp3.keep HNB.out, fun k hk => (hlt k hk).2⟩
    clear b13 hdc dp3 hlt
    go_wp2_with (refine wpList_st rfl 47 _ _ rfl w13.heap.size rfl (cf T v3 A C M) rfl (rowIs_vals _ _ _ _) (by kernel_rfl) (cf_one _ _ _ _ _ h3v) ?_; intro w14 r14 f14; have HF14 : Hid (Fr (fun k => k = w13.heap.size) _ w14) := f14; have HR14 : Hid (w14.rowIs w13.heap.size 47 24 (cf T v3 A C M)) := r14; clear r14 f14)
    have HC14 : Hid (Below w13.heap.size w13 w14) := HNB.out.trans (HF14.out.below _ HNB.out.size (fun i hi e => by omega))
    have HB14 : Hid (Below W.heap.size W w14) := HB13.out.trans (HC14.out.mono HB13.out.size)
    have HX14 : Hid (Rd w14 o3 n3 q3 Y) := HX13.out.keep HC14.out
    have HD14 : Hid (Dp (w12.heap.size + 1) w14 v3 d) := ⟨ownsRow_fr HDP.out.1.own HF14.out (fun k hk e => by have := HDP.out.2 k hk; omega), HDP.out.1.ids⟩
    have HDs : Hid (Below w14.heap.size w14 w14.drew) := (Below.refl _ _).drew
    refine wp_region_noPanic ?_
    refine wp_region_held_drew (S := fun V => Below w14.heap.size w14 V) (by kernel_rfl) HDs.out (fun hHeld => ?_)
    refine wpAnyH_take (i := 0) (oi := ⟨some 118, _, _, _, _, _⟩) (v := ?_) rfl (by kernel_rfl) (by kernel_rfl) (by kernel_rfl) (fun _ _ _ h => h) (Or.inl ⟨by rfl, ?_⟩) hHeld ?_
    rotate_left
    · (intro w' hSw; go_simp; try with_reducible rfl)
    try simp only [Act.put, List.setIfInBounds_toArray, List.set_cons_zero, List.set_cons_succ]
    refine wpAnyH_take (i := 1) (oi := ⟨some 119, _, _, _, _, _⟩) (v := .bool false) rfl (by kernel_rfl) (by kernel_rfl) (by kernel_rfl) (fun _ _ _ h => h) (Or.inl ⟨by rfl, ?_⟩) hHeld ?_
    · (intro w' hSw; go_simp; try with_reducible rfl)
    try simp only [Act.put, List.setIfInBounds_toArray, List.set_cons_zero, List.set_cons_succ]
    refine wpAnyH_take (i := 2) (oi := ⟨some 120, _, _, _, _, _⟩) (v := ?_) rfl (by kernel_rfl) (by kernel_rfl) (by kernel_rfl) (fun _ _ _ h => h) (Or.inl ⟨by rfl, ?_⟩) hHeld ?_
    rotate_left
    · (intro w' hSw; go_simp; try with_reducible rfl)
    try simp only [Act.put, List.setIfInBounds_toArray, List.set_cons_zero, List.set_cons_succ]
    refine wpAnyH_take (i := 3) (oi := ⟨some 121, _, _, _, _, _⟩) (v := cmv T v3 A C M) rfl (by kernel_rfl) (by kernel_rfl) (by kernel_rfl) (fun _ _ _ h => h) (yieldsIf_load_mid (by rfl) _ _ rfl w13.heap.size 0 rfl (vals (cf T v3 A C M) 24) _ (fun V hV => by
      have h := rangeAt_row (rowIs_fr (P := fun _ => False) HR14.out (Fr.ofBelow hV) (fun h => h)) 0 24 (by omega)
      rw [vals_congr (fun j => cf T v3 A C M (0 + j)) (cf T v3 A C M) 24 (fun j _ => by rw [Nat.zero_add])] at h
      exact h) Tryz.underlying47 rfl (by rw [vals_len]; kernel_rfl)) hHeld ?_
    try simp only [Act.put, List.setIfInBounds_toArray, List.set_cons_zero, List.set_cons_succ]
    refine wpAnyH_take (i := 4) (oi := ⟨some 122, _, _, _, _, _⟩) (v := cmv T (.slice ao n cap) A C M) rfl (by kernel_rfl) (by kernel_rfl) (by kernel_rfl) (fun _ _ _ h => h) (yieldsIf_load_mid (by rfl) _ _ rfl w.heap.size 0 rfl (vals (cf T (.slice ao n cap) A C M) 24) _ (fun V hV => by
      have h := rangeAt_row ((HR.out V (HB14.out.trans (hV.mono HB14.out.size))).1) 0 24 (by omega)
      rw [vals_congr (fun j => cf T (.slice ao n cap) A C M (0 + j)) (cf T (.slice ao n cap) A C M) 24 (fun j _ => by rw [Nat.zero_add])] at h
      exact h) Tryz.underlying47 rfl (by rw [vals_len]; kernel_rfl)) hHeld ?_
    try simp only [Act.put, List.setIfInBounds_toArray, List.set_cons_zero, List.set_cons_succ]
    refine wpAnyH_ready (rs := [5]) (by kernel_rfl) (by simp) ?_
    refine AllReadyH.cons (o := ⟨some 123, _, _, _, _, _⟩) rfl (fun K hK => ?_) AllReadyH.nil
    refine step_cl1 (C := fun v w' => ∃ v', v = cmv T v' A C M ∧ Dn w14.drew.heap.size w' v' d ∧ Below w14.drew.heap.size w14.drew w') (by rfl) 43 cmf43 _ _ rfl (cmv T (.slice ao n cap) A C M) rfl ((HCM.out w14.drew (HB14.out.trans (HDs.out.mono HB14.out.size))).mono (fun e w' ⟨v', g1, g2, g3⟩ => ⟨_, g1, v', rfl, g2, g3⟩)) ?_
    rintro _ w15 ⟨v4, rfl, dn4, b15⟩
    have HC15 : Hid (Below w14.heap.size w14 w15) := HDs.out.trans (b15.mono HDs.out.size)
    have HD15 : Hid (Dp (w12.heap.size + 1) w15 v3 d ∧ Dn w14.drew.heap.size w15 v4 d) := ⟨HD14.out.keep HC15.out, dn4⟩
    refine hK.out _ _ HC15.out (fun hHeld => ?_)
    clear hK K b15 dn4
    try simp only [Act.put, List.setIfInBounds_toArray, List.set_cons_zero, List.set_cons_succ]
    refine wpAnyH_ready (rs := [6]) (by kernel_rfl) (by simp) ?_
    refine AllReadyH.cons (o := ⟨some 124, _, _, _, _, _⟩) rfl (fun K hK => ?_) AllReadyH.nil
    refine cstep_call2 (C := fun v w' => v = .bool true ∧ Below w15.heap.size w15 w') (by rfl) 27 cmf27 _ _ _ rfl (cmv T v3 A C M) (cmv T v4 A C M) rfl rfl ((sameCommit_yes T v3 v4 A C M d _ _ w15 HID.out.1 HD15.out.1 HD15.out.2 (by have := HS.out; omega)).mono (fun e w' ⟨g1, g2⟩ => ⟨_, g1, rfl, g2⟩)) ?_
    rintro v' w16 ⟨rfl, b16⟩
    have HC16 : Hid (Below w14.heap.size w14 w16) := HC15.out.trans (b16.mono HC15.out.size)
    have HB16 : Hid (Below W.heap.size W w16) := HB14.out.trans (HC16.out.mono HB14.out.size)
    have HX17 : Hid (Rd w16 o3 n3 q3 Y) := HX14.out.keep HC16.out
    refine hK.out _ _ HC16.out (fun hHeld => ?_)
    clear hK K b16
    try simp only [Act.put, List.setIfInBounds_toArray, List.set_cons_zero, List.set_cons_succ]
    refine wpAnyH_take (i := 7) (oi := ⟨some 125, _, _, _, _, _⟩) (v := .bool false) rfl (by kernel_rfl) (by kernel_rfl) (by kernel_rfl) (fun _ _ _ h => h) (Or.inl ⟨by rfl, ?_⟩) hHeld ?_
    · (intro w' hSw; go_simp; try with_reducible rfl)
    try simp only [Act.put, List.setIfInBounds_toArray, List.set_cons_zero, List.set_cons_succ]
    refine wpAnyH_take (i := 8) (oi := ⟨some 126, _, _, _, _, _⟩) (v := .bool false) rfl (by kernel_rfl) (by kernel_rfl) (by kernel_rfl) (fun _ _ _ h => h) (Or.inl ⟨by rfl, ?_⟩) hHeld ?_
    · (intro w' hSw; go_simp; try with_reducible rfl)
    try simp only [Act.put, List.setIfInBounds_toArray, List.set_cons_zero, List.set_cons_succ]
    refine wpAnyH_done (by kernel_rfl) ?_ _
    refine NoPanic.normal ?_
    clear hHeld
    clear HNB
    by_cases hF0 : F = 0
    · have hdg := (HDG.out hF0 w16 o3 n3 q3 HB16.out HX17.out)
      have hFn := hF0
      clear hF0
      subst hFn
      go_wp2_with fail
      refine hdg.mono ?_
      rintro e wt ⟨rfl, bt⟩
      have HBT : Hid (Below W.heap.size W wt) := HB16.out.trans (bt.mono HB16.out.size)
      clear bt hdg
      have HNB : Hid (Below wt.heap.size wt (wt.alloc (Obj.cells (vals (tf z20 0 [] [] []) 24).toArray 56))) := new_below _ _
      go_wp2_with (first
        | (refine wpList_neq56 (by rfl) _ _ _ rfl x k N G M2 rfl rfl ?_)
        | (refine wpList_ldW (by rfl) 56 _ rfl (w.heap.size + 1) rfl _ (HR.out wu HBU.out).2 24 (Nat.le_refl _) Tryz.underlying56 rfl (by kernel_rfl) ?_)
        | (refine wpList_ldW (by rfl) 56 _ rfl wt.heap.size rfl _ HRU.out 24 (Nat.le_refl _) Tryz.underlying56 rfl (by kernel_rfl) ?_)
        | (refine wpList_st rfl 56 _ _ rfl wt.heap.size rfl (tf x k N G M2) rfl (rowIs_vals _ _ _ _) (by kernel_rfl) (tf_one _ _ _ _ _) ?_; intro wu ru fu; have HBU : Hid (Below W.heap.size W wu) := HBT.out.trans (HNB.out.trans (fu.below _ HNB.out.size (fun i hi e => by omega)) |>.mono HBT.out.size); have HRU : Hid _ := ru; clear ru fu))
      go_ret
      exact ⟨rfl, HB.out.trans (HBU.out.mono HB.out.size)⟩
    · have f0 : (F == 0) = false := by simp [hF0]
      clear hF0
      go_wp2_with fail
      go_ret
      exact ⟨rfl, HB.out.trans (HB16.out.mono HB.out.size)⟩
  · have g0 : (E == 0) = false := by simp [hE0]
    clear hE0
    by_cases hF0 : F = 0
    · have hdg := (HDG.out hF0 w12 o3 n3 q3 HB12.out HX12.out.2)
      have hFn := hF0
      clear hF0
      subst hFn
      go_wp2_with fail
      refine hdg.mono ?_
      rintro e wt ⟨rfl, bt⟩
      have HBT : Hid (Below W.heap.size W wt) := HB12.out.trans (bt.mono HB12.out.size)
      clear bt hdg
      have HNB : Hid (Below wt.heap.size wt (wt.alloc (Obj.cells (vals (tf z20 0 [] [] []) 24).toArray 56))) := new_below _ _
      go_wp2_with (first
        | (refine wpList_neq56 (by rfl) _ _ _ rfl x k N G M2 rfl rfl ?_)
        | (refine wpList_ldW (by rfl) 56 _ rfl (w.heap.size + 1) rfl _ (HR.out wu HBU.out).2 24 (Nat.le_refl _) Tryz.underlying56 rfl (by kernel_rfl) ?_)
        | (refine wpList_ldW (by rfl) 56 _ rfl wt.heap.size rfl _ HRU.out 24 (Nat.le_refl _) Tryz.underlying56 rfl (by kernel_rfl) ?_)
        | (refine wpList_st rfl 56 _ _ rfl wt.heap.size rfl (tf x k N G M2) rfl (rowIs_vals _ _ _ _) (by kernel_rfl) (tf_one _ _ _ _ _) ?_; intro wu ru fu; have HBU : Hid (Below W.heap.size W wu) := HBT.out.trans (HNB.out.trans (fu.below _ HNB.out.size (fun i hi e => by omega)) |>.mono HBT.out.size); have HRU : Hid _ := ru; clear ru fu))
      go_ret
      exact ⟨rfl, HB.out.trans (HBU.out.mono HB.out.size)⟩
    · have f0 : (F == 0) = false := by simp [hF0]
      clear hF0
      go_wp2_with fail
      go_ret
      exact ⟨rfl, HB.out.trans (HB12.out.mono HB.out.size)⟩

theorem commits_law (T : List Int) (ao : Option Addr) (n cap : Nat) (A C M : List UInt8) (x : List Int) (k : Int) (N G M2 : List UInt8) (w : World) (hg : Gs w) (d : Array (List Int)) (hnd : n = d.size) (hv : Is w (.slice ao n cap) d) (hT : IsId T) (hx : IsId x) :
    Calls Tryz.prog 6 #[cmv T (.slice ao n cap) A C M, tmv x k N G M2] w fun e w' => e = .returned (.bool true) ∧ Below w.heap.size w w' := by
  by_cases h0 : n ≤ 20
  rotate_left
  · exact commits_long0 T ao n cap A C M x k N G M2 w hg  (by omega)
  by_cases h1 : A.length ≤ 300
  rotate_left
  · exact commits_long1 T ao n cap A C M x k N G M2 w hg h0 (by omega)
  by_cases h2 : C.length ≤ 300
  rotate_left
  · exact commits_long2 T ao n cap A C M x k N G M2 w hg h0 h1 (by omega)
  by_cases h3 : M.length ≤ 3000
  rotate_left
  · exact commits_long3 T ao n cap A C M x k N G M2 w hg h0 h1 h2 (by omega)
  by_cases h4 : N.length ≤ 300
  rotate_left
  · exact commits_long4 T ao n cap A C M x k N G M2 w hg h0 h1 h2 h3 (by omega)
  by_cases h5 : G.length ≤ 300
  rotate_left
  · exact commits_long5 T ao n cap A C M x k N G M2 w hg h0 h1 h2 h3 h4 (by omega)
  by_cases h6 : M2.length ≤ 3000
  rotate_left
  · exact commits_long6 T ao n cap A C M x k N G M2 w hg h0 h1 h2 h3 h4 h5 (by omega)
  exact commits_go T ao n cap A C M x k N G M2 w hg d hnd hv hT hx h0 h1 h2 h3 h4 h5 h6

end Go.Proofs.YtojgablpjdlegaaGreatDoor
