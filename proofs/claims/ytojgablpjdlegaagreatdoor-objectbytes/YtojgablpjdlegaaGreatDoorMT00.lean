/- The law's Commit: a commit as the document's. -/
import Derived.Test.YtojgablpjdlegaaGreatDoorMC11
import Derived.Test.YtojgablpjdlegaaGreatDoorM10
import Derived.Test.YtojgablpjdlegaaGreatDoorMC01
namespace Go.Proofs.YtojgablpjdlegaaGreatDoor
open Go.RowKit Go.Shelf

theorem run_b52 (T : List Int) (v : Value) (A C M : List UInt8) (w : World) (hv : v.oneCell' = true) : (Instr.build 52 #[(0, idv T), (1, v), (2, sv A), (3, sv C), (4, sv M)]).run Tryz.prog w = .ok (cmv T v A C M) w := by
  cases v <;> first | (cases hv; done) | kernel_rfl

theorem step_b52 {ops : Array Oper} {op : Oper} {a : Act} {w : World} {K : Act → World → Prop} {Q : Exit → Act → World → Prop} {E : Prop} (hgd : op.guard = none) (x0 x1 x2 x3 x4 : Operand) (ho : op.op = .build 52 #[(0, x0), (1, x1), (2, x2), (3, x3), (4, x4)]) (T : List Int) (v : Value) (A C M : List UInt8) (hv : v.oneCell' = true) (h0 : a.eval x0 = idv T) (h1 : a.eval x1 = v) (h2 : a.eval x2 = sv A) (h3 : a.eval x3 = sv C) (h4 : a.eval x4 = sv M)
    (hk : K (a.put op.dst (cmv T v A C M)) w) : if Region.wanted op (yielded ops a.tmps) = true then Oper.wp Tryz.prog op a w K Q else E := by
  have hw : Region.wanted op (yielded ops a.tmps) = true := by simp [Region.wanted, hgd]
  rw [if_pos hw]
  have h := run_b52 T v A C M w hv
  unfold Oper.wp
  simp only [execOp, ho, List.map_toArray, List.map_cons, List.map_nil, h0, h1, h2, h3, h4, Sem.run_bind, h, Result.andThen_ok, Sem.run_pure]
  exact hk

theorem step_st52 {ops : Array Oper} {op : Oper} {a : Act} {w : World} {K : Act → World → Prop} {Q : Exit → Act → World → Prop} {E : Prop} (hgd : op.guard = none) (x y : Operand) (ho : op.op = .store 52 x y) (b : Nat) (hx : a.eval x = .pointer (some ⟨b, 0, none⟩)) (g : Nat → Value) (hy : a.eval y = row g 24) (f : Nat → Value) (hr : w.rowIs b 52 24 f) (h1 : ∀ j, (g j).oneCell' = true)
    (hk : ∀ w', w'.rowIs b 52 24 g → Fr (fun k => k = b) w w' → K (a.put op.dst undef) w') : if Region.wanted op (yielded ops a.tmps) = true then Oper.wp Tryz.prog op a w K Q else E := by
  have hw : Region.wanted op (yielded ops a.tmps) = true := by simp [Region.wanted, hgd]
  rw [if_pos hw]
  refine wp_store_mid 52 x y ho b 0 (vals g 24).toArray hx hy (by rw [vals_size]; exact there_any hr 0 24 (by omega)) (by rw [vals_size]; kernel_rfl) (vals_one g 24 h1) (hk _ ?_ (Fr.setCells (P := fun k => k = b) rfl _ _ _ _ (Fr.refl _ _)))
  refine (rowIs_setCells (vals g 24) 0 w _ hr).congr (fun j hj => ?_)
  rw [vals_len, if_pos (by omega), Nat.sub_zero, vals_get _ _ _ hj]
  rfl

theorem step_cl1 {w : World} {ops : Array Oper} {o : Oper} {a : Act} {K : Act → World → Prop} {Q : Exit → Act → World → Prop} {E : Prop} {C : Value → World → Prop} (hw : Region.wanted o (yielded ops a.tmps) = true) (f : FuncId) (hf : ∀ vs w, (callFunc f vs).run Tryz.prog w = .ok (.enter f vs) w) (x : Operand) (ts : Array TypeId) (ho : o.op = .call { callee := .value (.func f), args := #[x], argTypes := ts }) (u : Value) (hx : a.eval x = u)
    (hc : Calls Tryz.prog f #[u] w (fun e w' => ∃ v, e = .returned v ∧ C v w')) (hk : ∀ v w', C v w' → K (a.put o.dst v) w') : if Region.wanted o (yielded ops a.tmps) = true then Oper.wp Tryz.prog o a w K Q else E := by
  rw [if_pos hw]
  have hr : (resolve a.eval { callee := .value (.func f), args := #[x], argTypes := ts } o.type >>= fun d => invoke d.target d.args).run Tryz.prog w = .ok (.enter f #[u]) w := by
    rw [← hf #[u] w, ← hx]
    simp [resolve, Act.eval, invoke, Deferred.ofValue]
  unfold Oper.wp execOp
  simp only [ho, hr]
  refine hc.mono ?_
  rintro e w' ⟨v, rfl, h⟩
  exact hk v w' h

set_option maxRecDepth 100000 in
set_option maxHeartbeats 4000000 in
theorem commit_any (T : List Int) (v : Value) (A C M : List UInt8) (d : Array (List Int)) (w : World) (hv : Is w v d) (hd : d.size < 100000) : Calls Tryz.prog 43 #[cmv T v A C M] w fun e w' => ∃ v', e = .returned (cmv T v' A C M) ∧ Dn w.heap.size w' v' d ∧ Below w.heap.size w w' := by
  have hz := zero47
  have hz2 := zero52
  obtain ⟨ao, cap, hve, _⟩ := hv.sh
  obtain ⟨n, hn⟩ : ∃ n, n = d.size := ⟨_, rfl⟩
  rw [← hn] at hve
  subst hve
  obtain ⟨W, hW⟩ : ∃ W, W = (w.alloc (Obj.cells (vals (cf T (.slice ao n cap) A C M) 24).toArray 47)).alloc (Obj.cells (vals (cf z20 nlv [] [] []) 24).toArray 52) := ⟨_, rfl⟩
  have b0 := new_below w (Obj.cells (vals (cf T (.slice ao n cap) A C M) 24).toArray 47)
  have bW : Below w.heap.size w W := by rw [hW]; exact b0.alloc b0.size _
  have rW : W.rowIs w.heap.size 47 24 (cf T (.slice ao n cap) A C M) := by rw [hW]; exact rowIs_fr (P := fun _ => False) (rowIs_vals w _ 24 47) (Fr.ofBelow (new_below _ _)) (fun h => h)
  have r2 : W.rowIs (w.heap.size + 1) 52 24 (cf z20 nlv [] [] []) := by rw [hW]; have := rowIs_vals (w.alloc (Obj.cells (vals (cf T (.slice ao n cap) A C M) 24).toArray 47)) (cf z20 nlv [] [] []) 24 52; simpa using this
  have HR1 : Hid (W.rowIs w.heap.size 47 24 (cf T (.slice ao n cap) A C M)) := rW
  have HR2 : Hid (W.rowIs (w.heap.size + 1) 52 24 (cf z20 nlv [] [] [])) := r2
  have HB : Hid (Below w.heap.size w W) := bW
  have HWz : Hid (w.heap.size + 2 ≤ W.heap.size) := by show _ ≤ _; rw [hW]; simp
  have HOF : Hid (∀ V, Below W.heap.size W V → Calls Tryz.prog 80 #[.slice ao n cap] V fun e w' => ∃ v, e = .returned v ∧ (Dn V.heap.size w' v d ∧ Below V.heap.size V w')) := fun V hV => of_any ao n cap d V ((hv.keep bW).keep hV) hn.symm (by omega)
  have c80 : ∀ vs w, (callFunc 80 vs).run Tryz.prog w = .ok (.enter 80 vs) w := fun vs w => by simp [go_sem]
  have HC80 : Hid (∀ vs w, (callFunc 80 vs).run Tryz.prog w = .ok (.enter 80 vs) w) := c80
  clear bW b0 rW r2 hn hv hd c80
  go_enter Tryz.func43, Tryz.ntmps43
  go_wp2_with fail
  rw [← hW]
  clear hW
  have HSC : Hid (∀ V, Fr (fun i => i = w.heap.size + 1) W V → V.rowIs w.heap.size 47 24 (cf T (.slice ao n cap) A C M)) := fun V hV => rowIs_fr HR1.out hV (by omega)
  refine wp_region_noPanic ?_
  refine wp_region_held_drew (S := fun V => Fr (fun i => i = w.heap.size + 1) W V ∧ ∃ f, V.rowIs (w.heap.size + 1) 52 24 f) (by kernel_rfl) ⟨(Fr.refl _ _).drew, _, rowIs_fr (P := fun _ => False) HR2.out (Fr.refl _ _).drew (fun h => h)⟩ (fun hHeld => ?_)
  refine wpAnyH_take (i := 0) (oi := ⟨some 3, _, _, _, _, _⟩) (v := ?_) rfl (by kernel_rfl) (by kernel_rfl) (by kernel_rfl) (fun _ _ _ h => h) (Or.inl ⟨by rfl, ?_⟩) hHeld ?_
  rotate_left
  · (intro w' hSw; go_simp; try with_reducible rfl)
  try simp only [Act.put, List.setIfInBounds_toArray, List.set_cons_zero, List.set_cons_succ]
  refine wpAnyH_take (i := 1) (oi := ⟨some 4, _, _, _, _, _⟩) (v := idv T) rfl (by kernel_rfl) (by kernel_rfl) (by kernel_rfl) (fun _ _ _ h => h) (yieldsIf_load_mid (by rfl) _ _ rfl w.heap.size 0 rfl (vals (cl T) 20) _ (fun V hV => by
    have h := rangeAt_row (HSC.out V hV.1) 0 20 (by omega)
    rw [vals_congr (fun j => cf T (.slice ao n cap) A C M (0 + j)) (cl T) 20 (fun j hj => by unfold cf; rw [Nat.zero_add, if_pos hj])] at h
    exact h) Tryz.underlying27 rfl (by rw [vals_len]; kernel_rfl)) hHeld ?_
  try simp only [Act.put, List.setIfInBounds_toArray, List.set_cons_zero, List.set_cons_succ]
  refine wpAnyH_take (i := 2) (oi := ⟨some 5, _, _, _, _, _⟩) (v := ?_) rfl (by kernel_rfl) (by kernel_rfl) (by kernel_rfl) (fun _ _ _ h => h) (Or.inl ⟨by rfl, ?_⟩) hHeld ?_
  rotate_left
  · (intro w' hSw; go_simp; try with_reducible rfl)
  try simp only [Act.put, List.setIfInBounds_toArray, List.set_cons_zero, List.set_cons_succ]
  refine wpAnyH_take (i := 3) (oi := ⟨some 6, _, _, _, _, _⟩) (v := .slice ao n cap) rfl (by kernel_rfl) (by kernel_rfl) (by kernel_rfl) (fun _ _ _ h => h) (Or.inl ⟨by rfl, ?_⟩) hHeld ?_
  · (intro w' hSw; have qq : w'.cell? ⟨w.heap.size, 20, none⟩ = some (.slice ao n cap) := (HSC.out w' hSw.1).cell (i := 20) (by omega); go_simp; try with_reducible rfl)
  try simp only [Act.put, List.setIfInBounds_toArray, List.set_cons_zero, List.set_cons_succ]
  refine wpAnyH_take (i := 5) (oi := ⟨some 8, _, _, _, _, _⟩) (v := ?_) rfl (by kernel_rfl) (by kernel_rfl) (by kernel_rfl) (fun _ _ _ h => h) (Or.inl ⟨by rfl, ?_⟩) hHeld ?_
  rotate_left
  · (intro w' hSw; go_simp; try with_reducible rfl)
  try simp only [Act.put, List.setIfInBounds_toArray, List.set_cons_zero, List.set_cons_succ]
  refine wpAnyH_take (i := 6) (oi := ⟨some 9, _, _, _, _, _⟩) (v := sv A) rfl (by kernel_rfl) (by kernel_rfl) (by kernel_rfl) (fun _ _ _ h => h) (Or.inl ⟨by rfl, ?_⟩) hHeld ?_
  · (intro w' hSw; have qq : w'.cell? ⟨w.heap.size, 21, none⟩ = some (sv A) := (HSC.out w' hSw.1).cell (i := 21) (by omega); go_simp; try with_reducible rfl)
  try simp only [Act.put, List.setIfInBounds_toArray, List.set_cons_zero, List.set_cons_succ]
  refine wpAnyH_take (i := 7) (oi := ⟨some 10, _, _, _, _, _⟩) (v := ?_) rfl (by kernel_rfl) (by kernel_rfl) (by kernel_rfl) (fun _ _ _ h => h) (Or.inl ⟨by rfl, ?_⟩) hHeld ?_
  rotate_left
  · (intro w' hSw; go_simp; try with_reducible rfl)
  try simp only [Act.put, List.setIfInBounds_toArray, List.set_cons_zero, List.set_cons_succ]
  refine wpAnyH_take (i := 8) (oi := ⟨some 11, _, _, _, _, _⟩) (v := sv C) rfl (by kernel_rfl) (by kernel_rfl) (by kernel_rfl) (fun _ _ _ h => h) (Or.inl ⟨by rfl, ?_⟩) hHeld ?_
  · (intro w' hSw; have qq : w'.cell? ⟨w.heap.size, 22, none⟩ = some (sv C) := (HSC.out w' hSw.1).cell (i := 22) (by omega); go_simp; try with_reducible rfl)
  try simp only [Act.put, List.setIfInBounds_toArray, List.set_cons_zero, List.set_cons_succ]
  refine wpAnyH_take (i := 9) (oi := ⟨some 12, _, _, _, _, _⟩) (v := ?_) rfl (by kernel_rfl) (by kernel_rfl) (by kernel_rfl) (fun _ _ _ h => h) (Or.inl ⟨by rfl, ?_⟩) hHeld ?_
  rotate_left
  · (intro w' hSw; go_simp; try with_reducible rfl)
  try simp only [Act.put, List.setIfInBounds_toArray, List.set_cons_zero, List.set_cons_succ]
  refine wpAnyH_take (i := 10) (oi := ⟨some 13, _, _, _, _, _⟩) (v := sv M) rfl (by kernel_rfl) (by kernel_rfl) (by kernel_rfl) (fun _ _ _ h => h) (Or.inl ⟨by rfl, ?_⟩) hHeld ?_
  · (intro w' hSw; have qq : w'.cell? ⟨w.heap.size, 23, none⟩ = some (sv M) := (HSC.out w' hSw.1).cell (i := 23) (by omega); go_simp; try with_reducible rfl)
  try simp only [Act.put, List.setIfInBounds_toArray, List.set_cons_zero, List.set_cons_succ]
  refine wpAnyH_ready (rs := [4]) (by kernel_rfl) (by simp) ?_
  refine AllReadyH.cons (o := ⟨some 7, _, _, _, _, _⟩) rfl (fun K hK => ?_) AllReadyH.nil
  have hbd : Below W.heap.size W W.drew := (Below.refl _ _).drew
  refine step_cl1 (by rfl) 80 HC80.out _ _ rfl (.slice ao n cap) rfl (HOF.out W.drew hbd) ?_
  rintro v' w5 ⟨hd5, b5⟩
  obtain ⟨xa, xc, hve⟩ := hd5.shape
  have h1v : v'.oneCell' = true := by rw [hve]; rfl
  have HD5 : Hid (Dn W.drew.heap.size w5 v' d) := hd5
  have f5 : Fr (fun i => i = w.heap.size + 1) W w5 := Fr.ofBelow (hbd.trans b5)
  have r5 : w5.rowIs (w.heap.size + 1) 52 24 (cf z20 nlv [] [] []) := rowIs_fr (P := fun _ => False) HR2.out (Fr.ofBelow (hbd.trans b5)) (fun h => h)
  have HF5 : Hid (Below W.heap.size W w5) := hbd.trans b5
  clear hve hd5
  refine hK.out _ _ ⟨f5, _, r5⟩ (fun hHeld => ?_)
  clear hK K b5 hbd
  try simp only [Act.put, List.setIfInBounds_toArray, List.set_cons_zero, List.set_cons_succ]
  refine wpAnyH_ready (rs := [11]) (by kernel_rfl) (by simp) ?_
  refine AllReadyH.cons (o := ⟨some 14, _, _, _, _, _⟩) rfl (fun K hK => ?_) AllReadyH.nil
  refine step_b52 (by rfl) _ _ _ _ _ rfl T v' A C M h1v rfl rfl rfl rfl rfl ?_
  refine hK.out _ _ hHeld (fun hHeld => ?_)
  clear hK K
  try simp only [Act.put, List.setIfInBounds_toArray, List.set_cons_zero, List.set_cons_succ]
  refine wpAnyH_ready (rs := [12]) (by kernel_rfl) (by simp) ?_
  refine AllReadyH.cons (o := ⟨none, _, _, _, _, _⟩) rfl (fun K hK => ?_) AllReadyH.nil
  refine step_st52 (by rfl) _ _ rfl (w.heap.size + 1) rfl (cf T v' A C M) rfl _ r5 (cf_one _ _ _ _ _ h1v) ?_
  intro w6 r6 f6
  refine hK.out _ _ ⟨f5.trans f6 (fun _ _ h => h), _, r6⟩ (fun hHeld => ?_)
  clear hK K
  refine wpAnyH_done (by kernel_rfl) ?_ _
  refine NoPanic.normal ?_
  have HF6 : Hid (Fr (fun k => k = w.heap.size + 1) w5 w6) := f6
  clear hHeld f5 f6 r5 HSC HR1 HR2 HOF
  go_wp2_with fail
  refine bodyPost_ret (results_row (fn := Tryz.f43) (p := 2) (ty := 52) (by kernel_rfl) _ (by rfl) r6 Tryz.underlying52 rfl (by kernel_rfl)) rfl ⟨v', rfl, ?_, ?_⟩
  · have h := HD5.out
    refine ⟨own_low (ownsRow_fr h.own HF6.out (fun k hk e => by have := (h.own.lt k hk).1; have := HWz.out; simp at *; omega)) (by have := HWz.out; simp; omega), h.ids⟩
  · exact HB.out.trans ((HF5.out.mono HB.out.size).trans (HF6.out.below _ (Nat.le_trans HB.out.size HF5.out.size) (fun i hi e => by omega)))

end Go.Proofs.YtojgablpjdlegaaGreatDoor
