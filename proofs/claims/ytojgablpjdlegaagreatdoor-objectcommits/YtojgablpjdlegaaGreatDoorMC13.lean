/- Rti, Rtj, Dta, Dtb, Dtc, Dtd, Dte, Dtf. -/
import Derived.Test.YtojgablpjdlegaaGreatDoorMC11
import Derived.Test.YtojgablpjdlegaaGreatDoorM10
import Derived.Test.YtojgablpjdlegaaGreatDoorMC01
import Derived.Test.YtojgablpjdlegaaGreatDoorMC10
import Derived.Test.YtojgablpjdlegaaGreatDoorM18
import Derived.Test.YtojgablpjdlegaaGreatDoorMC08
/- The law's Commit: a commit as the document's. -/
namespace Go.Proofs.YtojgablpjdlegaaGreatDoor
open Go.RowKit Go.Shelf

theorem run_b52 (T : List Int) (v : Value) (A C M : List UInt8) (w : World) (hv : v.oneCell' = true) : (Instr.build 52 #[(0, idv T), (1, v), (2, sv A), (3, sv C), (4, sv M)]).run Tryz.prog w = .ok (cmv T v A C M) w := by
  cases v <;> first | (cases hv; done) | kernel_rfl

theorem step_b52 {ops : Array Oper} {op : Oper} {a : Act} {w : World} {K : Act → World → Prop} {Q : Exit → Act → World → Prop} {E : Prop} (hgd : op.guard = none) (x0 x1 x2 x3 x4 : Operand) (ho : op.op = .build 52 #[(0, x0), (1, x1), (2, x2), (3, x3), (4, x4)]) (T : List Int) (v : Value) (A C M : List UInt8) (hv : v.oneCell' = true) (h0 : a.eval x0 = idv T) (h1 : a.eval x1 = v) (h2 : a.eval x2 = sv A) (h3 : a.eval x3 = sv C) (h4 : a.eval x4 = sv M)
    (hk : K (a.put op.dst (cmv T v A C M)) w) : if Region.wanted op (yielded ops a.tmps) = true then Oper.wp Tryz.prog op a w K Q else E := by
  have hw : Region.wanted op (yielded ops a.tmps) = true := by simp [Region.wanted, hgd]
  rw [if_pos hw]
  have h := run_b52 T v A C M w hv
  unfold Oper.wp
  simp only [execOp, ho, List.map_toArray, List.map_cons, List.map_nil, h0, h1, h2, h3, h4, Sem.run_bind, h, Result.andThen_ok, Sem.run_pure]
  exact hk

theorem step_st52 {ops : Array Oper} {op : Oper} {a : Act} {w : World} {K : Act → World → Prop} {Q : Exit → Act → World → Prop} {E : Prop} (hgd : op.guard = none) (x y : Operand) (ho : op.op = .store 52 x y) (b : Nat) (hx : a.eval x = .pointer (some ⟨b, 0, none⟩)) (g : Nat → Value) (hy : a.eval y = row g 24) (f : Nat → Value) (hr : w.rowIs b 52 24 f) (h1 : ∀ j, (g j).oneCell' = true)
    (hk : ∀ w', w'.rowIs b 52 24 g → Fr (fun k => k = b) w w' → K (a.put op.dst undef) w') : if Region.wanted op (yielded ops a.tmps) = true then Oper.wp Tryz.prog op a w K Q else E := by
  have hw : Region.wanted op (yielded ops a.tmps) = true := by simp [Region.wanted, hgd]
  rw [if_pos hw]
  refine wp_store_mid 52 x y ho b 0 (vals g 24).toArray hx hy (by rw [vals_size]; exact there_any hr 0 24 (by omega)) (by rw [vals_size]; kernel_rfl) (vals_one g 24 h1) (hk _ ?_ (Fr.setCells (P := fun k => k = b) rfl _ _ _ _ (Fr.refl _ _)))
  refine (rowIs_setCells (vals g 24) 0 w _ hr).congr (fun j hj => ?_)
  rw [vals_len, if_pos (by omega), Nat.sub_zero, vals_get _ _ _ hj]
  rfl

theorem step_cl1 {w : World} {ops : Array Oper} {o : Oper} {a : Act} {K : Act → World → Prop} {Q : Exit → Act → World → Prop} {E : Prop} {C : Value → World → Prop} (hw : Region.wanted o (yielded ops a.tmps) = true) (f : FuncId) (hf : ∀ vs w, (callFunc f vs).run Tryz.prog w = .ok (.enter f vs) w) (x : Operand) (ts : Array TypeId) (ho : o.op = .call { callee := .value (.func f), args := #[x], argTypes := ts }) (u : Value) (hx : a.eval x = u)
    (hc : Calls Tryz.prog f #[u] w (fun e w' => ∃ v, e = .returned v ∧ C v w')) (hk : ∀ v w', C v w' → K (a.put o.dst v) w') : if Region.wanted o (yielded ops a.tmps) = true then Oper.wp Tryz.prog o a w K Q else E := by
  rw [if_pos hw]
  have hr : (resolve a.eval { callee := .value (.func f), args := #[x], argTypes := ts } o.type >>= fun d => invoke d.target d.args).run Tryz.prog w = .ok (.enter f #[u]) w := by
    rw [← hf #[u] w, ← hx]
    simp [resolve, Act.eval, invoke, Deferred.ofValue]
  unfold Oper.wp execOp
  simp only [ho, hr]
  refine hc.mono ?_
  rintro e w' ⟨v, rfl, h⟩
  exact hk v w' h

set_option maxRecDepth 100000 in
set_option maxHeartbeats 4000000 in
theorem commit_any (T : List Int) (v : Value) (A C M : List UInt8) (d : Array (List Int)) (w : World) (hv : Is w v d) (hd : d.size < 100000) : Calls Tryz.prog 43 #[cmv T v A C M] w fun e w' => ∃ v', e = .returned (cmv T v' A C M) ∧ Dn w.heap.size w' v' d ∧ Below w.heap.size w w' := by
  have hz := zero47
  have hz2 := zero52
  obtain ⟨ao, cap, hve, _⟩ := hv.sh
  obtain ⟨n, hn⟩ : ∃ n, n = d.size := ⟨_, rfl⟩
  rw [← hn] at hve
  subst hve
  obtain ⟨W, hW⟩ : ∃ W, W = (w.alloc (Obj.cells (vals (cf T (.slice ao n cap) A C M) 24).toArray 47)).alloc (Obj.cells (vals (cf z20 nlv [] [] []) 24).toArray 52) := ⟨_, rfl⟩
  have b0 := new_below w (Obj.cells (vals (cf T (.slice ao n cap) A C M) 24).toArray 47)
  have bW : Below w.heap.size w W := by rw [hW]; exact b0.alloc b0.size _
  have rW : W.rowIs w.heap.size 47 24 (cf T (.slice ao n cap) A C M) := by rw [hW]; exact rowIs_fr (P := fun _ => False) (rowIs_vals w _ 24 47) (Fr.ofBelow (new_below _ _)) (fun h => h)
  have r2 : W.rowIs (w.heap.size + 1) 52 24 (cf z20 nlv [] [] []) := by rw [hW]; have := rowIs_vals (w.alloc (Obj.cells (vals (cf T (.slice ao n cap) A C M) 24).toArray 47)) (cf z20 nlv [] [] []) 24 52; simpa using this
  have HR1 : Hid (W.rowIs w.heap.size 47 24 (cf T (.slice ao n cap) A C M)) := rW
  have HR2 : Hid (W.rowIs (w.heap.size + 1) 52 24 (cf z20 nlv [] [] [])) := r2
  have HB : Hid (Below w.heap.size w W) := bW
  have HWz : Hid (w.heap.size + 2 ≤ W.heap.size) := by show _ ≤ _; rw [hW]; simp
  have HOF : Hid (∀ V, Below W.heap.size W V → Calls Tryz.prog 80 #[.slice ao n cap] V fun e w' => ∃ v, e = .returned v ∧ (Dn V.heap.size w' v d ∧ Below V.heap.size V w')) := fun V hV => of_any ao n cap d V ((hv.keep bW).keep hV) hn.symm (by omega)
  have c80 : ∀ vs w, (callFunc 80 vs).run Tryz.prog w = .ok (.enter 80 vs) w := fun vs w => by simp [go_sem]
  have HC80 : Hid (∀ vs w, (callFunc 80 vs).run Tryz.prog w = .ok (.enter 80 vs) w) := c80
  clear bW b0 rW r2 hn hv hd c80
  go_enter Tryz.func43, Tryz.ntmps43
  go_wp2_with fail
  rw [← hW]
  clear hW
  have HSC : Hid (∀ V, Fr (fun i => i = w.heap.size + 1) W V → V.rowIs w.heap.size 47 24 (cf T (.slice ao n cap) A C M)) := fun V hV => rowIs_fr HR1.out hV (by omega)
  refine wp_region_noPanic ?_
  refine wp_region_held_drew (S := fun V => Fr (fun i => i = w.heap.size + 1) W V ∧ ∃ f, V.rowIs (w.heap.size + 1) 52 24 f) (by kernel_rfl) ⟨(Fr.refl _ _).drew, _, rowIs_fr (P := fun _ => False) HR2.out (Fr.refl _ _).drew (fun h => h)⟩ (fun hHeld => ?_)
  refine wpAnyH_take (i := 0) (oi := ⟨some 3, _, _, _, _, _⟩) (v := ?_) rfl (by kernel_rfl) (by kernel_rfl) (by kernel_rfl) (fun _ _ _ h => h) (Or.inl ⟨by rfl, ?_⟩) hHeld ?_
  rotate_left
  · (intro w' hSw; go_simp; try with_reducible rfl)
  try simp only [Act.put, List.setIfInBounds_toArray, List.set_cons_zero, List.set_cons_succ]
  refine wpAnyH_take (i := 1) (oi := ⟨some 4, _, _, _, _, _⟩) (v := idv T) rfl (by kernel_rfl) (by kernel_rfl) (by kernel_rfl) (fun _ _ _ h => h) (yieldsIf_load_mid (by rfl) _ _ rfl w.heap.size 0 rfl (vals (cl T) 20) _ (fun V hV => by
    have h := rangeAt_row (HSC.out V hV.1) 0 20 (by omega)
    rw [vals_congr (fun j => cf T (.slice ao n cap) A C M (0 + j)) (cl T) 20 (fun j hj => by unfold cf; rw [Nat.zero_add, if_pos hj])] at h
    exact h) Tryz.underlying27 rfl (by rw [vals_len]; kernel_rfl)) hHeld ?_
  try simp only [Act.put, List.setIfInBounds_toArray, List.set_cons_zero, List.set_cons_succ]
  refine wpAnyH_take (i := 2) (oi := ⟨some 5, _, _, _, _, _⟩) (v := ?_) rfl (by kernel_rfl) (by kernel_rfl) (by kernel_rfl) (fun _ _ _ h => h) (Or.inl ⟨by rfl, ?_⟩) hHeld ?_
  rotate_left
  · (intro w' hSw; go_simp; try with_reducible rfl)
  try simp only [Act.put, List.setIfInBounds_toArray, List.set_cons_zero, List.set_cons_succ]
  refine wpAnyH_take (i := 3) (oi := ⟨some 6, _, _, _, _, _⟩) (v := .slice ao n cap) rfl (by kernel_rfl) (by kernel_rfl) (by kernel_rfl) (fun _ _ _ h => h) (Or.inl ⟨by rfl, ?_⟩) hHeld ?_
  · (intro w' hSw; have qq : w'.cell? ⟨w.heap.size, 20, none⟩ = some (.slice ao n cap) := (HSC.out w' hSw.1).cell (i := 20) (by omega); go_simp; try with_reducible rfl)
  try simp only [Act.put, List.setIfInBounds_toArray, List.set_cons_zero, List.set_cons_succ]
  refine wpAnyH_take (i := 5) (oi := ⟨some 8, _, _, _, _, _⟩) (v := ?_) rfl (by kernel_rfl) (by kernel_rfl) (by kernel_rfl) (fun _ _ _ h => h) (Or.inl ⟨by rfl, ?_⟩) hHeld ?_
  rotate_left
  · (intro w' hSw; go_simp; try with_reducible rfl)
  try simp only [Act.put, List.setIfInBounds_toArray, List.set_cons_zero, List.set_cons_succ]
  refine wpAnyH_take (i := 6) (oi := ⟨some 9, _, _, _, _, _⟩) (v := sv A) rfl (by kernel_rfl) (by kernel_rfl) (by kernel_rfl) (fun _ _ _ h => h) (Or.inl ⟨by rfl, ?_⟩) hHeld ?_
  · (intro w' hSw; have qq : w'.cell? ⟨w.heap.size, 21, none⟩ = some (sv A) := (HSC.out w' hSw.1).cell (i := 21) (by omega); go_simp; try with_reducible rfl)
  try simp only [Act.put, List.setIfInBounds_toArray, List.set_cons_zero, List.set_cons_succ]
  refine wpAnyH_take (i := 7) (oi := ⟨some 10, _, _, _, _, _⟩) (v := ?_) rfl (by kernel_rfl) (by kernel_rfl) (by kernel_rfl) (fun _ _ _ h => h) (Or.inl ⟨by rfl, ?_⟩) hHeld ?_
  rotate_left
  · (intro w' hSw; go_simp; try with_reducible rfl)
  try simp only [Act.put, List.setIfInBounds_toArray, List.set_cons_zero, List.set_cons_succ]
  refine wpAnyH_take (i := 8) (oi := ⟨some 11, _, _, _, _, _⟩) (v := sv C) rfl (by kernel_rfl) (by kernel_rfl) (by kernel_rfl) (fun _ _ _ h => h) (Or.inl ⟨by rfl, ?_⟩) hHeld ?_
  · (intro w' hSw; have qq : w'.cell? ⟨w.heap.size, 22, none⟩ = some (sv C) := (HSC.out w' hSw.1).cell (i := 22) (by omega); go_simp; try with_reducible rfl)
  try simp only [Act.put, List.setIfInBounds_toArray, List.set_cons_zero, List.set_cons_succ]
  refine wpAnyH_take (i := 9) (oi := ⟨some 12, _, _, _, _, _⟩) (v := ?_) rfl (by kernel_rfl) (by kernel_rfl) (by kernel_rfl) (fun _ _ _ h => h) (Or.inl ⟨by rfl, ?_⟩) hHeld ?_
  rotate_left
  · (intro w' hSw; go_simp; try with_reducible rfl)
  try simp only [Act.put, List.setIfInBounds_toArray, List.set_cons_zero, List.set_cons_succ]
  refine wpAnyH_take (i := 10) (oi := ⟨some 13, _, _, _, _, _⟩) (v := sv M) rfl (by kernel_rfl) (by kernel_rfl) (by kernel_rfl) (fun _ _ _ h => h) (Or.inl ⟨by rfl, ?_⟩) hHeld ?_
  · (intro w' hSw; have qq : w'.cell? ⟨w.heap.size, 23, none⟩ = some (sv M) := (HSC.out w' hSw.1).cell (i := 23) (by omega); go_simp; try with_reducible rfl)
  try simp only [Act.put, List.setIfInBounds_toArray, List.set_cons_zero, List.set_cons_succ]
  refine wpAnyH_ready (rs := [4]) (by kernel_rfl) (by simp) ?_
  refine AllReadyH.cons (o := ⟨some 7, _, _, _, _, _⟩) rfl (fun K hK => ?_) AllReadyH.nil
  have hbd : Below W.heap.size W W.drew := (Below.refl _ _).drew
  refine step_cl1 (by rfl) 80 HC80.out _ _ rfl (.slice ao n cap) rfl (HOF.out W.drew hbd) ?_
  rintro v' w5 ⟨hd5, b5⟩
  obtain ⟨xa, xc, hve⟩ := hd5.shape
  have h1v : v'.oneCell' = true := by rw [hve]; rfl
  have HD5 : Hid (Dn W.drew.heap.size w5 v' d) := hd5
  have f5 : Fr (fun i => i = w.heap.size + 1) W w5 := Fr.ofBelow (hbd.trans b5)
  have r5 : w5.rowIs (w.heap.size + 1) 52 24 (cf z20 nlv [] [] []) := rowIs_fr (P := fun _ => False) HR2.out (Fr.ofBelow (hbd.trans b5)) (fun h => h)
  have HF5 : Hid (Below W.heap.size W w5) := hbd.trans b5
  clear hve hd5
  refine hK.out _ _ ⟨f5, _, r5⟩ (fun hHeld => ?_)
  clear hK K b5 hbd
  try simp only [Act.put, List.setIfInBounds_toArray, List.set_cons_zero, List.set_cons_succ]
  refine wpAnyH_ready (rs := [11]) (by kernel_rfl) (by simp) ?_
  refine AllReadyH.cons (o := ⟨some 14, _, _, _, _, _⟩) rfl (fun K hK => ?_) AllReadyH.nil
  refine step_b52 (by rfl) _ _ _ _ _ rfl T v' A C M h1v rfl rfl rfl rfl rfl ?_
  refine hK.out _ _ hHeld (fun hHeld => ?_)
  clear hK K
  try simp only [Act.put, List.setIfInBounds_toArray, List.set_cons_zero, List.set_cons_succ]
  refine wpAnyH_ready (rs := [12]) (by kernel_rfl) (by simp) ?_
  refine AllReadyH.cons (o := ⟨none, _, _, _, _, _⟩) rfl (fun K hK => ?_) AllReadyH.nil
  refine step_st52 (by rfl) _ _ rfl (w.heap.size + 1) rfl (cf T v' A C M) rfl _ r5 (cf_one _ _ _ _ _ h1v) ?_
  intro w6 r6 f6
  refine hK.out _ _ ⟨f5.trans f6 (fun _ _ h => h), _, r6⟩ (fun hHeld => ?_)
  clear hK K
  refine wpAnyH_done (by kernel_rfl) ?_ _
  refine NoPanic.normal ?_
  have HF6 : Hid (Fr (fun k => k = w.heap.size + 1) w5 w6) := f6
  clear hHeld f5 f6 r5 HSC HR1 HR2 HOF
  go_wp2_with fail
  refine bodyPost_ret (results_row (fn := Tryz.f43) (p := 2) (ty := 52) (by kernel_rfl) _ (by rfl) r6 Tryz.underlying52 rfl (by kernel_rfl)) rfl ⟨v', rfl, ?_, ?_⟩
  · have h := HD5.out
    refine ⟨own_low (ownsRow_fr h.own HF6.out (fun k hk e => by have := (h.own.lt k hk).1; have := HWz.out; simp at *; omega)) (by have := HWz.out; simp; omega), h.ids⟩
  · exact HB.out.trans ((HF5.out.mono HB.out.size).trans (HF6.out.below _ (Nat.le_trans HB.out.size HF5.out.size) (fun i hi e => by omega)))

end Go.Proofs.YtojgablpjdlegaaGreatDoor

/- The law's sameCommit: yes. -/
namespace Go.Proofs.YtojgablpjdlegaaGreatDoor
open Go.RowKit Go.Shelf

theorem same_dp (B B' : Nat) (v v' : Value) (d : Array (List Int)) (w : World) (h : Dp B w v d) (h' : Dn B' w v' d) (hsz : d.size < 100000) :
    Calls Tryz.prog 32 #[v, v'] w fun e w' => e = .returned (.bool true) ∧ Below w.heap.size w w' := by
  obtain ⟨ao, c, rfl⟩ := h.shape
  obtain ⟨bo, c', rfl⟩ := h'.shape
  refine same_wide ao bo c c' d.size d w h.ids (fun h0 => ?_) hsz
  obtain ⟨b, c1, e1, _, _, hx⟩ := h.row h0
  obtain ⟨b', c2, e2, _, _, hx'⟩ := h'.row h0
  injection e1 with e1 _ _
  injection e2 with e2 _ _
  exact ⟨b, b', e1, e2, fun W hW i hi => ⟨(hx.keep hW).load i hi, (hx'.keep hW).load i hi⟩⟩

set_option maxRecDepth 100000 in
set_option maxHeartbeats 4000000 in
theorem sameCommit_yes (T : List Int) (v v' : Value) (A C M : List UInt8) (d : Array (List Int)) (B B' : Nat) (w : World) (hT : IsId T) (h : Dp B w v d) (h' : Dn B' w v' d) (hsz : d.size < 100000) :
    Calls Tryz.prog 27 #[cmv T v A C M, cmv T v' A C M] w fun e w' => e = .returned (.bool true) ∧ Below w.heap.size w w' := by
  have hz := zero47
  have hz2 := zero52
  obtain ⟨ao, c, hv⟩ := h.shape
  obtain ⟨bo, c', hv'⟩ := h'.shape
  obtain ⟨n, hn⟩ : ∃ n, n = d.size := ⟨_, rfl⟩
  rw [← hn] at hv hv'
  subst hv
  subst hv'
  obtain ⟨W, hW⟩ : ∃ W, W = (w.alloc (Obj.cells (vals (cf T (.slice ao n c) A C M) 24).toArray 47)).alloc (Obj.cells (vals (cf T (.slice bo n c') A C M) 24).toArray 52) := ⟨_, rfl⟩
  have b0 := new_below w (Obj.cells (vals (cf T (.slice ao n c) A C M) 24).toArray 47)
  have bW : Below w.heap.size w W := by rw [hW]; exact b0.alloc b0.size _
  have r1 : W.rowIs w.heap.size 47 24 (cf T (.slice ao n c) A C M) := by rw [hW]; exact rowIs_fr (P := fun _ => False) (rowIs_vals w _ 24 47) (Fr.ofBelow (new_below _ _)) (fun h => h)
  have r2 : W.rowIs (w.heap.size + 1) 52 24 (cf T (.slice bo n c') A C M) := by rw [hW]; have := rowIs_vals (w.alloc (Obj.cells (vals (cf T (.slice ao n c) A C M) 24).toArray 47)) (cf T (.slice bo n c') A C M) 24 52; simpa using this
  have HR : Hid (∀ V, Below W.heap.size W V → (loadVar 27 ⟨w.heap.size, 0, none⟩).run Tryz.prog V = .ok (idv T) V ∧ (loadVar 26 ⟨w.heap.size + 1, 0, none⟩).run Tryz.prog V = .ok (idv T) V ∧ V.rowIs w.heap.size 47 24 (cf T (.slice ao n c) A C M) ∧ V.rowIs (w.heap.size + 1) 52 24 (cf T (.slice bo n c') A C M)) := fun V hV => by
    have q1 := rowIs_fr (P := fun _ => False) r1 (Fr.ofBelow hV) (fun h => h)
    have q2 := rowIs_fr (P := fun _ => False) r2 (Fr.ofBelow hV) (fun h => h)
    refine ⟨?_, ?_, q1, q2⟩
    · have h := load_mid (P := Tryz.prog) (o := 0) 27 _ q1 20 (by omega) Tryz.underlying27 rfl (by kernel_rfl)
      rw [row_congr (fun j => cf T (.slice ao n c) A C M (0 + j)) (cl T) 20 (fun j hj => by unfold cf; rw [Nat.zero_add, if_pos hj])] at h
      exact h
    · have h := load_mid (P := Tryz.prog) (o := 0) 26 _ q2 20 (by omega) Tryz.underlying26 rfl (by kernel_rfl)
      rw [row_congr (fun j => cf T (.slice bo n c') A C M (0 + j)) (cl T) 20 (fun j hj => by unfold cf; rw [Nat.zero_add, if_pos hj])] at h
      exact h
  have he : ∀ V, (Op.equalIn 10000 27 (idv T) (idv T)).run Tryz.prog V = .ok true V := fun V => by rw [eql_ids 27 Tryz.underlying27 hT hT V]; simp
  have hsm := same_dp B B' (.slice ao n c) (.slice bo n c') d W (h.keep bW) (h'.keep bW) hsz
  have HB : Hid (Below w.heap.size w W) := bW
  clear bW b0 r1 r2 h h' hn hsz hT
  obtain ⟨l27, l26, q1, q2⟩ := HR.out W (Below.refl _ _)
  have HRC : Hid (∀ V, Below W.heap.size W V → (V.cell? ⟨w.heap.size, 20, none⟩ = some (.slice ao n c) ∧ V.cell? ⟨w.heap.size, 21, none⟩ = some (sv A) ∧ V.cell? ⟨w.heap.size, 22, none⟩ = some (sv C) ∧ V.cell? ⟨w.heap.size, 23, none⟩ = some (sv M)) ∧ V.cell? ⟨w.heap.size + 1, 20, none⟩ = some (.slice bo n c') ∧ V.cell? ⟨w.heap.size + 1, 21, none⟩ = some (sv A) ∧ V.cell? ⟨w.heap.size + 1, 22, none⟩ = some (sv C) ∧ V.cell? ⟨w.heap.size + 1, 23, none⟩ = some (sv M)) := fun V hV => by
    obtain ⟨_, _, g1, g2⟩ := HR.out V hV
    exact ⟨⟨g1.cell (i := 20) (by omega), g1.cell (i := 21) (by omega), g1.cell (i := 22) (by omega), g1.cell (i := 23) (by omega)⟩, g2.cell (i := 20) (by omega), g2.cell (i := 21) (by omega), g2.cell (i := 22) (by omega), g2.cell (i := 23) (by omega)⟩
  obtain ⟨⟨c20, _⟩, k20, _⟩ := HRC.out W (Below.refl _ _)
  clear q1 q2
  go_enter Tryz.func27, Tryz.ntmps27
  go_wp2_with (first
    | (refine wpList_ldv rfl 27 _ rfl ⟨w.heap.size, 0, none⟩ rfl (idv T) (by rw [← hW]; exact l27) ?_; rw [← hW]; clear hW)
    | (refine wpList_ldv rfl 26 _ rfl ⟨w.heap.size + 1, 0, none⟩ rfl (idv T) l26 ?_)
    | (go_at_call 32; refine hsm.mono ?_; rintro e w2 ⟨rfl, b2⟩; have HB2 : Hid (Below W.heap.size W w2) := b2; obtain ⟨⟨_, m21, m22, m23⟩, _, n21, n22, n23⟩ := HRC.out w2 b2; clear b2))
  go_ret
  exact ⟨rfl, HB.out.trans (HB2.out.mono HB.out.size)⟩

end Go.Proofs.YtojgablpjdlegaaGreatDoor

/- The program's decimal, of any text. -/
namespace Go.Proofs.YtojgablpjdlegaaGreatDoor
open Go.RowKit Go.Shelf

set_option maxRecDepth 100000 in
theorem decimal_far (l : List UInt8) (w : World) (h : 10 < l.length) : Calls Tryz.prog 84 #[sv l] w fun e w' => e = .returned (.int .i64 0) ∧ w' = w := by
  have d1 : decide ((10 : Int) < l.length) = true := by simp; omega
  have d2 : decide (10 < l.length) = true := by simp; omega
  clear h
  go_enter Tryz.func84, Tryz.ntmps84
  go_wp2_with fail
  go_ret
  exact ⟨rfl, rfl⟩

set_option maxRecDepth 100000 in
theorem decimal_not (l : List UInt8) (w : World) (h1 : l.length ≤ 10) (h2 : Lib.trimS l digs ≠ []) : Calls Tryz.prog 84 #[sv l] w fun e w' => e = .returned (.int .i64 0) ∧ Below w.heap.size w w' := by
  have ht : Calls Tryz.prog 102 #[sv l, sv digs] w fun e w' => e = .returned (sv (Lib.trimS l digs)) ∧ Below w.heap.size w w' := Any.strings_Trim_laid Tryz.trim (by kernel_rfl) ⟨l.toArray⟩ ⟨digs.toArray⟩ w (by rw [size_sv]; omega) (by decide) (ascii_of_all (by decide))
  obtain ⟨t, htt⟩ : ∃ t, t = Lib.trimS l digs := ⟨_, rfl⟩
  rw [← htt] at ht h2
  have e1 : t.isEmpty = false := by simp [h2]
  have d1 : decide ((10 : Int) < l.length) = false := by simp; omega
  have d2 : decide (10 < l.length) = false := by simp; omega
  clear h1 htt
  go_enter Tryz.func84, Tryz.ntmps84
  go_wp2_with fail
  refine ht.mono ?_
  rintro e w1 ⟨rfl, b1⟩
  have HB1 : Hid (Below w.heap.size w w1) := b1
  clear ht b1
  go_wp2_with fail
  go_ret
  exact ⟨rfl, HB1.out⟩

end Go.Proofs.YtojgablpjdlegaaGreatDoor

/- The program's decimal, whatever the word. -/
namespace Go.Proofs.YtojgablpjdlegaaGreatDoor
open Go.RowKit Go.Shelf

/-- A digit? -/
def isDg (b : UInt8) : Bool := decide (48 ≤ b.toNat ∧ b.toNat ≤ 57)

/-- The number of some digits, behind others. -/
def num (acc : Nat) (l : List UInt8) : Nat := l.foldl (fun n b => n * 10 + (b.toNat - 48)) acc

/-- What a word says: the number of its digits, or 0. -/
def dcl (l : List UInt8) : Int := if l.length ≤ 10 ∧ l.all isDg = true then (num 0 l : Int) else 0

set_option maxRecDepth 100000 in
theorem isDg_digs (b : UInt8) : digs.contains b = isDg b := by
  have h : ∀ n : Fin 256, digs.contains (UInt8.ofNat n.1) = isDg (UInt8.ofNat n.1) := by decide
  have := h ⟨b.toNat, b.toNat_lt⟩
  simpa using this

theorem dw_nil (p : UInt8 → Bool) : ∀ l : List UInt8, l.dropWhile p = [] ↔ ∀ b ∈ l, p b = true
  | [] => by simp
  | a :: l => by
    have ih := dw_nil p l
    rw [List.dropWhile_cons]
    by_cases ha : p a = true
    · rw [if_pos ha, ih]
      simp [ha]
    · rw [if_neg ha]
      simp [ha]

theorem trim_all (l : List UInt8) (h : l.all isDg = true) : Lib.trimS l digs = [] := by
  unfold Lib.trimS Lib.trimLeftS Lib.trimRightS
  have : l.reverse.dropWhile (digs.contains ·) = [] := by
    rw [dw_nil]
    intro b hb
    show digs.contains b = true
    rw [isDg_digs]
    exact List.all_eq_true.1 h b (by simpa using hb)
  rw [this]
  rfl

theorem trim_not (l : List UInt8) (h : Lib.trimS l digs = []) : l.all isDg = true := by
  unfold Lib.trimS Lib.trimLeftS Lib.trimRightS at h
  rw [dw_nil] at h
  rw [List.all_eq_true]
  intro b hb
  rw [← isDg_digs]
  by_cases hm : b ∈ (l.reverse.dropWhile (digs.contains ·)).reverse
  · exact h b hm
  · have hb2 : b ∈ l.reverse := by simpa using hb
    rw [← List.takeWhile_append_dropWhile (p := (digs.contains ·)) (l := l.reverse), List.mem_append] at hb2
    rcases hb2 with h1 | h1
    · have := List.all_takeWhile (p := (digs.contains ·)) (l := l.reverse)
      exact List.all_eq_true.1 this b h1
    · exact absurd (by simpa using h1) hm

theorem decFrom_num : ∀ (l : List UInt8) (acc : Nat), l.all isDg = true → Lib.decFrom acc l = some (num acc l)
  | [], acc, _ => rfl
  | b :: r, acc, h => by
    rw [List.all_cons, Bool.and_eq_true] at h
    have hb : 48 ≤ b.toNat ∧ b.toNat ≤ 57 := by simpa [isDg] using h.1
    rw [Lib.decFrom, Lib.digitVal, if_pos hb]
    exact decFrom_num r _ h.2

theorem atoi_num (l : List UInt8) (h0 : l ≠ []) (h : l.all isDg = true) : Lib.atoi l = some (num 0 l : Int) := by
  cases l with
  | nil => exact absurd rfl h0
  | cons b r =>
    have hb : 48 ≤ b.toNat ∧ b.toNat ≤ 57 := by
      rw [List.all_cons, Bool.and_eq_true] at h
      simpa [isDg] using h.1
    have h1 : (b == 45) = false := by
      rw [beq_eq_false_iff_ne]
      rintro rfl
      exact absurd hb.1 (by decide)
    have h2 : (b == 43) = false := by
      rw [beq_eq_false_iff_ne]
      rintro rfl
      exact absurd hb.1 (by decide)
    rw [Lib.atoi, h1, h2]
    unfold Lib.decNat
    simp only [Bool.false_eq_true, if_false, List.isEmpty_cons]
    rw [decFrom_num _ _ h]
    rfl

theorem decimal_any (l : List UInt8) (w : World) (h0 : l ≠ []) : Calls Tryz.prog 84 #[sv l] w fun e w' => e = .returned (.int .i64 (dcl l)) ∧ Below w.heap.size w w' := by
  unfold dcl
  by_cases h1 : l.length ≤ 10
  · by_cases h2 : l.all isDg = true
    · rw [if_pos ⟨h1, h2⟩]
      exact decimal_ok l _ w h1 (trim_all l h2) (atoi_num l h0 h2)
    · rw [if_neg (fun h => h2 h.2)]
      exact decimal_not l w h1 (fun e => h2 (trim_not l e))
  · rw [if_neg (fun h => h1 h.1)]
    exact (decimal_far l w (by omega)).mono (fun e w' ⟨g1, g2⟩ => ⟨g1, by rw [g2]; exact Below.refl _ _⟩)

end Go.Proofs.YtojgablpjdlegaaGreatDoor

/- Date, whatever the committer, as his words are. -/
namespace Go.Proofs.YtojgablpjdlegaaGreatDoor
open Go.RowKit Go.Shelf

set_option maxRecDepth 100000 in
set_option maxHeartbeats 1000000 in
theorem date_two (T : List Int) (p : Value) (A C M l : List UInt8) (ws : List ByteArray) (k : Nat) (w : World) (hC : C.length ≤ 1000000) (hw : Lib.goFieldsP isBl ⟨C.toArray⟩ = ws) (hk : ws.length = k + 2) (hl : ws[k]? = some ⟨l.toArray⟩) (h0 : l ≠ []) (hk2 : k ≤ 1000000) :
    Calls Tryz.prog 46 #[cmv T p A C M] w fun e w' => e = .returned (.int .i64 (dcl l)) ∧ Below w.heap.size w w' := by
  have hz := zero47
  have r0 := rowIs_vals w (cf T p A C M) 24 47
  have b0 := new_below w (Obj.cells (vals (cf T p A C M) 24).toArray 47)
  have c22 : (w.alloc (Obj.cells (vals (cf T p A C M) 24).toArray 47)).cell? ⟨w.heap.size, 22, none⟩ = some (sv C) := r0.cell (i := 22) (by omega)
  have hf := fields_any C (w.alloc (Obj.cells (vals (cf T p A C M) 24).toArray 47)) hC
  rw [hw, hk] at hf
  have HB : Hid (Below w.heap.size w (w.alloc (Obj.cells (vals (cf T p A C M) 24).toArray 47))) := b0
  have HL : Hid (ws[k]? = some ⟨l.toArray⟩) := hl
  have HD : Hid (∀ W, Calls Tryz.prog 84 #[sv l] W fun e w' => e = .returned (.int .i64 (dcl l)) ∧ Below W.heap.size W w') := fun W => decimal_any l W h0
  obtain ⟨k2, hk2'⟩ : ∃ k2, k2 = k + 2 := ⟨_, rfl⟩
  rw [← hk2'] at hf
  have y1 : (k2 : Int) - 2 = k := by omega
  have y2 : IntKind.i64.wrap (k : Int) = k := wraps_i64 _ (by omega) (by omega)
  have d1 : decide ((k2 : Int) < 2) = false := by simp; omega
  have d2 : decide (k2 < 2) = false := by simp; omega
  have d3 : k < k2 := by omega
  have d4 : (k : Int) < k2 := by omega
  clear hC hw hk hl h0 r0 b0 hk2 hk2'
  go_enter Tryz.func46, Tryz.ntmps46
  go_wp2_with fail
  refine hf.mono ?_
  rintro e w1 ⟨X, rfl, _, o1, b1⟩
  have q1 : w1.cell? ⟨X, k, none⟩ = some (sv l) := by
    have := o1.cells (g := X) rfl k (sv l) (by rw [List.getElem?_map, HL.out]; rfl)
    rwa [Addr.add_lit, Nat.zero_add] at this
  have HB1 : Hid (Below w.heap.size w w1) := HB.out.trans (b1.mono HB.out.size)
  have hd := HD.out w1
  clear hf o1 b1 c22
  go_wp2_with fail
  refine hd.mono ?_
  rintro e w2 ⟨rfl, b2⟩
  have HB2 : Hid (Below w.heap.size w w2) := HB1.out.trans (b2.mono HB1.out.size)
  clear hd b2 q1
  go_wp2
  go_ret
  exact ⟨rfl, HB2.out⟩

set_option maxRecDepth 100000 in
set_option maxHeartbeats 1000000 in
theorem date_few (T : List Int) (p : Value) (A C M : List UInt8) (w : World) (hC : C.length ≤ 1000000) (hk : (Lib.goFieldsP isBl ⟨C.toArray⟩).length < 2) :
    Calls Tryz.prog 46 #[cmv T p A C M] w fun e w' => e = .returned (.int .i64 0) ∧ Below w.heap.size w w' := by
  have hz := zero47
  have r0 := rowIs_vals w (cf T p A C M) 24 47
  have b0 := new_below w (Obj.cells (vals (cf T p A C M) 24).toArray 47)
  have c22 : (w.alloc (Obj.cells (vals (cf T p A C M) 24).toArray 47)).cell? ⟨w.heap.size, 22, none⟩ = some (sv C) := r0.cell (i := 22) (by omega)
  have hf := fields_any C (w.alloc (Obj.cells (vals (cf T p A C M) 24).toArray 47)) hC
  have HB : Hid (Below w.heap.size w (w.alloc (Obj.cells (vals (cf T p A C M) 24).toArray 47))) := b0
  obtain ⟨k2, hk2⟩ : ∃ k2, k2 = (Lib.goFieldsP isBl ⟨C.toArray⟩).length := ⟨_, rfl⟩
  rw [← hk2] at hf hk
  have d1 : decide ((k2 : Int) < 2) = true := by simp; omega
  have d2 : decide (k2 < 2) = true := by simp; omega
  clear hC hk r0 b0 hk2
  go_enter Tryz.func46, Tryz.ntmps46
  go_wp2_with fail
  refine hf.mono ?_
  rintro e w1 ⟨X, rfl, _, o1, b1⟩
  have HB1 : Hid (Below w.heap.size w w1) := HB.out.trans (b1.mono HB.out.size)
  clear hf o1 b1 c22
  go_wp2_with fail
  go_ret
  exact ⟨rfl, HB1.out⟩

end Go.Proofs.YtojgablpjdlegaaGreatDoor

/- Words between blanks: by runes, and by bytes. -/
namespace Go.Proofs.YtojgablpjdlegaaGreatDoor
open Go.RowKit Go.Shelf

/-- The spans, byte by byte. -/
def bsp (s : ByteArray) : Nat → Nat → Option Nat → List (Nat × Nat) → List (Nat × Nat) × Option Nat
  | 0, _, st, acc => (acc, st)
  | f + 1, pos, st, acc =>
    if h : pos < s.size then
      (if (s[pos]'h).toNat = 32 then bsp s f (pos + 1) none (match st with | some a => acc ++ [(a, pos)] | none => acc)
       else bsp s f (pos + 1) (some (st.getD pos)) acc)
    else (acc, st)

/-- From a place on, to the end. -/
def Bs (s : ByteArray) (pos : Nat) (st : Option Nat) (acc : List (Nat × Nat)) : List (Nat × Nat) × Option Nat := bsp s (s.size - pos) pos st acc

theorem Bs_end (s : ByteArray) (pos : Nat) (st : Option Nat) (acc : List (Nat × Nat)) (h : s.size ≤ pos) : Bs s pos st acc = (acc, st) := by
  unfold Bs
  rw [show s.size - pos = 0 by omega]
  rfl

theorem Bs_sp (s : ByteArray) (pos : Nat) (st : Option Nat) (acc : List (Nat × Nat)) (h : pos < s.size) (hb : (s[pos]'h).toNat = 32) : Bs s pos st acc = Bs s (pos + 1) none (match st with | some a => acc ++ [(a, pos)] | none => acc) := by
  unfold Bs
  have e : s.size - pos = (s.size - (pos + 1)) + 1 := by omega
  rw [e]
  conv => lhs; unfold bsp
  rw [dif_pos h, if_pos hb]

theorem Bs_no (s : ByteArray) (pos : Nat) (st : Option Nat) (acc : List (Nat × Nat)) (h : pos < s.size) (hb : (s[pos]'h).toNat ≠ 32) : Bs s pos st acc = Bs s (pos + 1) (some (st.getD pos)) acc := by
  unfold Bs
  have e : s.size - pos = (s.size - (pos + 1)) + 1 := by omega
  rw [e]
  conv => lhs; unfold bsp
  rw [dif_pos h, if_neg hb]

theorem Bs_skip (s : ByteArray) (a : Nat) (acc : List (Nat × Nat)) (pos : Nat) : ∀ k, (∀ j, j < k → ∀ h : pos + j < s.size, (s[pos + j]'h).toNat ≠ 32) → Bs s pos (some a) acc = Bs s (pos + k) (some a) acc
  | 0, _ => rfl
  | k + 1, hk => by
    rw [Bs_skip s a acc pos k (fun j hj h => hk j (by omega) h)]
    by_cases h : pos + k < s.size
    · rw [Bs_no s (pos + k) (some a) acc h (hk k (by omega) h)]
      rfl
    · rw [Bs_end s (pos + k) _ _ (by omega), Bs_end s (pos + (k + 1)) _ _ (by omega)]

theorem spans_bytes (s : ByteArray) : ∀ f pos st acc, s.size - pos ≤ f → Lib.spansFromP isBl s f pos st acc = Bs s pos st acc
  | 0, pos, st, acc, hf => by
    rw [Bs_end s pos st acc (by omega)]
    rfl
  | f + 1, pos, st, acc, hf => by
    by_cases h : pos < s.size
    · unfold Lib.spansFromP
      rw [if_pos h]
      by_cases ha : (s[pos]'h).toNat < 128
      · rw [decode_ascii s pos h ha]
        by_cases hb : (s[pos]'h).toNat = 32
        · rw [Bs_sp s pos st acc h hb]
          simp only [isBl, hb, decide_true, if_true]
          cases st with
          | none => exact spans_bytes s f (pos + 1) none acc (by omega)
          | some a => exact spans_bytes s f (pos + 1) none _ (by omega)
        · rw [Bs_no s pos st acc h hb]
          simp only [isBl, hb, decide_false, Bool.false_eq_true, if_false]
          cases st with
          | none => exact spans_bytes s f (pos + 1) (some pos) acc (by omega)
          | some a => exact spans_bytes s f (pos + 1) (some a) acc (by omega)
      · obtain ⟨h1, h2⟩ := decode_high s pos h (by omega)
        have hb : (s[pos]'h).toNat ≠ 32 := by omega
        have hbl : isBl (Utf8.decode s pos).1 = false := by
          unfold isBl
          rw [decide_eq_false]
          omega
        have hst := decode_step s pos h (by omega)
        rw [Bs_no s pos st acc h hb]
        obtain ⟨k, hk⟩ : ∃ k, (Utf8.decode s pos).2 = k + 1 := ⟨(Utf8.decode s pos).2 - 1, by omega⟩
        rw [hbl, hk]
        rw [hk] at hst
        have hsk := Bs_skip s (st.getD pos) acc (pos + 1) k (fun j hj hs => by
          have h3 := hst (1 + j) (by omega) (by omega)
          have e : pos + 1 + j = pos + (1 + j) := by omega
          simp only [e]
          omega)
        rw [hsk, show pos + 1 + k = pos + (k + 1) by omega]
        simp only [Bool.false_eq_true, if_false]
        cases st with
        | none => exact spans_bytes s f (pos + (k + 1)) (some pos) acc (by omega)
        | some a => exact spans_bytes s f (pos + (k + 1)) (some a) acc (by omega)
    · rw [Bs_end s pos st acc (by omega), Lib.spansFromP_end _ _ _ _ _ _ h]

theorem words_bytes (s : ByteArray) : Lib.goFieldsP isBl s = (Lib.closeSpans s (Bs s 0 none [])).map fun x => s.extract x.1 x.2 := by
  unfold Lib.goFieldsP Lib.spansOfP
  rw [spans_bytes s s.size 0 none [] (by omega)]

end Go.Proofs.YtojgablpjdlegaaGreatDoor

/- A word behind a row of words. -/
namespace Go.Proofs.YtojgablpjdlegaaGreatDoor
open Go.RowKit Go.Shelf

/-- Words, as cells. -/
def wcs (ws : List (List UInt8)) : List Value := ws.map sv

theorem wcs_one (ws : List (List UInt8)) : ∀ u ∈ wcs ws, u.oneCell' = true := by
  intro u hu
  unfold wcs at hu
  obtain ⟨x, _, rfl⟩ := List.mem_map.1 hu
  rfl

theorem Tryz.info9 : (Tryz.prog.info? 9).map (fun i => (i.zero, i.size, i.bytes)) = some (some (sv []), 1, 16) := by kernel_rfl

theorem wpList_app134 {w w0 : World} {ops : Array Oper} {rest : List Oper} {o : Oper} {a : Act} {Q : Exit → Act → World → Prop} (hgd : o.guard = none) (s y : Operand)
    (ho : o.op = .call { callee := .builtin .append, args := #[s, y], argTypes := #[134, 134] }) (B n : Nat) (v : Value) (ws : List (List UInt8)) (p : List UInt8) (hs : a.eval s = v) (hy : a.eval y = .slice (some ⟨w0.heap.size, 0, none⟩) 1 1)
    (hw : w = w0.alloc (.cells #[sv p] 9)) (h : w0.ownsRow B 9 1 v n (wcs ws)) (hn : n ≤ 1000) (hB : B ≤ w0.heap.size)
    (hk : ∀ v' w', w'.ownsRow B 9 1 v' (n + 1) (wcs (ws ++ [p])) → Below B w0 w' → wpList Tryz.prog ops Q rest (a.put o.dst v') w') : wpList Tryz.prog ops Q (o :: rest) a w := by
  obtain ⟨i0, hi, hz0, hz1, hz2⟩ := info_parts Tryz.info9
  have hb : Below w0.heap.size w0 w := by rw [hw]; exact new_below _ _
  have h' : w.ownsRow B 9 1 v n (wcs ws) := by rw [hw]; exact h.alloc _
  have hr := World.rowIs_alloc w0 #[sv p] 9 (fun j => (wcs [p]).getD j undef) (fun i hi => by
    have hi4 : i < 1 := hi
    obtain rfl : i = 0 := by omega
    rfl)
  rw [← hw] at hr
  refine wpList_append_own w hgd s y 134 ho B 9 i0 (sv []) 1 16 Tryz.underlying134 hi hz0 hz1 hz2 rfl (by decide) v n (wcs ws) hs h' ⟨w0.heap.size, 0, none⟩ 1 1 (wcs [p]) hy rfl (fun j u hu => ?_) (wcs_one _) (by unfold maxLen; omega) (by omega) (by have := hb.size; omega) ?_
  · have hj : j < 1 := by
      have := (List.getElem?_eq_some_iff.1 hu).1
      simpa [wcs] using this
    rw [Addr.add_lit, Nat.zero_add, hr.cell (i := j) hj, List.getD, hu]
    rfl
  · intro v' w' h1 h2 _
    refine hk v' w' ?_ ((hb.mono hB).grown h2 (by have := hb.size; omega) (fun k hk => (h.lt k hk).1))
    rw [show wcs (ws ++ [p]) = wcs ws ++ wcs [p] by simp [wcs]]
    exact h1

end Go.Proofs.YtojgablpjdlegaaGreatDoor

/- Words between blanks, as lists; none is empty. -/
namespace Go.Proofs.YtojgablpjdlegaaGreatDoor
open Go.RowKit Go.Shelf

/-- The words of some bytes, behind an open word. -/
def wd : List UInt8 → List UInt8 → List (List UInt8)
  | cur, [] => if cur = [] then [] else [cur]
  | cur, b :: r => if b = 32 then (if cur = [] then wd [] r else cur :: wd [] r) else wd (cur ++ [b]) r

/-- The open word. -/
def cuw (C : List UInt8) (st : Option Nat) (pos : Nat) : List UInt8 := match st with | none => [] | some a => (C.drop a).take (pos - a)

theorem wd_ne : ∀ (r cur : List UInt8), ∀ x ∈ wd cur r, x ≠ []
  | [], cur, x, hx => by
    unfold wd at hx
    by_cases h : cur = []
    · rw [if_pos h] at hx
      cases hx
    · rw [if_neg h] at hx
      rw [List.mem_singleton] at hx
      rw [hx]
      exact h
  | b :: r, cur, x, hx => by
    unfold wd at hx
    by_cases hb : b = 32
    · rw [if_pos hb] at hx
      by_cases h : cur = []
      · rw [if_pos h] at hx
        exact wd_ne r [] x hx
      · rw [if_neg h] at hx
        rcases List.mem_cons.1 hx with rfl | hx
        · exact h
        · exact wd_ne r [] x hx
    · rw [if_neg hb] at hx
      exact wd_ne r _ x hx

theorem wd_len : ∀ (r cur : List UInt8), (wd cur r).length ≤ cur.length + r.length
  | [], cur => by
    unfold wd
    by_cases h : cur = []
    · rw [if_pos h]; simp
    · rw [if_neg h]
      have := List.length_pos_iff.2 h
      simp
      omega
  | b :: r, cur => by
    unfold wd
    by_cases hb : b = 32
    · rw [if_pos hb]
      have ih := wd_len r []
      by_cases h : cur = []
      · rw [if_pos h]
        simp at *
        omega
      · rw [if_neg h]
        have := List.length_pos_iff.2 h
        simp at *
        omega
    · rw [if_neg hb]
      have ih := wd_len r (cur ++ [b])
      simp at *
      omega

theorem ext_mid (l : List UInt8) (a b : Nat) : (⟨l.toArray⟩ : ByteArray).extract a b = ⟨((l.drop a).take (b - a)).toArray⟩ := by
  apply ByteArray.ext
  simp [ByteArray.data_extract]

theorem cu_step (C : List UInt8) (a pos : Nat) (b : UInt8) (r : List UInt8) (ha : a ≤ pos) (hd : C.drop pos = b :: r) : (C.drop a).take (pos + 1 - a) = (C.drop a).take (pos - a) ++ [b] := by
  have hl : pos < C.length := by
    by_cases h : pos < C.length
    · exact h
    · rw [List.drop_of_length_le (by omega)] at hd
      cases hd
  have hg : C[pos] = b := by
    have := List.drop_eq_getElem_cons hl
    rw [hd] at this
    injection this with h1 _
    exact h1.symm
  rw [show pos + 1 - a = (pos - a) + 1 by omega, List.take_succ_eq_append_getElem (by rw [List.length_drop]; omega)]
  rw [List.getElem_drop]
  simp only [show a + (pos - a) = pos by omega, hg]

theorem words_lists (C : List UInt8) : ∀ (r : List UInt8) (pos : Nat) (st : Option Nat) (acc : List (Nat × Nat)), C.drop pos = r → pos ≤ C.length → (∀ a, st = some a → a < pos) →
    ((Lib.closeSpans ⟨C.toArray⟩ (Bs ⟨C.toArray⟩ pos st acc)).map fun x => (⟨C.toArray⟩ : ByteArray).extract x.1 x.2) = (acc.map fun x => (⟨C.toArray⟩ : ByteArray).extract x.1 x.2) ++ (wd (cuw C st pos) r).map fun l => ⟨l.toArray⟩
  | [], pos, st, acc, hd, hp, hst => by
    have hl : pos = C.length := by
      have := congrArg List.length hd
      simp at this
      omega
    rw [Bs_end _ _ _ _ (by rw [size_sv]; omega)]
    cases st with
    | none =>
      show _ = _ ++ List.map _ (wd [] [])
      simp [Lib.closeSpans, wd]
    | some a =>
      have ha := hst a rfl
      have hne : (C.drop a).take (pos - a) ≠ [] := by
        rw [← List.length_pos_iff, List.length_take, List.length_drop]
        omega
      show _ = _ ++ List.map _ (wd ((C.drop a).take (pos - a)) [])
      unfold wd
      rw [if_neg hne]
      show List.map _ (acc ++ [(a, (⟨C.toArray⟩ : ByteArray).size)]) = _
      rw [List.map_append, List.map_cons, List.map_nil, List.map_cons, List.map_nil, size_sv, ← hl]
      show _ ++ [(⟨C.toArray⟩ : ByteArray).extract a pos] = _
      rw [ext_mid]
  | b :: r, pos, st, acc, hd, hp, hst => by
    have hl : pos < C.length := by
      by_cases h : pos < C.length
      · exact h
      · rw [List.drop_of_length_le (by omega)] at hd
        cases hd
    have hg : C[pos] = b := by
      have := List.drop_eq_getElem_cons hl
      rw [hd] at this
      injection this with h1 _
      exact h1.symm
    have hd' : C.drop (pos + 1) = r := by
      have := List.drop_eq_getElem_cons hl
      rw [hd] at this
      injection this with _ h2
      exact h2.symm
    have hs : pos < (⟨C.toArray⟩ : ByteArray).size := by rw [size_sv]; exact hl
    have hgs : (⟨C.toArray⟩ : ByteArray)[pos]'hs = b := by rw [← hg]; rfl
    unfold wd
    by_cases hb : b = 32
    · rw [if_pos hb]
      rw [Bs_sp _ pos st acc hs (by rw [hgs, hb]; rfl)]
      cases st with
      | none =>
        rw [words_lists C r (pos + 1) none acc hd' (by omega) (fun _ h => by cases h)]
        show _ ++ List.map _ (wd [] r) = _ ++ List.map _ (if ([] : List UInt8) = [] then wd [] r else _)
        rw [if_pos rfl]
      | some a =>
        have ha := hst a rfl
        have hne : (C.drop a).take (pos - a) ≠ [] := by
          rw [← List.length_pos_iff, List.length_take, List.length_drop]
          omega
        rw [words_lists C r (pos + 1) none (acc ++ [(a, pos)]) hd' (by omega) (fun _ h => by cases h)]
        show _ ++ List.map _ (wd [] r) = _ ++ List.map _ (if (C.drop a).take (pos - a) = [] then wd [] r else (C.drop a).take (pos - a) :: wd [] r)
        rw [if_neg hne, List.map_append, List.map_cons, List.map_nil, List.append_assoc, List.map_cons, ext_mid]
        rfl
    · rw [if_neg hb]
      rw [Bs_no _ pos st acc hs (by rw [hgs]; intro e; exact hb (UInt8.toNat_inj.1 (by rw [e]; rfl)))]
      cases st with
      | none =>
        rw [Option.getD_none, words_lists C r (pos + 1) (some pos) acc hd' (by omega) (fun _ h => by cases h; omega)]
        have := cu_step C pos pos b r (Nat.le_refl _) hd
        show _ ++ List.map _ (wd ((C.drop pos).take (pos + 1 - pos)) r) = _ ++ List.map _ (wd ([] ++ [b]) r)
        rw [this, Nat.sub_self, List.take_zero]
      | some a =>
        have ha := hst a rfl
        rw [Option.getD_some, words_lists C r (pos + 1) (some a) acc hd' (by omega) (fun _ h => by cases h; omega)]
        have := cu_step C a pos b r (by omega) hd
        show _ ++ List.map _ (wd ((C.drop a).take (pos + 1 - a)) r) = _ ++ List.map _ (wd ((C.drop a).take (pos - a) ++ [b]) r)
        rw [this]

/-- The words, as lists. -/
theorem words_wd (C : List UInt8) : Lib.goFieldsP isBl ⟨C.toArray⟩ = (wd [] C).map fun l => ⟨l.toArray⟩ := by
  rw [words_bytes, words_lists C C 0 none [] rfl (Nat.zero_le _) (fun _ h => by cases h)]
  rfl

/-- What a date says: the number of the last word but one. -/
def dat (C : List UInt8) : Int := if (wd [] C).length < 2 then 0 else dcl ((wd [] C).getD ((wd [] C).length - 2) [])

theorem date_any (T : List Int) (p : Value) (A C M : List UInt8) (w : World) (hC : C.length ≤ 1000000) :
    Calls Tryz.prog 46 #[cmv T p A C M] w fun e w' => e = .returned (.int .i64 (dat C)) ∧ Below w.heap.size w w' := by
  unfold dat
  by_cases h : (wd [] C).length < 2
  · rw [if_pos h]
    exact date_few T p A C M w hC (by rw [words_wd, List.length_map]; exact h)
  · rw [if_neg h]
    obtain ⟨k, hk⟩ : ∃ k, (wd [] C).length = k + 2 := ⟨(wd [] C).length - 2, by omega⟩
    have hlt : k < (wd [] C).length := by omega
    have hl := wd_len C []
    rw [hk, Nat.add_sub_cancel]
    have e : (wd [] C).getD k [] = (wd [] C)[k] := by simp [List.getD, List.getElem?_eq_getElem hlt]
    rw [e]
    refine date_two T p A C M _ ((wd [] C).map fun l => ⟨l.toArray⟩) k w hC (words_wd C) (by rw [List.length_map]; exact hk) ?_ (wd_ne C [] _ (List.getElem_mem hlt)) (by simp at hl; omega)
    rw [List.getElem?_map, List.getElem?_eq_getElem hlt]
    rfl

end Go.Proofs.YtojgablpjdlegaaGreatDoor
