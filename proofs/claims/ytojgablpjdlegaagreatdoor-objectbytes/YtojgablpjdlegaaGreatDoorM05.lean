/- Row, ObA. -/
import Derived.Test.YtojgablpjdlegaaGreatDoorM04
import Derived.Sort.Defs
import Derived.Lib.LazyBuf
import Derived.Test.YtojgablpjdlegaaGreatDoorM01
import Derived.Test.YtojgablpjdlegaaGreatDoorM03
import Derived.Shelf.Strconv.Itoa3
/- Rows of names in memory; Len, Less, Swap. -/
namespace Go.Proofs.YtojgablpjdlegaaGreatDoor
open Go.RowKit

/-- The block b of N cells begins with the names d. -/
structure Rw (w : World) (b N : Nat) (d : Array (List Int)) : Prop where
  row : ∃ f, w.rowIs b 27 N f ∧ ∀ i, i < d.size → ∀ j, j < 20 → f (i * 20 + j) = cl d[i]! j
  le : d.size * 20 ≤ N
  ids : ∀ i, i < d.size → IsId d[i]!

theorem Rw.fr {P : Nat → Prop} {w w' : World} {b N : Nat} {d : Array (List Int)} (h : Rw w b N d) (hf : Fr P w w') (hb : ¬ P b) : Rw w' b N d := by
  obtain ⟨f, h1, h2⟩ := h.row
  exact ⟨⟨f, rowIs_fr h1 hf hb, h2⟩, h.le, h.ids⟩

theorem Rw.keep {w w' : World} {b N : Nat} {d : Array (List Int)} (h : Rw w b N d) (hf : Below w.heap.size w w') : Rw w' b N d := h.fr (P := fun _ => False) (Fr.ofBelow hf) (fun h => h)

theorem Rw.lt {w : World} {b N : Nat} {d : Array (List Int)} (h : Rw w b N d) : b < w.heap.size := by
  obtain ⟨f, h1, h2⟩ := h.row
  exact h1.lt

theorem Rw.load {w : World} {b N : Nat} {d : Array (List Int)} (h : Rw w b N d) (i : Nat) (hi : i < d.size) : (loadVar 27 ⟨b, i * 20, none⟩).run Tryz.prog w = .ok (idv d[i]!) w := by
  obtain ⟨f, h1, h2⟩ := h.row
  have hle := h.le
  rw [load_mid (P := Tryz.prog) 27 _ h1 20 (by omega) Tryz.underlying27 rfl size23, row_congr _ (cl d[i]!) 20 (fun j hj => h2 i hi j hj)]

theorem Rw.range {w : World} {b N : Nat} {d : Array (List Int)} (h : Rw w b N d) (i : Nat) (hi : i < d.size) : w.rangeAt b (i * 20) (vals (cl d[i]!) 20) := by
  obtain ⟨f, h1, h2⟩ := h.row
  have hle := h.le
  rw [← vals_congr _ (cl d[i]!) 20 (fun j hj => h2 i hi j hj)]
  exact rangeAt_row h1 (i * 20) 20 (by omega)

theorem Rw.drew {w : World} {b N : Nat} {d : Array (List Int)} (h : Rw w b N d) : Rw w.drew b N d := ⟨h.row, h.le, h.ids⟩

theorem len_any (ao : Option Addr) (n c : Nat) (w : World) : Calls Tryz.prog 234 #[.slice ao n c] w fun e w' => e = .returned (.int .i64 n) ∧ w' = w := by
  go_enter Tryz.func234, Tryz.ntmps234
  go_wp2
  go_ret
  exact ⟨rfl, rfl⟩

theorem vals_one20 (x : List Int) : ∀ v ∈ vals (cl x) 20, v.oneCell' = true := by
  intro v hv
  unfold vals at hv
  obtain ⟨j, _, rfl⟩ := List.mem_map.1 hv
  rfl

theorem Rw.there {w : World} {b N : Nat} {d : Array (List Int)} (h : Rw w b N d) (i : Nat) (hi : i < d.size) : w.there b (i * 20) 20 := by
  obtain ⟨f, h1, h2⟩ := h.row
  have hle := h.le
  intro j hj
  rw [h1.cell (i := i * 20 + j) (by omega)]
  exact ⟨rfl, h1.frozen _⟩

theorem q_call1 {ops : Array Oper} {o : Oper} {a : Act} {C : World → Prop} {K : Act → Prop} {E : Prop} (hw : Region.wanted o (yielded ops a.tmps) = true) (f : FuncId) (hf : ∀ vs w, (callFunc f vs).run Tryz.prog w = .ok (.enter f vs) w) (x : Operand) (ts : Array TypeId) (ho : o.op = .call { callee := .value (.func f), args := #[x], argTypes := ts }) (u : Value) (hx : a.eval x = u) (v : Value)
    (hc : ∀ w, C w → Calls Tryz.prog f #[u] w (fun e w' => e = .returned v ∧ C w')) (hk : K (a.put o.dst v)) : if Region.wanted o (yielded ops a.tmps) = true then o.quiet Tryz.prog a C K else E := by
  rw [if_pos hw]
  refine ⟨v, fun w hC => ?_, hk⟩
  have h := hc w hC
  have hr : (resolve a.eval { callee := .value (.func f), args := #[x], argTypes := ts } o.type >>= fun d => invoke d.target d.args).run Tryz.prog w = .ok (.enter f #[u]) w := by
    rw [← hf #[u] w, ← hx]
    simp [resolve, Act.eval, invoke, Deferred.ofValue]
  unfold Oper.quietAt execOp
  simp only [ho, hr]
  exact ⟨rfl, h⟩

theorem q_call2 {ops : Array Oper} {o : Oper} {a : Act} {C : World → Prop} {K : Act → Prop} {E : Prop} (hw : Region.wanted o (yielded ops a.tmps) = true) (f : FuncId) (hf : ∀ vs w, (callFunc f vs).run Tryz.prog w = .ok (.enter f vs) w) (x y : Operand) (ts : Array TypeId) (ho : o.op = .call { callee := .value (.func f), args := #[x, y], argTypes := ts }) (u u' : Value) (hx : a.eval x = u) (hy : a.eval y = u') (v : Value)
    (hc : ∀ w, C w → Calls Tryz.prog f #[u, u'] w (fun e w' => e = .returned v ∧ C w')) (hk : K (a.put o.dst v)) : if Region.wanted o (yielded ops a.tmps) = true then o.quiet Tryz.prog a C K else E := by
  rw [if_pos hw]
  refine ⟨v, fun w hC => ?_, hk⟩
  have h := hc w hC
  have hr : (resolve a.eval { callee := .value (.func f), args := #[x, y], argTypes := ts } o.type >>= fun d => invoke d.target d.args).run Tryz.prog w = .ok (.enter f #[u, u']) w := by
    rw [← hf #[u, u'] w, ← hx, ← hy]
    simp [resolve, Act.eval, invoke, Deferred.ofValue]
  unfold Oper.quietAt execOp
  simp only [ho, hr]
  exact ⟨rfl, h⟩

theorem q_load {ops : Array Oper} {o : Oper} {a : Act} {C : World → Prop} {K : Act → Prop} {E : Prop} (hw : Region.wanted o (yielded ops a.tmps) = true) (ty : TypeId) (x : Operand) (ho : o.op = .load ty x) (ad : Addr) (hx : a.eval x = .pointer (some ad)) (v : Value)
    (hc : ∀ w, C w → (loadVar ty ad).run Tryz.prog w = .ok v w) (hk : K (a.put o.dst v)) : if Region.wanted o (yielded ops a.tmps) = true then o.quiet Tryz.prog a C K else E := by
  rw [if_pos hw]
  refine ⟨v, fun w hC => ?_, hk⟩
  have h := hc w hC
  unfold Oper.quietAt execOp
  simp only [ho, hx]
  simp [Instr.loadAt, Instr.sureAddr, h, Oper.quietUpon]

set_option maxRecDepth 100000 in
theorem rless_any (b N c : Nat) (d : Array (List Int)) (w : World) (h : Rw w b N d) (i j : Nat) (hi : i < d.size) (hj : j < d.size) :
    Calls Tryz.prog 235 #[.slice (some ⟨b, 0, none⟩) d.size c, .int .i64 i, .int .i64 j] w fun e w' => e = .returned (.bool (ltl d[i]! d[j]!)) ∧ Below w.heap.size w w' := by
  have H : Hid (∀ W, Below w.heap.size w W → (loadVar 27 ⟨b, i * 20, none⟩).run Tryz.prog W = .ok (idv d[i]!) W ∧ (loadVar 27 ⟨b, j * 20, none⟩).run Tryz.prog W = .ok (idv d[j]!) W ∧ Calls Tryz.prog 237 #[idv d[i]!, idv d[j]!] W (fun e w' => e = .returned (.bool (ltl d[i]! d[j]!)) ∧ Below w.heap.size w w')) := fun W hW => ⟨(h.keep hW).load i hi, (h.keep hW).load j hj, (less_any d[i]! d[j]! (h.ids i hi) (h.ids j hj) W).mono (fun e w' ⟨h1, h2⟩ => ⟨h1, hW.trans (h2.mono hW.size)⟩)⟩
  have hi2 : (i : Int) < (d.size : Int) := by omega
  have hj2 : (j : Int) < (d.size : Int) := by omega
  have c21 : Hid (∀ vs w, (callFunc 237 vs).run Tryz.prog w = .ok (.enter 237 vs) w) := fun vs w => by simp [go_sem]
  generalize d.size = n at *
  generalize d[i]! = x at *
  generalize d[j]! = y at *
  generalize ltl x y = v at *
  clear h
  go_enter Tryz.func235, Tryz.ntmps235
  go_wp2_with fail
  refine wp_region_quiet (C := fun W => Below w.heap.size w W) (by kernel_rfl) (by kernel_rfl) (Below.refl _ _).drew ?_
  repeat
    refine wpQuiet_step (fun K hK => ?_)
    first
      | (refine q_load (by rfl) 27 _ rfl ⟨b, i * 20, none⟩ rfl (idv x) (fun W hW => (H.out W hW).1) (hK _ ?_); clear hK K)
      | (refine q_load (by rfl) 27 _ rfl ⟨b, j * 20, none⟩ rfl (idv y) (fun W hW => (H.out W hW).2.1) (hK _ ?_); clear hK K)
      | (refine q_call2 (by rfl) 237 c21.out _ _ _ rfl (idv x) (idv y) rfl rfl (.bool v) (fun W hW => (H.out W hW).2.2) (hK _ ?_); clear hK K)
      | (go_simp; refine ⟨_, fun wq hs => rfl, hK _ ?_⟩; clear hK K)
  refine wpQuiet_nil ?_
  intro w1 hB1
  go_wp2_with fail
  go_ret
  exact ⟨rfl, hB1⟩

theorem swp_size (d : Array (List Int)) (i j : Nat) : (Sort.swp d i j).size = d.size := by simp [Sort.swp]

theorem swp_get (d : Array (List Int)) (i j : Nat) (k : Nat) (hk : k < d.size) : (Sort.swp d i j)[k]! = if k = j then d[i]! else if k = i then d[j]! else d[k]! := by
  rw [getElem!_pos _ k (by rw [swp_size]; exact hk)]
  unfold Sort.swp
  rw [Array.getElem_setIfInBounds (by simpa using hk)]
  by_cases h1 : j = k
  · rw [if_pos h1, if_pos h1.symm]
  · rw [if_neg h1, if_neg (fun e => h1 e.symm), Array.getElem_setIfInBounds hk]
    by_cases h2 : i = k
    · rw [if_pos h2, if_pos h2.symm]
    · rw [if_neg h2, if_neg (fun e => h2 e.symm), getElem!_pos d k hk]

theorem step_ldv {ops : Array Oper} {op : Oper} {a : Act} {w : World} {K : Act → World → Prop} {Q : Exit → Act → World → Prop} {E : Prop} (hgd : op.guard = none) (ty : TypeId) (x : Operand) (ho : op.op = .load ty x)
    (ad : Addr) (hx : a.eval x = .pointer (some ad)) (v : Value) (hr : (loadVar ty ad).run Tryz.prog w = .ok v w)
    (hk : K (a.put op.dst v) w) : if Region.wanted op (yielded ops a.tmps) = true then Oper.wp Tryz.prog op a w K Q else E := by
  have hw : Region.wanted op (yielded ops a.tmps) = true := by simp [Region.wanted, hgd]
  rw [if_pos hw]
  unfold Oper.wp execOp
  simp only [ho, hx, Instr.loadAt, Instr.sureAddr, Sem.run_bind, Sem.run_pure, Result.andThen_ok, hr]
  exact hk

theorem step_stv {ops : Array Oper} {op : Oper} {a : Act} {w : World} {K : Act → World → Prop} {Q : Exit → Act → World → Prop} {E : Prop} (hgd : op.guard = none) (x y : Operand) (ho : op.op = .store 27 x y)
    (b o : Nat) (hx : a.eval x = .pointer (some ⟨b, o, none⟩)) (z : List Int) (hy : a.eval y = idv z) (ht : w.there b o 20) (w' : World) (hw' : w.setCells b o (vals (cl z) 20) = w')
    (hk : K (a.put op.dst undef) w') : if Region.wanted op (yielded ops a.tmps) = true then Oper.wp Tryz.prog op a w K Q else E := by
  have hw : Region.wanted op (yielded ops a.tmps) = true := by simp [Region.wanted, hgd]
  rw [if_pos hw]
  subst hw'
  exact wp_store_mid 27 x y ho b o (vals (cl z) 20).toArray hx hy (by rw [vals_size]; exact ht) (by rw [vals_size]; exact size23) (vals_one (cl z) 20 (fun _ => rfl)) hk

theorem there_set {w : World} {b N : Nat} {f : Nat → Value} (h : w.rowIs b 27 N f) (o m : Nat) (hm : o + m ≤ N) : w.there b o m := by
  intro j hj
  rw [h.cell (i := o + j) (by omega)]
  exact ⟨rfl, h.frozen _⟩

theorem Fr.setCells {P : Nat → Prop} {b : Nat} (hb : P b) : ∀ (vs : List Value) (o : Nat) (a w : World), Fr P a w → Fr P a (w.setCells b o vs)
  | [], _, _, _, h => h
  | v :: r, o, a, _, h => Fr.setCells hb r (o + 1) a _ (h.setCell (p := ⟨b, o, none⟩) hb v)

theorem sib_get (d : Array (List Int)) (i k : Nat) (z : List Int) (hk : k < d.size) : (d.setIfInBounds i z)[k]! = if i = k then z else d[k]! := by
  rw [getElem!_pos _ k (by simpa using hk), Array.getElem_setIfInBounds hk, getElem!_pos d k hk]

/-- A name is stored. -/
theorem Rw.set {w : World} {b N : Nat} {d : Array (List Int)} (h : Rw w b N d) (i : Nat) (z : List Int) (hz : IsId z) : Rw (w.setCells b (i * 20) (vals (cl z) 20)) b N (d.setIfInBounds i z) ∧ Fr (fun k => k = b) w (w.setCells b (i * 20) (vals (cl z) 20)) := by
  obtain ⟨f, h1, h2⟩ := h.row
  refine ⟨⟨⟨_, rowIs_setCells (vals (cl z) 20) (i * 20) w f h1, fun k hk j hj => ?_⟩, by simpa using h.le, fun k hk => ?_⟩, Fr.setCells (P := fun k => k = b) rfl _ _ _ _ (Fr.refl _ _)⟩
  · have hk' : k < d.size := by simpa using hk
    rw [sib_get d i k z hk', vals_len]
    by_cases e : i = k
    · subst e
      rw [if_pos (by omega), if_pos rfl, show i * 20 + j - i * 20 = j by omega, vals_get _ _ _ hj]
      rfl
    · rw [if_neg (by omega), if_neg e]
      exact h2 k hk' j hj
  · have hk' : k < d.size := by simpa using hk
    rw [sib_get d i k z hk']
    split
    · exact hz
    · exact h.ids k hk'

set_option maxRecDepth 100000 in
set_option maxHeartbeats 2000000 in
theorem swap_any (b N c : Nat) (d : Array (List Int)) (w : World) (h : Rw w b N d) (i j : Nat) (hi : i < d.size) (hj : j < d.size) :
    Calls Tryz.prog 236 #[.slice (some ⟨b, 0, none⟩) d.size c, .int .i64 i, .int .i64 j] w fun e w' => e = .returned (.tuple #[]) ∧ Rw w' b N (Sort.swp d i j) ∧ Fr (fun k => k = b) w w' := by
  have l1 := h.drew.load i hi
  have l2 := h.drew.load j hj
  have t1 := h.drew.there i hi
  obtain ⟨s1, f1⟩ := h.drew.set i d[j]! (h.ids j hj)
  have t2 := s1.there j (by simpa using hj)
  obtain ⟨s2, f2⟩ := s1.set j d[i]! (h.ids i hi)
  have hi2 : (i : Int) < (d.size : Int) := by omega
  have hj2 : (j : Int) < (d.size : Int) := by omega
  have S2 : Hid (Rw ((w.drew.setCells b (i * 20) (vals (cl d[j]!) 20)).setCells b (j * 20) (vals (cl d[i]!) 20)) b N (Sort.swp d i j)) := s2
  have F2 : Hid (Fr (fun k => k = b) w ((w.drew.setCells b (i * 20) (vals (cl d[j]!) 20)).setCells b (j * 20) (vals (cl d[i]!) 20))) := ((Fr.refl _ w).drew.trans f1 (fun _ _ e => e)).trans f2 (fun _ _ e => e)
  generalize hD : Sort.swp d i j = D at *
  generalize d[i]! = x at *
  generalize d[j]! = y at *
  generalize d.size = n at *
  clear h s1 f1 s2 f2 hD
  obtain ⟨w1, hw1⟩ : ∃ w1, w.drew.setCells b (i * 20) (vals (cl y) 20) = w1 := ⟨_, rfl⟩
  obtain ⟨w2, hw2⟩ : ∃ w2, w1.setCells b (j * 20) (vals (cl x) 20) = w2 := ⟨_, rfl⟩
  rw [hw1] at t2
  rw [hw1, hw2] at S2 F2
  have HW1 : Hid (w.drew.setCells b (i * 20) (vals (cl y) 20) = w1) := hw1
  have HW2 : Hid (w1.setCells b (j * 20) (vals (cl x) 20) = w2) := hw2
  clear hw1 hw2
  have L1 : Hid _ := l1
  have L2 : Hid _ := l2
  have T1 : Hid _ := t1
  have T2 : Hid _ := t2
  clear l1 l2 t1 t2
  go_enter Tryz.func236, Tryz.ntmps236
  refine wp_region_any (by kernel_rfl) (show wpAny _ _ _ _ _ _ _ w.drew from ?_)
  refine wpAny_take (i := 0) (oi := ⟨some 6, _, _, _, _, _⟩) (v := ?_) rfl (by kernel_rfl) (by kernel_rfl) (by kernel_rfl) (fun _ _ _ h => h) (Or.inl ⟨by rfl, ?_⟩) ?_
  rotate_left
  · (intro w'; go_simp; try with_reducible rfl)
  try simp only [Act.put, List.setIfInBounds_toArray, List.set_cons_zero, List.set_cons_succ]
  refine wpAny_take (i := 1) (oi := ⟨some 7, _, _, _, _, _⟩) (v := ?_) rfl (by kernel_rfl) (by kernel_rfl) (by kernel_rfl) (fun _ _ _ h => h) (Or.inl ⟨by rfl, ?_⟩) ?_
  rotate_left
  · (intro w'; go_simp; try with_reducible rfl)
  try simp only [Act.put, List.setIfInBounds_toArray, List.set_cons_zero, List.set_cons_succ]
  refine wpAny_take (i := 2) (oi := ⟨some 8, _, _, _, _, _⟩) (v := ?_) rfl (by kernel_rfl) (by kernel_rfl) (by kernel_rfl) (fun _ _ _ h => h) (Or.inl ⟨by rfl, ?_⟩) ?_
  rotate_left
  · (intro w'; go_simp; try with_reducible rfl)
  try simp only [Act.put, List.setIfInBounds_toArray, List.set_cons_zero, List.set_cons_succ]
  refine wpAny_take (i := 3) (oi := ⟨some 9, _, _, _, _, _⟩) (v := ?_) rfl (by kernel_rfl) (by kernel_rfl) (by kernel_rfl) (fun _ _ _ h => h) (Or.inl ⟨by rfl, ?_⟩) ?_
  rotate_left
  · (intro w'; go_simp; try with_reducible rfl)
  try simp only [Act.put, List.setIfInBounds_toArray, List.set_cons_zero, List.set_cons_succ]
  refine wpAny_take (i := 4) (oi := ⟨some 10, _, _, _, _, _⟩) (v := ?_) rfl (by kernel_rfl) (by kernel_rfl) (by kernel_rfl) (fun _ _ _ h => h) (Or.inl ⟨by rfl, ?_⟩) ?_
  rotate_left
  · (intro w'; go_simp; try with_reducible rfl)
  try simp only [Act.put, List.setIfInBounds_toArray, List.set_cons_zero, List.set_cons_succ]
  refine wpAny_take (i := 5) (oi := ⟨some 11, _, _, _, _, _⟩) (v := ?_) rfl (by kernel_rfl) (by kernel_rfl) (by kernel_rfl) (fun _ _ _ h => h) (Or.inl ⟨by rfl, ?_⟩) ?_
  rotate_left
  · (intro w'; go_simp; try with_reducible rfl)
  try simp only [Act.put, List.setIfInBounds_toArray, List.set_cons_zero, List.set_cons_succ]
  refine wpAny_take (i := 8) (oi := ⟨some 14, _, _, _, _, _⟩) (v := ?_) rfl (by kernel_rfl) (by kernel_rfl) (by kernel_rfl) (fun _ _ _ h => h) (Or.inl ⟨by rfl, ?_⟩) ?_
  rotate_left
  · (intro w'; go_simp; try with_reducible rfl)
  try simp only [Act.put, List.setIfInBounds_toArray, List.set_cons_zero, List.set_cons_succ]
  refine wpAny_take (i := 9) (oi := ⟨some 15, _, _, _, _, _⟩) (v := ?_) rfl (by kernel_rfl) (by kernel_rfl) (by kernel_rfl) (fun _ _ _ h => h) (Or.inl ⟨by rfl, ?_⟩) ?_
  rotate_left
  · (intro w'; go_simp; try with_reducible rfl)
  try simp only [Act.put, List.setIfInBounds_toArray, List.set_cons_zero, List.set_cons_succ]
  refine wpAny_take (i := 6) (oi := ⟨some 12, _, _, _, _, _⟩) (v := ?_) rfl (by kernel_rfl) (by kernel_rfl) (by kernel_rfl) (fun _ _ _ h => h) (Or.inl ⟨by rfl, ?_⟩) ?_
  rotate_left
  · (intro w'; go_simp; try with_reducible rfl)
  try simp only [Act.put, List.setIfInBounds_toArray, List.set_cons_zero, List.set_cons_succ]
  refine wpAny_take (i := 10) (oi := ⟨some 16, _, _, _, _, _⟩) (v := ?_) rfl (by kernel_rfl) (by kernel_rfl) (by kernel_rfl) (fun _ _ _ h => h) (Or.inl ⟨by rfl, ?_⟩) ?_
  rotate_left
  · (intro w'; go_simp; try with_reducible rfl)
  try simp only [Act.put, List.setIfInBounds_toArray, List.set_cons_zero, List.set_cons_succ]
  refine wpAny_ready (rs := [7, 11]) (by kernel_rfl) (by simp) ?_
  refine AllReady.cons (o := ⟨some 13, _, _, _, _, _⟩) rfl (fun K hK => ?_) (AllReady.cons (o := ⟨some 17, _, _, _, _, _⟩) rfl (fun K hK => ?_) AllReady.nil)
  · refine step_ldv (w := w.drew) rfl 27 _ rfl ⟨b, j * 20, none⟩ rfl (idv y) L2.out (hK _ _ ?_)
    clear hK K
    try simp only [Act.put, List.setIfInBounds_toArray, List.set_cons_zero, List.set_cons_succ]
    refine wpAny_ready (rs := [11]) (by kernel_rfl) (by simp) ?_
    refine AllReady.cons (o := ⟨some 17, _, _, _, _, _⟩) rfl (fun K hK => ?_) AllReady.nil
    refine step_ldv (w := w.drew) rfl 27 _ rfl ⟨b, i * 20, none⟩ rfl (idv x) L1.out (hK _ _ ?_)
    clear hK K
    try simp only [Act.put, List.setIfInBounds_toArray, List.set_cons_zero, List.set_cons_succ]
    refine wpAny_take (i := 12) (oi := ⟨some 18, _, _, _, _, _⟩) (v := ?_) rfl (by kernel_rfl) (by kernel_rfl) (by kernel_rfl) (fun _ _ _ h => h) (Or.inl ⟨by rfl, ?_⟩) ?_
    rotate_left
    · (intro w'; go_simp; try with_reducible rfl)
    try simp only [Act.put, List.setIfInBounds_toArray, List.set_cons_zero, List.set_cons_succ]
    refine wpAny_ready (rs := [13]) (by kernel_rfl) (by simp) ?_
    refine AllReady.cons (o := ⟨none, _, _, _, _, _⟩) rfl (fun K hK => ?_) AllReady.nil
    refine step_stv (w := w.drew) rfl _ _ rfl b (i * 20) rfl y rfl T1.out w1 HW1.out (hK _ _ ?_)
    clear hK K
    simp only [Act.put]
    refine wpAny_take (i := 14) (oi := ⟨some 19, _, _, _, _, _⟩) (v := ?_) rfl (by kernel_rfl) (by kernel_rfl) (by kernel_rfl) (fun _ _ _ h => h) (Or.inl ⟨by rfl, ?_⟩) ?_
    rotate_left
    · (intro w'; go_simp; try with_reducible rfl)
    try simp only [Act.put, List.setIfInBounds_toArray, List.set_cons_zero, List.set_cons_succ]
    refine wpAny_ready (rs := [15]) (by kernel_rfl) (by simp) ?_
    refine AllReady.cons (o := ⟨none, _, _, _, _, _⟩) rfl (fun K hK => ?_) AllReady.nil
    refine step_stv (w := w1) rfl _ _ rfl b (j * 20) rfl x rfl T2.out w2 HW2.out (hK _ _ ?_)
    clear hK K
    simp only [Act.put]
    refine wpAny_done (by kernel_rfl) ?_ _
    go_end0
    exact ⟨rfl, S2.out, F2.out⟩
  · refine step_ldv (w := w.drew) rfl 27 _ rfl ⟨b, i * 20, none⟩ rfl (idv x) L1.out (hK _ _ ?_)
    clear hK K
    try simp only [Act.put, List.setIfInBounds_toArray, List.set_cons_zero, List.set_cons_succ]
    refine wpAny_ready (rs := [7]) (by kernel_rfl) (by simp) ?_
    refine AllReady.cons (o := ⟨some 13, _, _, _, _, _⟩) rfl (fun K hK => ?_) AllReady.nil
    refine step_ldv (w := w.drew) rfl 27 _ rfl ⟨b, j * 20, none⟩ rfl (idv y) L2.out (hK _ _ ?_)
    clear hK K
    try simp only [Act.put, List.setIfInBounds_toArray, List.set_cons_zero, List.set_cons_succ]
    refine wpAny_take (i := 12) (oi := ⟨some 18, _, _, _, _, _⟩) (v := ?_) rfl (by kernel_rfl) (by kernel_rfl) (by kernel_rfl) (fun _ _ _ h => h) (Or.inl ⟨by rfl, ?_⟩) ?_
    rotate_left
    · (intro w'; go_simp; try with_reducible rfl)
    try simp only [Act.put, List.setIfInBounds_toArray, List.set_cons_zero, List.set_cons_succ]
    refine wpAny_ready (rs := [13]) (by kernel_rfl) (by simp) ?_
    refine AllReady.cons (o := ⟨none, _, _, _, _, _⟩) rfl (fun K hK => ?_) AllReady.nil
    refine step_stv (w := w.drew) rfl _ _ rfl b (i * 20) rfl y rfl T1.out w1 HW1.out (hK _ _ ?_)
    clear hK K
    simp only [Act.put]
    refine wpAny_take (i := 14) (oi := ⟨some 19, _, _, _, _, _⟩) (v := ?_) rfl (by kernel_rfl) (by kernel_rfl) (by kernel_rfl) (fun _ _ _ h => h) (Or.inl ⟨by rfl, ?_⟩) ?_
    rotate_left
    · (intro w'; go_simp; try with_reducible rfl)
    try simp only [Act.put, List.setIfInBounds_toArray, List.set_cons_zero, List.set_cons_succ]
    refine wpAny_ready (rs := [15]) (by kernel_rfl) (by simp) ?_
    refine AllReady.cons (o := ⟨none, _, _, _, _, _⟩) rfl (fun K hK => ?_) AllReady.nil
    refine step_stv (w := w1) rfl _ _ rfl b (j * 20) rfl x rfl T2.out w2 HW2.out (hK _ _ ?_)
    clear hK K
    simp only [Act.put]
    refine wpAny_done (by kernel_rfl) ?_ _
    go_end0
    exact ⟨rfl, S2.out, F2.out⟩

end Go.Proofs.YtojgablpjdlegaaGreatDoor

/- Kinds, words, places, the order of entries. -/
namespace Go.Proofs.YtojgablpjdlegaaGreatDoor
open Go.RowKit

/-- A kind's word. -/
def wrd (k : Int) : ByteArray := if k = 1 then ⟨#[99, 111, 109, 109, 105, 116]⟩ else if k = 2 then ⟨#[116, 114, 101, 101]⟩ else if k = 3 then ⟨#[98, 108, 111, 98]⟩ else if k = 4 then ⟨#[116, 97, 103]⟩ else ⟨#[]⟩

/-- What the package's tables hold. -/
structure Gs (w : World) : Prop where
  words : ∀ k : Nat, k < 5 → w.cell? ⟨0, k, none⟩ = some (.string (wrd k))
  most : ∃ m, w.cell? ⟨1, 0, none⟩ = some (.int .i64 m)
  pow : Lib.TabIs Tryz.prog w "internal/strconv.uint64pow10" .u64 Lib.pow10Tab
  big : 10 ≤ w.heap.size

theorem Gs.below {w w' : World} (h : Gs w) (hb : Below 10 w w') : Gs w' :=
  ⟨fun k hk => by rw [hb.cell (by simp)]; exact h.words k hk,
   by obtain ⟨m, hm⟩ := h.most; exact ⟨m, by rw [hb.cell (by simp)]; exact hm⟩,
   by
    have hp := h.pow
    unfold Lib.TabIs World.var? at *
    rw [show Tryz.prog.globalNamed "internal/strconv.uint64pow10" = some 3 by kernel_rfl] at hp ⊢
    simp only [Option.bind_some] at hp ⊢
    rw [hb.block 3 (by omega)]
    exact hp,
   Nat.le_trans h.big hb.size⟩

theorem Gs.keep {w w' : World} (h : Gs w) (hb : Below w.heap.size w w') : Gs w' := h.below (hb.mono h.big)

set_option maxRecDepth 100000 in
theorem word_any (k : Int) (w : World) (h : Gs w) : Calls Tryz.prog 15 #[.int .i64 k] w fun e w' => e = .returned (.string (wrd k)) ∧ w' = w := by
  by_cases h0 : k < 0
  · have d0 : decide (k < 0) = true := by simp; omega
    have e : wrd k = ⟨#[]⟩ := by unfold wrd; rw [if_neg (by omega), if_neg (by omega), if_neg (by omega), if_neg (by omega)]
    rw [e]
    go_enter Tryz.func15, Tryz.ntmps15
    go_wp2
    go_ret
    exact ⟨rfl, rfl⟩
  by_cases h5 : 5 ≤ k
  · have d0 : decide (k < 0) = false := by simp; omega
    have d5 : decide (5 ≤ k) = true := by simp; omega
    have e : wrd k = ⟨#[]⟩ := by unfold wrd; rw [if_neg (by omega), if_neg (by omega), if_neg (by omega), if_neg (by omega)]
    rw [e]
    go_enter Tryz.func15, Tryz.ntmps15
    go_wp2
    go_ret
    exact ⟨rfl, rfl⟩
  · have hw := h.words
    obtain ⟨n, rfl⟩ : ∃ n : Nat, k = n := ⟨k.toNat, by omega⟩
    have hn : n < 5 := by omega
    have c := hw n hn
    have d0 : decide ((n : Int) < 0) = false := by simp
    have d5 : decide ((5 : Int) ≤ n) = false := by simp; omega
    have d6 : decide (5 ≤ n) = false := by simp; omega
    have x1 : (n : Int) < 5 := by omega
    clear hw h0 h5 h
    go_enter Tryz.func15, Tryz.ntmps15
    go_wp2
    go_ret
    exact ⟨rfl, rfl⟩

/-- An entry's cells. -/
def ef (m : Int) (s : ByteArray) (x : List Int) (j : Nat) : Value := if j = 0 then .int .i64 m else if j = 1 then .string s else cl x (j - 2)

abbrev env (m : Int) (s : ByteArray) (x : List Int) : Value := row (ef m s x) 22

theorem zero79 (w : World) : (zeroValue 79).run Tryz.prog w = .ok (env 0 ⟨#[]⟩ z20) w := by kernel_rfl

/-- What an entry's place hangs on. -/
def plc (m : Int) (s : ByteArray) : ByteArray := if m = 16384 then s ++ ⟨#[47]⟩ else s

set_option maxRecDepth 100000 in
theorem place_any (m : Int) (s : ByteArray) (x : List Int) (w : World) (hs : s.size ≤ 1000000) : Calls Tryz.prog 71 #[env m s x] w fun e w' => e = .returned (.string (plc m s)) ∧ Below w.heap.size w w' := by
  have hz := zero79
  have hr := rowIs_vals w (ef m s x) 22 79
  have c0 : (w.alloc (Obj.cells (vals (ef m s x) 22).toArray 79)).cell? ⟨w.heap.size, 0, none⟩ = some (.int .i64 m) := hr.cell (i := 0) (by omega)
  have c1 : (w.alloc (Obj.cells (vals (ef m s x) 22).toArray 79)).cell? ⟨w.heap.size, 1, none⟩ = some (.string s) := hr.cell (i := 1) (by omega)
  have HB : Hid (Below w.heap.size w (w.alloc (Obj.cells (vals (ef m s x) 22).toArray 79))) := new_below _ _
  clear hr
  by_cases hm : m = 16384
  · have e : plc m s = s ++ ⟨#[47]⟩ := if_pos hm
    rw [e]
    subst hm
    have q : (9223372036854775807 < s.size + 1) = False := by simp; omega
    clear e hs
    go_enter Tryz.func71, Tryz.ntmps71
    go_wp2
    go_ret
    exact ⟨rfl, HB.out⟩
  · have e : plc m s = s := if_neg hm
    have d : (m == 16384) = false := by simp; omega
    rw [e]
    clear e
    go_enter Tryz.func71, Tryz.ntmps71
    go_wp2
    go_ret
    exact ⟨rfl, HB.out⟩

/-- Which of two entries stands first. -/
def ord (m : Int) (s : ByteArray) (n : Int) (t : ByteArray) : Int := Lib.compareBytes (plc m s).data.toList (plc n t).data.toList

theorem cmps_any (s t : ByteArray) (w : World) : Calls Tryz.prog 70 #[.string s, .string t] w fun e w' => e = .returned (.int .i64 (Lib.compareBytes s.data.toList t.data.toList)) ∧ w' = w :=
  Any.strings_Compare Tryz.cmps s t w

set_option maxRecDepth 100000 in
theorem order_any (m : Int) (s : ByteArray) (x : List Int) (n : Int) (t : ByteArray) (y : List Int) (w : World) (hs : s.size ≤ 1000000) (ht : t.size ≤ 1000000) : Calls Tryz.prog 39 #[env m s x, env n t y] w fun e w' => e = .returned (.int .i64 (ord m s n t)) ∧ Below w.heap.size w w' := by
  have hz := zero79
  have b1 : Below w.heap.size w (w.alloc (Obj.cells (vals (ef m s x) 22).toArray 79)) := new_below _ _
  obtain ⟨W, hW⟩ : ∃ W, W = (w.alloc (Obj.cells (vals (ef m s x) 22).toArray 79)).alloc (Obj.cells (vals (ef n t y) 22).toArray 79) := ⟨_, rfl⟩
  have b2 : Below w.heap.size w W := by rw [hW]; exact b1.alloc b1.size _
  have r1 : W.rowIs w.heap.size 79 22 (ef m s x) := by rw [hW]; exact rowIs_fr (P := fun _ => False) (rowIs_vals w (ef m s x) 22 79) (Fr.ofBelow (new_below _ _)) (fun h => h)
  have r2 : W.rowIs (w.heap.size + 1) 79 22 (ef n t y) := by rw [hW]; have := rowIs_vals (w.alloc (Obj.cells (vals (ef m s x) 22).toArray 79)) (ef n t y) 22 79; simpa using this
  have HB : Hid (Below w.heap.size w W) := b2
  have H : Hid (∀ V, Below W.heap.size W V → (loadVar 79 ⟨w.heap.size, 0, none⟩).run Tryz.prog V = .ok (env m s x) V ∧ (loadVar 79 ⟨w.heap.size + 1, 0, none⟩).run Tryz.prog V = .ok (env n t y) V ∧ Calls Tryz.prog 71 #[env m s x] V (fun e w' => e = .returned (.string (plc m s)) ∧ Below W.heap.size W w') ∧ Calls Tryz.prog 71 #[env n t y] V (fun e w' => e = .returned (.string (plc n t)) ∧ Below W.heap.size W w') ∧ Calls Tryz.prog 70 #[.string (plc m s), .string (plc n t)] V (fun e w' => e = .returned (.int .i64 (ord m s n t)) ∧ Below W.heap.size W w')) := fun V hV =>
    ⟨load_all (P := Tryz.prog) 79 _ (rowIs_fr (P := fun _ => False) r1 (Fr.ofBelow hV) (fun h => h)) Tryz.underlying79 rfl (by kernel_rfl),
     load_all (P := Tryz.prog) 79 _ (rowIs_fr (P := fun _ => False) r2 (Fr.ofBelow hV) (fun h => h)) Tryz.underlying79 rfl (by kernel_rfl),
     (place_any m s x V hs).mono (fun e w' ⟨h1, h2⟩ => ⟨h1, hV.trans (h2.mono hV.size)⟩),
     (place_any n t y V ht).mono (fun e w' ⟨h1, h2⟩ => ⟨h1, hV.trans (h2.mono hV.size)⟩),
     (cmps_any _ _ V).mono (fun e w' ⟨h1, h2⟩ => ⟨h1, by rw [h2]; exact hV⟩)⟩
  have c71 : Hid (∀ vs w, (callFunc 71 vs).run Tryz.prog w = .ok (.enter 71 vs) w) := fun vs w => by simp [go_sem]
  have c70 : Hid (∀ vs w, (callFunc 70 vs).run Tryz.prog w = .ok (.enter 70 vs) w) := fun vs w => by simp [go_sem]
  clear b1 b2 r1 r2
  go_enter Tryz.func39, Tryz.ntmps39
  go_wp2_with fail
  rw [← hW]
  clear hW
  refine wp_region_quiet (C := fun V => Below W.heap.size W V) (by kernel_rfl) (by kernel_rfl) (Below.refl _ _).drew ?_
  refine wpQuiet_step (fun K hK => ?_)
  (refine q_load (by rfl) 79 _ rfl ⟨w.heap.size, 0, none⟩ rfl (env m s x) (fun V hV => (H.out V hV).1) (hK _ ?_); clear hK K)
  refine wpQuiet_step (fun K hK => ?_)
  (refine q_call1 (by rfl) 71 c71.out _ _ rfl (env m s x) rfl (.string (plc m s)) (fun V hV => (H.out V hV).2.2.1) (hK _ ?_); clear hK K)
  refine wpQuiet_step (fun K hK => ?_)
  (refine q_load (by rfl) 79 _ rfl ⟨w.heap.size + 1, 0, none⟩ rfl (env n t y) (fun V hV => (H.out V hV).2.1) (hK _ ?_); clear hK K)
  refine wpQuiet_step (fun K hK => ?_)
  (refine q_call1 (by rfl) 71 c71.out _ _ rfl (env n t y) rfl (.string (plc n t)) (fun V hV => (H.out V hV).2.2.2.1) (hK _ ?_); clear hK K)
  refine wpQuiet_step (fun K hK => ?_)
  (refine q_call2 (by rfl) 70 c70.out _ _ _ rfl (.string (plc m s)) (.string (plc n t)) rfl rfl (.int .i64 (ord m s n t)) (fun V hV => (H.out V hV).2.2.2.2) (hK _ ?_); clear hK K)
  refine wpQuiet_step (fun K hK => ?_)
  (go_simp; refine ⟨_, fun wq hs => rfl, hK _ ?_⟩; clear hK K)
  refine wpQuiet_nil ?_
  intro w1 hB1
  go_wp2_with fail
  go_ret
  exact ⟨rfl, HB.out.trans (hB1.mono HB.out.size)⟩

end Go.Proofs.YtojgablpjdlegaaGreatDoor
