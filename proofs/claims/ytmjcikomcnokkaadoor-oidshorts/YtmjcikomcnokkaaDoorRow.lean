/- Rows of names in memory; Len, Less, Swap. -/
import Derived.Test.YtmjcikomcnokkaaDoorWLess
import Derived.Sort.Defs
import Derived.Lib.LazyBuf
namespace Go.Proofs.YtmjcikomcnokkaaDoor
open Go.RowKit

/-- The block b of N cells begins with the names d. -/
structure Rw (w : World) (b N : Nat) (d : Array (List Int)) : Prop where
  row : ∃ f, w.rowIs b 23 N f ∧ ∀ i, i < d.size → ∀ j, j < 20 → f (i * 20 + j) = cl d[i]! j
  le : d.size * 20 ≤ N
  ids : ∀ i, i < d.size → IsId d[i]!

theorem Rw.fr {P : Nat → Prop} {w w' : World} {b N : Nat} {d : Array (List Int)} (h : Rw w b N d) (hf : Fr P w w') (hb : ¬ P b) : Rw w' b N d := by
  obtain ⟨f, h1, h2⟩ := h.row
  exact ⟨⟨f, rowIs_fr h1 hf hb, h2⟩, h.le, h.ids⟩

theorem Rw.keep {w w' : World} {b N : Nat} {d : Array (List Int)} (h : Rw w b N d) (hf : Below w.heap.size w w') : Rw w' b N d := h.fr (P := fun _ => False) (Fr.ofBelow hf) (fun h => h)

theorem Rw.lt {w : World} {b N : Nat} {d : Array (List Int)} (h : Rw w b N d) : b < w.heap.size := by
  obtain ⟨f, h1, h2⟩ := h.row
  exact h1.lt

theorem Rw.load {w : World} {b N : Nat} {d : Array (List Int)} (h : Rw w b N d) (i : Nat) (hi : i < d.size) : (loadVar 23 ⟨b, i * 20, none⟩).run Tryd.prog w = .ok (idv d[i]!) w := by
  obtain ⟨f, h1, h2⟩ := h.row
  have hle := h.le
  rw [load_mid (P := Tryd.prog) 23 _ h1 20 (by omega) Tryd.underlying23 rfl size23, row_congr _ (cl d[i]!) 20 (fun j hj => h2 i hi j hj)]

theorem Rw.range {w : World} {b N : Nat} {d : Array (List Int)} (h : Rw w b N d) (i : Nat) (hi : i < d.size) : w.rangeAt b (i * 20) (vals (cl d[i]!) 20) := by
  obtain ⟨f, h1, h2⟩ := h.row
  have hle := h.le
  rw [← vals_congr _ (cl d[i]!) 20 (fun j hj => h2 i hi j hj)]
  exact rangeAt_row h1 (i * 20) 20 (by omega)

theorem Rw.drew {w : World} {b N : Nat} {d : Array (List Int)} (h : Rw w b N d) : Rw w.drew b N d := ⟨h.row, h.le, h.ids⟩

theorem len_any (ao : Option Addr) (n c : Nat) (w : World) : Calls Tryd.prog 101 #[.slice ao n c] w fun e w' => e = .returned (.int .i64 n) ∧ w' = w := by
  go_enter Tryd.func101, Tryd.ntmps101
  go_wp2
  go_ret
  exact ⟨rfl, rfl⟩

theorem vals_one20 (x : List Int) : ∀ v ∈ vals (cl x) 20, v.oneCell' = true := by
  intro v hv
  unfold vals at hv
  obtain ⟨j, _, rfl⟩ := List.mem_map.1 hv
  rfl

theorem Rw.there {w : World} {b N : Nat} {d : Array (List Int)} (h : Rw w b N d) (i : Nat) (hi : i < d.size) : w.there b (i * 20) 20 := by
  obtain ⟨f, h1, h2⟩ := h.row
  have hle := h.le
  intro j hj
  rw [h1.cell (i := i * 20 + j) (by omega)]
  exact ⟨rfl, h1.frozen _⟩

theorem q_call1 {ops : Array Oper} {o : Oper} {a : Act} {C : World → Prop} {K : Act → Prop} {E : Prop} (hw : Region.wanted o (yielded ops a.tmps) = true) (f : FuncId) (hf : ∀ vs w, (callFunc f vs).run Tryd.prog w = .ok (.enter f vs) w) (x : Operand) (ts : Array TypeId) (ho : o.op = .call { callee := .value (.func f), args := #[x], argTypes := ts }) (u : Value) (hx : a.eval x = u) (v : Value)
    (hc : ∀ w, C w → Calls Tryd.prog f #[u] w (fun e w' => e = .returned v ∧ C w')) (hk : K (a.put o.dst v)) : if Region.wanted o (yielded ops a.tmps) = true then o.quiet Tryd.prog a C K else E := by
  rw [if_pos hw]
  refine ⟨v, fun w hC => ?_, hk⟩
  have h := hc w hC
  have hr : (resolve a.eval { callee := .value (.func f), args := #[x], argTypes := ts } o.type >>= fun d => invoke d.target d.args).run Tryd.prog w = .ok (.enter f #[u]) w := by
    rw [← hf #[u] w, ← hx]
    simp [resolve, Act.eval, invoke, Deferred.ofValue]
  unfold Oper.quietAt execOp
  simp only [ho, hr]
  exact ⟨rfl, h⟩

theorem q_call2 {ops : Array Oper} {o : Oper} {a : Act} {C : World → Prop} {K : Act → Prop} {E : Prop} (hw : Region.wanted o (yielded ops a.tmps) = true) (f : FuncId) (hf : ∀ vs w, (callFunc f vs).run Tryd.prog w = .ok (.enter f vs) w) (x y : Operand) (ts : Array TypeId) (ho : o.op = .call { callee := .value (.func f), args := #[x, y], argTypes := ts }) (u u' : Value) (hx : a.eval x = u) (hy : a.eval y = u') (v : Value)
    (hc : ∀ w, C w → Calls Tryd.prog f #[u, u'] w (fun e w' => e = .returned v ∧ C w')) (hk : K (a.put o.dst v)) : if Region.wanted o (yielded ops a.tmps) = true then o.quiet Tryd.prog a C K else E := by
  rw [if_pos hw]
  refine ⟨v, fun w hC => ?_, hk⟩
  have h := hc w hC
  have hr : (resolve a.eval { callee := .value (.func f), args := #[x, y], argTypes := ts } o.type >>= fun d => invoke d.target d.args).run Tryd.prog w = .ok (.enter f #[u, u']) w := by
    rw [← hf #[u, u'] w, ← hx, ← hy]
    simp [resolve, Act.eval, invoke, Deferred.ofValue]
  unfold Oper.quietAt execOp
  simp only [ho, hr]
  exact ⟨rfl, h⟩

theorem q_load {ops : Array Oper} {o : Oper} {a : Act} {C : World → Prop} {K : Act → Prop} {E : Prop} (hw : Region.wanted o (yielded ops a.tmps) = true) (ty : TypeId) (x : Operand) (ho : o.op = .load ty x) (ad : Addr) (hx : a.eval x = .pointer (some ad)) (v : Value)
    (hc : ∀ w, C w → (loadVar ty ad).run Tryd.prog w = .ok v w) (hk : K (a.put o.dst v)) : if Region.wanted o (yielded ops a.tmps) = true then o.quiet Tryd.prog a C K else E := by
  rw [if_pos hw]
  refine ⟨v, fun w hC => ?_, hk⟩
  have h := hc w hC
  unfold Oper.quietAt execOp
  simp only [ho, hx]
  simp [Instr.loadAt, Instr.sureAddr, h, Oper.quietUpon]

set_option maxRecDepth 100000 in
theorem rless_any (b N c : Nat) (d : Array (List Int)) (w : World) (h : Rw w b N d) (i j : Nat) (hi : i < d.size) (hj : j < d.size) :
    Calls Tryd.prog 102 #[.slice (some ⟨b, 0, none⟩) d.size c, .int .i64 i, .int .i64 j] w fun e w' => e = .returned (.bool (ltl d[i]! d[j]!)) ∧ Below w.heap.size w w' := by
  have H : Hid (∀ W, Below w.heap.size w W → (loadVar 23 ⟨b, i * 20, none⟩).run Tryd.prog W = .ok (idv d[i]!) W ∧ (loadVar 23 ⟨b, j * 20, none⟩).run Tryd.prog W = .ok (idv d[j]!) W ∧ Calls Tryd.prog 21 #[idv d[i]!, idv d[j]!] W (fun e w' => e = .returned (.bool (ltl d[i]! d[j]!)) ∧ Below w.heap.size w w')) := fun W hW => ⟨(h.keep hW).load i hi, (h.keep hW).load j hj, (less_any d[i]! d[j]! (h.ids i hi) (h.ids j hj) W).mono (fun e w' ⟨h1, h2⟩ => ⟨h1, hW.trans (h2.mono hW.size)⟩)⟩
  have hi2 : (i : Int) < (d.size : Int) := by omega
  have hj2 : (j : Int) < (d.size : Int) := by omega
  have c21 : Hid (∀ vs w, (callFunc 21 vs).run Tryd.prog w = .ok (.enter 21 vs) w) := fun vs w => by simp [go_sem]
  generalize d.size = n at *
  generalize d[i]! = x at *
  generalize d[j]! = y at *
  generalize ltl x y = v at *
  clear h
  go_enter Tryd.func102, Tryd.ntmps102
  go_wp2_with fail
  refine wp_region_quiet (C := fun W => Below w.heap.size w W) (by kernel_rfl) (by kernel_rfl) (Below.refl _ _).drew ?_
  repeat
    refine wpQuiet_step (fun K hK => ?_)
    first
      | (refine q_load (by rfl) 23 _ rfl ⟨b, i * 20, none⟩ rfl (idv x) (fun W hW => (H.out W hW).1) (hK _ ?_); clear hK K)
      | (refine q_load (by rfl) 23 _ rfl ⟨b, j * 20, none⟩ rfl (idv y) (fun W hW => (H.out W hW).2.1) (hK _ ?_); clear hK K)
      | (refine q_call2 (by rfl) 21 c21.out _ _ _ rfl (idv x) (idv y) rfl rfl (.bool v) (fun W hW => (H.out W hW).2.2) (hK _ ?_); clear hK K)
      | (go_simp; refine ⟨_, fun wq hs => rfl, hK _ ?_⟩; clear hK K)
  refine wpQuiet_nil ?_
  intro w1 hB1
  go_wp2_with fail
  go_ret
  exact ⟨rfl, hB1⟩

theorem swp_size (d : Array (List Int)) (i j : Nat) : (Sort.swp d i j).size = d.size := by simp [Sort.swp]

theorem swp_get (d : Array (List Int)) (i j : Nat) (k : Nat) (hk : k < d.size) : (Sort.swp d i j)[k]! = if k = j then d[i]! else if k = i then d[j]! else d[k]! := by
  rw [getElem!_pos _ k (by rw [swp_size]; exact hk)]
  unfold Sort.swp
  rw [Array.getElem_setIfInBounds (by simpa using hk)]
  by_cases h1 : j = k
  · rw [if_pos h1, if_pos h1.symm]
  · rw [if_neg h1, if_neg (fun e => h1 e.symm), Array.getElem_setIfInBounds hk]
    by_cases h2 : i = k
    · rw [if_pos h2, if_pos h2.symm]
    · rw [if_neg h2, if_neg (fun e => h2 e.symm), getElem!_pos d k hk]

theorem step_ldv {ops : Array Oper} {op : Oper} {a : Act} {w : World} {K : Act → World → Prop} {Q : Exit → Act → World → Prop} {E : Prop} (hgd : op.guard = none) (ty : TypeId) (x : Operand) (ho : op.op = .load ty x)
    (ad : Addr) (hx : a.eval x = .pointer (some ad)) (v : Value) (hr : (loadVar ty ad).run Tryd.prog w = .ok v w)
    (hk : K (a.put op.dst v) w) : if Region.wanted op (yielded ops a.tmps) = true then Oper.wp Tryd.prog op a w K Q else E := by
  have hw : Region.wanted op (yielded ops a.tmps) = true := by simp [Region.wanted, hgd]
  rw [if_pos hw]
  unfold Oper.wp execOp
  simp only [ho, hx, Instr.loadAt, Instr.sureAddr, Sem.run_bind, Sem.run_pure, Result.andThen_ok, hr]
  exact hk

theorem step_stv {ops : Array Oper} {op : Oper} {a : Act} {w : World} {K : Act → World → Prop} {Q : Exit → Act → World → Prop} {E : Prop} (hgd : op.guard = none) (x y : Operand) (ho : op.op = .store 23 x y)
    (b o : Nat) (hx : a.eval x = .pointer (some ⟨b, o, none⟩)) (z : List Int) (hy : a.eval y = idv z) (ht : w.there b o 20) (w' : World) (hw' : w.setCells b o (vals (cl z) 20) = w')
    (hk : K (a.put op.dst undef) w') : if Region.wanted op (yielded ops a.tmps) = true then Oper.wp Tryd.prog op a w K Q else E := by
  have hw : Region.wanted op (yielded ops a.tmps) = true := by simp [Region.wanted, hgd]
  rw [if_pos hw]
  subst hw'
  exact wp_store_mid 23 x y ho b o (vals (cl z) 20).toArray hx hy (by rw [vals_size]; exact ht) (by rw [vals_size]; exact size23) (vals_one (cl z) 20 (fun _ => rfl)) hk

theorem there_set {w : World} {b N : Nat} {f : Nat → Value} (h : w.rowIs b 23 N f) (o m : Nat) (hm : o + m ≤ N) : w.there b o m := by
  intro j hj
  rw [h.cell (i := o + j) (by omega)]
  exact ⟨rfl, h.frozen _⟩

theorem Fr.setCells {P : Nat → Prop} {b : Nat} (hb : P b) : ∀ (vs : List Value) (o : Nat) (a w : World), Fr P a w → Fr P a (w.setCells b o vs)
  | [], _, _, _, h => h
  | v :: r, o, a, _, h => Fr.setCells hb r (o + 1) a _ (h.setCell (p := ⟨b, o, none⟩) hb v)

theorem sib_get (d : Array (List Int)) (i k : Nat) (z : List Int) (hk : k < d.size) : (d.setIfInBounds i z)[k]! = if i = k then z else d[k]! := by
  rw [getElem!_pos _ k (by simpa using hk), Array.getElem_setIfInBounds hk, getElem!_pos d k hk]

/-- A name is stored. -/
theorem Rw.set {w : World} {b N : Nat} {d : Array (List Int)} (h : Rw w b N d) (i : Nat) (z : List Int) (hz : IsId z) : Rw (w.setCells b (i * 20) (vals (cl z) 20)) b N (d.setIfInBounds i z) ∧ Fr (fun k => k = b) w (w.setCells b (i * 20) (vals (cl z) 20)) := by
  obtain ⟨f, h1, h2⟩ := h.row
  refine ⟨⟨⟨_, rowIs_setCells (vals (cl z) 20) (i * 20) w f h1, fun k hk j hj => ?_⟩, by simpa using h.le, fun k hk => ?_⟩, Fr.setCells (P := fun k => k = b) rfl _ _ _ _ (Fr.refl _ _)⟩
  · have hk' : k < d.size := by simpa using hk
    rw [sib_get d i k z hk', vals_len]
    by_cases e : i = k
    · subst e
      rw [if_pos (by omega), if_pos rfl, show i * 20 + j - i * 20 = j by omega, vals_get _ _ _ hj]
      rfl
    · rw [if_neg (by omega), if_neg e]
      exact h2 k hk' j hj
  · have hk' : k < d.size := by simpa using hk
    rw [sib_get d i k z hk']
    split
    · exact hz
    · exact h.ids k hk'

set_option maxRecDepth 100000 in
set_option maxHeartbeats 2000000 in
theorem swap_any (b N c : Nat) (d : Array (List Int)) (w : World) (h : Rw w b N d) (i j : Nat) (hi : i < d.size) (hj : j < d.size) :
    Calls Tryd.prog 103 #[.slice (some ⟨b, 0, none⟩) d.size c, .int .i64 i, .int .i64 j] w fun e w' => e = .returned (.tuple #[]) ∧ Rw w' b N (Sort.swp d i j) ∧ Fr (fun k => k = b) w w' := by
  have l1 := h.drew.load i hi
  have l2 := h.drew.load j hj
  have t1 := h.drew.there i hi
  obtain ⟨s1, f1⟩ := h.drew.set i d[j]! (h.ids j hj)
  have t2 := s1.there j (by simpa using hj)
  obtain ⟨s2, f2⟩ := s1.set j d[i]! (h.ids i hi)
  have hi2 : (i : Int) < (d.size : Int) := by omega
  have hj2 : (j : Int) < (d.size : Int) := by omega
  have S2 : Hid (Rw ((w.drew.setCells b (i * 20) (vals (cl d[j]!) 20)).setCells b (j * 20) (vals (cl d[i]!) 20)) b N (Sort.swp d i j)) := s2
  have F2 : Hid (Fr (fun k => k = b) w ((w.drew.setCells b (i * 20) (vals (cl d[j]!) 20)).setCells b (j * 20) (vals (cl d[i]!) 20))) := ((Fr.refl _ w).drew.trans f1 (fun _ _ e => e)).trans f2 (fun _ _ e => e)
  generalize hD : Sort.swp d i j = D at *
  generalize d[i]! = x at *
  generalize d[j]! = y at *
  generalize d.size = n at *
  clear h s1 f1 s2 f2 hD
  obtain ⟨w1, hw1⟩ : ∃ w1, w.drew.setCells b (i * 20) (vals (cl y) 20) = w1 := ⟨_, rfl⟩
  obtain ⟨w2, hw2⟩ : ∃ w2, w1.setCells b (j * 20) (vals (cl x) 20) = w2 := ⟨_, rfl⟩
  rw [hw1] at t2
  rw [hw1, hw2] at S2 F2
  have HW1 : Hid (w.drew.setCells b (i * 20) (vals (cl y) 20) = w1) := hw1
  have HW2 : Hid (w1.setCells b (j * 20) (vals (cl x) 20) = w2) := hw2
  clear hw1 hw2
  have L1 : Hid _ := l1
  have L2 : Hid _ := l2
  have T1 : Hid _ := t1
  have T2 : Hid _ := t2
  clear l1 l2 t1 t2
  go_enter Tryd.func103, Tryd.ntmps103
  refine wp_region_any (by kernel_rfl) (show wpAny _ _ _ _ _ _ _ w.drew from ?_)
  refine wpAny_take (i := 0) (oi := ⟨some 6, _, _, _, _, _⟩) (v := ?_) rfl (by kernel_rfl) (by kernel_rfl) (by kernel_rfl) (fun _ _ _ h => h) (Or.inl ⟨by rfl, ?_⟩) ?_
  rotate_left
  · (intro w'; go_simp; try with_reducible rfl)
  try simp only [Act.put, List.setIfInBounds_toArray, List.set_cons_zero, List.set_cons_succ]
  refine wpAny_take (i := 1) (oi := ⟨some 7, _, _, _, _, _⟩) (v := ?_) rfl (by kernel_rfl) (by kernel_rfl) (by kernel_rfl) (fun _ _ _ h => h) (Or.inl ⟨by rfl, ?_⟩) ?_
  rotate_left
  · (intro w'; go_simp; try with_reducible rfl)
  try simp only [Act.put, List.setIfInBounds_toArray, List.set_cons_zero, List.set_cons_succ]
  refine wpAny_take (i := 2) (oi := ⟨some 8, _, _, _, _, _⟩) (v := ?_) rfl (by kernel_rfl) (by kernel_rfl) (by kernel_rfl) (fun _ _ _ h => h) (Or.inl ⟨by rfl, ?_⟩) ?_
  rotate_left
  · (intro w'; go_simp; try with_reducible rfl)
  try simp only [Act.put, List.setIfInBounds_toArray, List.set_cons_zero, List.set_cons_succ]
  refine wpAny_take (i := 3) (oi := ⟨some 9, _, _, _, _, _⟩) (v := ?_) rfl (by kernel_rfl) (by kernel_rfl) (by kernel_rfl) (fun _ _ _ h => h) (Or.inl ⟨by rfl, ?_⟩) ?_
  rotate_left
  · (intro w'; go_simp; try with_reducible rfl)
  try simp only [Act.put, List.setIfInBounds_toArray, List.set_cons_zero, List.set_cons_succ]
  refine wpAny_take (i := 4) (oi := ⟨some 10, _, _, _, _, _⟩) (v := ?_) rfl (by kernel_rfl) (by kernel_rfl) (by kernel_rfl) (fun _ _ _ h => h) (Or.inl ⟨by rfl, ?_⟩) ?_
  rotate_left
  · (intro w'; go_simp; try with_reducible rfl)
  try simp only [Act.put, List.setIfInBounds_toArray, List.set_cons_zero, List.set_cons_succ]
  refine wpAny_take (i := 5) (oi := ⟨some 11, _, _, _, _, _⟩) (v := ?_) rfl (by kernel_rfl) (by kernel_rfl) (by kernel_rfl) (fun _ _ _ h => h) (Or.inl ⟨by rfl, ?_⟩) ?_
  rotate_left
  · (intro w'; go_simp; try with_reducible rfl)
  try simp only [Act.put, List.setIfInBounds_toArray, List.set_cons_zero, List.set_cons_succ]
  refine wpAny_take (i := 8) (oi := ⟨some 14, _, _, _, _, _⟩) (v := ?_) rfl (by kernel_rfl) (by kernel_rfl) (by kernel_rfl) (fun _ _ _ h => h) (Or.inl ⟨by rfl, ?_⟩) ?_
  rotate_left
  · (intro w'; go_simp; try with_reducible rfl)
  try simp only [Act.put, List.setIfInBounds_toArray, List.set_cons_zero, List.set_cons_succ]
  refine wpAny_take (i := 9) (oi := ⟨some 15, _, _, _, _, _⟩) (v := ?_) rfl (by kernel_rfl) (by kernel_rfl) (by kernel_rfl) (fun _ _ _ h => h) (Or.inl ⟨by rfl, ?_⟩) ?_
  rotate_left
  · (intro w'; go_simp; try with_reducible rfl)
  try simp only [Act.put, List.setIfInBounds_toArray, List.set_cons_zero, List.set_cons_succ]
  refine wpAny_take (i := 6) (oi := ⟨some 12, _, _, _, _, _⟩) (v := ?_) rfl (by kernel_rfl) (by kernel_rfl) (by kernel_rfl) (fun _ _ _ h => h) (Or.inl ⟨by rfl, ?_⟩) ?_
  rotate_left
  · (intro w'; go_simp; try with_reducible rfl)
  try simp only [Act.put, List.setIfInBounds_toArray, List.set_cons_zero, List.set_cons_succ]
  refine wpAny_take (i := 10) (oi := ⟨some 16, _, _, _, _, _⟩) (v := ?_) rfl (by kernel_rfl) (by kernel_rfl) (by kernel_rfl) (fun _ _ _ h => h) (Or.inl ⟨by rfl, ?_⟩) ?_
  rotate_left
  · (intro w'; go_simp; try with_reducible rfl)
  try simp only [Act.put, List.setIfInBounds_toArray, List.set_cons_zero, List.set_cons_succ]
  refine wpAny_ready (rs := [7, 11]) (by kernel_rfl) (by simp) ?_
  refine AllReady.cons (o := ⟨some 13, _, _, _, _, _⟩) rfl (fun K hK => ?_) (AllReady.cons (o := ⟨some 17, _, _, _, _, _⟩) rfl (fun K hK => ?_) AllReady.nil)
  · refine step_ldv (w := w.drew) rfl 23 _ rfl ⟨b, j * 20, none⟩ rfl (idv y) L2.out (hK _ _ ?_)
    clear hK K
    try simp only [Act.put, List.setIfInBounds_toArray, List.set_cons_zero, List.set_cons_succ]
    refine wpAny_ready (rs := [11]) (by kernel_rfl) (by simp) ?_
    refine AllReady.cons (o := ⟨some 17, _, _, _, _, _⟩) rfl (fun K hK => ?_) AllReady.nil
    refine step_ldv (w := w.drew) rfl 23 _ rfl ⟨b, i * 20, none⟩ rfl (idv x) L1.out (hK _ _ ?_)
    clear hK K
    try simp only [Act.put, List.setIfInBounds_toArray, List.set_cons_zero, List.set_cons_succ]
    refine wpAny_take (i := 12) (oi := ⟨some 18, _, _, _, _, _⟩) (v := ?_) rfl (by kernel_rfl) (by kernel_rfl) (by kernel_rfl) (fun _ _ _ h => h) (Or.inl ⟨by rfl, ?_⟩) ?_
    rotate_left
    · (intro w'; go_simp; try with_reducible rfl)
    try simp only [Act.put, List.setIfInBounds_toArray, List.set_cons_zero, List.set_cons_succ]
    refine wpAny_ready (rs := [13]) (by kernel_rfl) (by simp) ?_
    refine AllReady.cons (o := ⟨none, _, _, _, _, _⟩) rfl (fun K hK => ?_) AllReady.nil
    refine step_stv (w := w.drew) rfl _ _ rfl b (i * 20) rfl y rfl T1.out w1 HW1.out (hK _ _ ?_)
    clear hK K
    simp only [Act.put]
    refine wpAny_take (i := 14) (oi := ⟨some 19, _, _, _, _, _⟩) (v := ?_) rfl (by kernel_rfl) (by kernel_rfl) (by kernel_rfl) (fun _ _ _ h => h) (Or.inl ⟨by rfl, ?_⟩) ?_
    rotate_left
    · (intro w'; go_simp; try with_reducible rfl)
    try simp only [Act.put, List.setIfInBounds_toArray, List.set_cons_zero, List.set_cons_succ]
    refine wpAny_ready (rs := [15]) (by kernel_rfl) (by simp) ?_
    refine AllReady.cons (o := ⟨none, _, _, _, _, _⟩) rfl (fun K hK => ?_) AllReady.nil
    refine step_stv (w := w1) rfl _ _ rfl b (j * 20) rfl x rfl T2.out w2 HW2.out (hK _ _ ?_)
    clear hK K
    simp only [Act.put]
    refine wpAny_done (by kernel_rfl) ?_ _
    go_end0
    exact ⟨rfl, S2.out, F2.out⟩
  · refine step_ldv (w := w.drew) rfl 23 _ rfl ⟨b, i * 20, none⟩ rfl (idv x) L1.out (hK _ _ ?_)
    clear hK K
    try simp only [Act.put, List.setIfInBounds_toArray, List.set_cons_zero, List.set_cons_succ]
    refine wpAny_ready (rs := [7]) (by kernel_rfl) (by simp) ?_
    refine AllReady.cons (o := ⟨some 13, _, _, _, _, _⟩) rfl (fun K hK => ?_) AllReady.nil
    refine step_ldv (w := w.drew) rfl 23 _ rfl ⟨b, j * 20, none⟩ rfl (idv y) L2.out (hK _ _ ?_)
    clear hK K
    try simp only [Act.put, List.setIfInBounds_toArray, List.set_cons_zero, List.set_cons_succ]
    refine wpAny_take (i := 12) (oi := ⟨some 18, _, _, _, _, _⟩) (v := ?_) rfl (by kernel_rfl) (by kernel_rfl) (by kernel_rfl) (fun _ _ _ h => h) (Or.inl ⟨by rfl, ?_⟩) ?_
    rotate_left
    · (intro w'; go_simp; try with_reducible rfl)
    try simp only [Act.put, List.setIfInBounds_toArray, List.set_cons_zero, List.set_cons_succ]
    refine wpAny_ready (rs := [13]) (by kernel_rfl) (by simp) ?_
    refine AllReady.cons (o := ⟨none, _, _, _, _, _⟩) rfl (fun K hK => ?_) AllReady.nil
    refine step_stv (w := w.drew) rfl _ _ rfl b (i * 20) rfl y rfl T1.out w1 HW1.out (hK _ _ ?_)
    clear hK K
    simp only [Act.put]
    refine wpAny_take (i := 14) (oi := ⟨some 19, _, _, _, _, _⟩) (v := ?_) rfl (by kernel_rfl) (by kernel_rfl) (by kernel_rfl) (fun _ _ _ h => h) (Or.inl ⟨by rfl, ?_⟩) ?_
    rotate_left
    · (intro w'; go_simp; try with_reducible rfl)
    try simp only [Act.put, List.setIfInBounds_toArray, List.set_cons_zero, List.set_cons_succ]
    refine wpAny_ready (rs := [15]) (by kernel_rfl) (by simp) ?_
    refine AllReady.cons (o := ⟨none, _, _, _, _, _⟩) rfl (fun K hK => ?_) AllReady.nil
    refine step_stv (w := w1) rfl _ _ rfl b (j * 20) rfl x rfl T2.out w2 HW2.out (hK _ _ ?_)
    clear hK K
    simp only [Act.put]
    refine wpAny_done (by kernel_rfl) ?_ _
    go_end0
    exact ⟨rfl, S2.out, F2.out⟩

end Go.Proofs.YtmjcikomcnokkaaDoor
