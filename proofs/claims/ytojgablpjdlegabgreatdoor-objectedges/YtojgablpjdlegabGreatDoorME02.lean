/- Qo, LEdges. -/
import Derived.Test.YtojgablpjdlegabGreatDoorM10
import Derived.Test.YtojgablpjdlegabGreatDoorME01
import Derived.Test.YtojgablpjdlegabGreatDoorM19
import Derived.Test.YtojgablpjdlegabGreatDoorMC10
/- Steps of a quiet region, each told of the operation alone. -/
namespace Go.Proofs.YtojgablpjdlegabGreatDoor
open Go.RowKit

theorem ite_ff {W : Bool} {A B : Prop} (h : W = false) : (if W = true then A else B) = B := by rw [h]; simp

theorem oq_mv {o : Oper} {a : Act} {C : World → Prop} {K : Act → Prop} (x : Operand) (ho : o.op = .move x) (v : Value) (hx : a.eval x = v) (hk : K (a.put o.dst v)) : o.quiet Tryz.prog a C K := by
  refine ⟨v, fun w _ => ?_, hk⟩
  unfold Oper.quietAt execOp
  simp only [ho, hx]
  simp [Oper.quietUpon, go_sem]

theorem oq_asg {o : Oper} {a : Act} {C : World → Prop} {K : Act → Prop} (x : Operand) (ho : o.op = .assign x) (v : Value) (hx : a.eval x = v) (hk : K (a.put o.dst v)) : o.quiet Tryz.prog a C K := by
  refine ⟨v, fun w _ => ?_, hk⟩
  unfold Oper.quietAt execOp
  simp only [ho, hx]
  simp [Oper.quietUpon, go_sem]

theorem oq_subI {o : Oper} {a : Act} {C : World → Prop} {K : Act → Prop} (x y : Operand) (t : TypeId) (ho : o.op = .binOp .sub 3 x y t) (p q r : Int) (hx : a.eval x = .int .i64 p) (hy : a.eval y = .int .i64 q) (hr : IntKind.i64.wrap (p - q) = r) (hk : K (a.put o.dst (.int .i64 r))) : o.quiet Tryz.prog a C K := by
  refine ⟨_, fun w _ => ?_, hk⟩
  unfold Oper.quietAt execOp
  simp only [ho, hx, hy]
  simp [Oper.quietUpon, go_sem, hr]

theorem oq_neqI {o : Oper} {a : Act} {C : World → Prop} {K : Act → Prop} (x y : Operand) (t : TypeId) (ho : o.op = .binOp .neq 3 x y t) (p : Int) (hx : a.eval x = .int .i64 p) (hy : a.eval y = .int .i64 p) (hk : K (a.put o.dst (.bool false))) : o.quiet Tryz.prog a C K := by
  refine ⟨_, fun w _ => ?_, hk⟩
  unfold Oper.quietAt execOp
  simp only [ho, hx, hy]
  simp [Oper.quietUpon, go_sem]

theorem oq_pickF {o : Oper} {a : Act} {C : World → Prop} {K : Act → Prop} (x y z : Operand) (ho : o.op = .pick x y z) (hx : a.eval x = .bool false) (v : Value) (hz : a.eval z = v) (hk : K (a.put o.dst v)) : o.quiet Tryz.prog a C K := by
  refine ⟨v, fun w _ => ?_, hk⟩
  unfold Oper.quietAt execOp
  simp only [ho, hx, hz]
  simp [Oper.quietUpon, go_sem]

theorem oq_pickT {o : Oper} {a : Act} {C : World → Prop} {K : Act → Prop} (x y z : Operand) (ho : o.op = .pick x y z) (hx : a.eval x = .bool true) (v : Value) (hy : a.eval y = v) (hk : K (a.put o.dst v)) : o.quiet Tryz.prog a C K := by
  refine ⟨v, fun w _ => ?_, hk⟩
  unfold Oper.quietAt execOp
  simp only [ho, hx, hy]
  simp [Oper.quietUpon, go_sem]

theorem oq_ix {o : Oper} {a : Act} {C : World → Prop} {K : Act → Prop} (t : TypeId) (x y : Operand) (ho : o.op = .indexAddr t x y) (u v p : Value) (hx : a.eval x = u) (hy : a.eval y = v) (h : ∀ w, (Instr.indexAt t u v).run Tryz.prog w = .ok p w) (hk : K (a.put o.dst p)) : o.quiet Tryz.prog a C K := by
  refine ⟨_, fun w _ => ?_, hk⟩
  unfold Oper.quietAt execOp
  simp only [ho, hx, hy]
  simp [h w, Oper.quietUpon]

theorem oq_load {o : Oper} {a : Act} {C : World → Prop} {K : Act → Prop} (ty : TypeId) (x : Operand) (ho : o.op = .load ty x) (ad : Addr) (hx : a.eval x = .pointer (some ad)) (v : Value)
    (hc : ∀ w, C w → (loadVar ty ad).run Tryz.prog w = .ok v w) (hk : K (a.put o.dst v)) : o.quiet Tryz.prog a C K := by
  refine ⟨v, fun w hC => ?_, hk⟩
  have h := hc w hC
  unfold Oper.quietAt execOp
  simp only [ho, hx]
  simp [Instr.loadAt, Instr.sureAddr, h, Oper.quietUpon]

theorem oq_call2 {o : Oper} {a : Act} {C : World → Prop} {K : Act → Prop} (f : FuncId) (hf : ∀ vs w, (callFunc f vs).run Tryz.prog w = .ok (.enter f vs) w) (x y : Operand) (ts : Array TypeId) (ho : o.op = .call { callee := .value (.func f), args := #[x, y], argTypes := ts }) (u u' : Value) (hx : a.eval x = u) (hy : a.eval y = u') (v : Value)
    (hc : ∀ w, C w → Calls Tryz.prog f #[u, u'] w (fun e w' => e = .returned v ∧ C w')) (hk : K (a.put o.dst v)) : o.quiet Tryz.prog a C K := by
  refine ⟨v, fun w hC => ?_, hk⟩
  have h := hc w hC
  have hr : (resolve a.eval { callee := .value (.func f), args := #[x, y], argTypes := ts } o.type >>= fun d => invoke d.target d.args).run Tryz.prog w = .ok (.enter f #[u, u']) w := by
    rw [← hf #[u, u'] w, ← hx, ← hy]
    simp [resolve, Act.eval, invoke, Deferred.ofValue]
  unfold Oper.quietAt execOp
  simp only [ho, hr]
  exact ⟨rfl, h⟩

theorem oq_bin {o : Oper} {a : Act} {C : World → Prop} {K : Act → Prop} (op : BinOp) (t t' : TypeId) (x y : Operand) (ho : o.op = .binOp op t x y t') (A B : Array Value) (hx : a.eval x = .agg A) (hy : a.eval y = .agg B) (v : Value) (hm : Tryz.prog.eqGuardType Tryz.prog.depth t = false) (hb : ∀ w, C w → (binOp op t (.agg A) (.agg B)).run Tryz.prog w = .ok v w) (hk : K (a.put o.dst v)) : o.quiet Tryz.prog a C K := by
  refine ⟨v, fun w hC => ?_, hk⟩
  have h := hb w hC
  have hg := run_eqGuard_agg (P := Tryz.prog) w op t x y A B hm
  unfold Oper.quietAt Oper.quietUpon
  simp only [execOp, ho, hx, hy, Sem.run_bind, hg, h, Result.andThen_ok, Sem.run_pure]
  exact ⟨trivial, trivial⟩

end Go.Proofs.YtojgablpjdlegabGreatDoor

/- ObjectEdges: the law. -/
namespace Go.Proofs.YtojgablpjdlegabGreatDoor
open Go.RowKit Go.Shelf

/-- A slice of marks. -/
structure Bl (w : World) (lo : Option Addr) (m : Nat) (lk : Nat → Bool) : Prop where
  nul : lo = none → m = 0
  cells : ∀ ad, lo = some ad → ∀ j, j < m → w.cell? (ad.add j) = some (.bool (lk j))

theorem Bl.plain {w : World} {lo : Option Addr} {m : Nat} {lk : Nat → Bool} (h : Bl w lo m lk) (h0 : 0 < m) : ∃ b off, lo = some ⟨b, off, none⟩ ∧ ∀ W, Below w.heap.size w W → ∀ i, i < m → W.cell? ⟨b, off + i, none⟩ = some (.bool (lk i)) := by
  cases lo with
  | none => have := h.nul rfl; omega
  | some ad =>
    obtain ⟨b, off, spot⟩ := ad
    have hc := h.cells _ rfl 0 h0
    have hspot : spot = none := by simpa [Addr.add] using World.cell?_spot hc
    subst hspot
    refine ⟨b, off, rfl, fun W hW i hi => ?_⟩
    have := h.cells _ rfl i hi
    rw [Addr.add_lit] at this
    exact cell_keep this hW

/-- Blocks of two rows whose parts are of two types are two. -/
theorem own_two {w : World} {B C e f s t n m : Nat} {u v : Value} {xs ys : List Value} (h : w.ownsRow B e s u n xs) (g : w.ownsRow C f t v m ys) (hne : e ≠ f) : ∀ k, u.ownBlock = some k → v.ownBlock ≠ some k := by
  intro k hk hv
  rcases h.2 with ⟨rfl, _⟩ | ⟨a, cap, cur, rfl, _, hh, _⟩
  · cases hk
  · rcases g.2 with ⟨rfl, _⟩ | ⟨a', cap', cur', rfl, _, hh', _⟩
    · cases hv
    · have e1 : a = k := by simpa [Value.ownBlock] using hk
      have e2 : a' = k := by simpa [Value.ownBlock] using hv
      subst e1
      subst e2
      rw [hh] at hh'
      injection hh' with q
      injection q with q1 q2 q3
      exact hne q2

theorem Dn.other {B : Nat} {w w' : World} {v : Value} {d : Array (List Int)} {k : Option Nat} (h : Dn B w v d) (hg : w.grownBy w' k) (hk : ∀ j, k = some j → v.ownBlock ≠ some j) : Dn B w' v d :=
  ⟨h.own.kept hg (by cases hv : v.ownBlock with
    | none => exact .inl rfl
    | some j => exact .inr fun e => hk j e.symm hv), h.ids⟩

theorem De.other {B : Nat} {w w' : World} {v : Value} {d : Array En} {k : Option Nat} (h : De B w v d) (hg : w.grownBy w' k) (hk : ∀ j, k = some j → v.ownBlock ≠ some j) : De B w' v d :=
  ⟨h.own.kept hg (by cases hv : v.ownBlock with
    | none => exact .inl rfl
    | some j => exact .inr fun e => hk j e.symm hv), h.ok⟩

theorem run_b32 (x : En) (w : World) : (Instr.build 32 #[(0, .int .i64 x.m), (1, sv x.nm), (2, idv x.id)]).run Tryz.prog w = .ok (eV x) w := by kernel_rfl

theorem yi_ldv {ops : Array Oper} {S : World → Prop} {o : Oper} {a : Act} (hw : Region.wanted o (yielded ops a.tmps) = true) (ty : TypeId) (x : Operand) (ho : o.op = .load ty x) (ad : Addr) (hx : a.eval x = .pointer (some ad)) (v : Value)
    (hr : ∀ V, S V → (loadVar ty ad).run Tryz.prog V = .ok v V) : YieldsIf Tryz.prog ops S o v a := by
  refine Or.inl ⟨hw, fun V hV => ?_⟩
  unfold execOp
  simp only [ho, hx, Instr.loadAt, Instr.sureAddr, Sem.run_bind, Sem.run_pure, Result.andThen_ok, hr V hV]

theorem yi_b32 {ops : Array Oper} {S : World → Prop} {o : Oper} {a : Act} (hw : Region.wanted o (yielded ops a.tmps) = true) (A B C : Operand) (ho : o.op = .build 32 #[(0, A), (1, B), (2, C)]) (x : En) (hA : a.eval A = .int .i64 x.m) (hB : a.eval B = sv x.nm) (hC : a.eval C = idv x.id) : YieldsIf Tryz.prog ops S o (eV x) a := by
  refine Or.inl ⟨hw, fun V hV => ?_⟩
  have h := run_b32 x V
  unfold execOp
  simp only [ho]
  rw [show (#[(0, A), (1, B), (2, C)] : Array (Nat × Operand)).map (fun (i, y) => (i, a.eval y)) = #[(0, .int .i64 x.m), (1, sv x.nm), (2, idv x.id)] by simp [hA, hB, hC]]
  simp only [Sem.run_bind, h, Result.andThen_ok]
  rfl

theorem run_bs30 (x : Int) (w : World) : (Instr.buildSlice 30 1 #[(0, .int .u8 x)]).run Tryz.prog w = .ok (.slice (some ⟨w.heap.size, 0, none⟩) 1 1) (w.alloc (.cells #[.int .u8 x] 5)) := by kernel_rfl

theorem step_bs30 {ops : Array Oper} {op : Oper} {a : Act} {w : World} {K : Act → World → Prop} {Q : Exit → Act → World → Prop} {E : Prop} (hgd : op.guard = none) (y : Operand) (ho : op.op = .buildSlice 30 1 #[(0, y)]) (x : Int) (hy : a.eval y = .int .u8 x)
    (hk : K (a.put op.dst (.slice (some ⟨w.heap.size, 0, none⟩) 1 1)) (w.alloc (.cells #[.int .u8 x] 5))) : if Region.wanted op (yielded ops a.tmps) = true then Oper.wp Tryz.prog op a w K Q else E := by
  have hw : Region.wanted op (yielded ops a.tmps) = true := by simp [Region.wanted, hgd]
  rw [if_pos hw]
  have h := run_bs30 x w
  unfold Oper.wp
  simp only [execOp, ho, List.map_toArray, List.map_cons, List.map_nil, hy, Sem.run_bind, h, Result.andThen_ok, Sem.run_pure]
  exact hk

theorem step_cv30 {ops : Array Oper} {op : Oper} {a : Act} {w : World} {K : Act → World → Prop} {Q : Exit → Act → World → Prop} {E : Prop} (hgd : op.guard = none) (y : Operand) (ho : op.op = .convert 30 9 y) (v : Value) (hy : a.eval y = v) (u : Value) (hr : (convert 30 9 v).run Tryz.prog w = .ok u w)
    (hk : K (a.put op.dst u) w) : if Region.wanted op (yielded ops a.tmps) = true then Oper.wp Tryz.prog op a w K Q else E := by
  have hw : Region.wanted op (yielded ops a.tmps) = true := by simp [Region.wanted, hgd]
  rw [if_pos hw]
  unfold Oper.wp
  simp only [execOp, ho, hy, hr, Sem.run_bind, Result.andThen_ok, Sem.run_pure]
  exact hk

theorem run_ix22 (b o n c i : Nat) (e : Int) (he : e = i) (hi : i < n) (w : World) : (Instr.indexAt 22 (.slice (some ⟨b, o, none⟩) n c) (.int .i64 e)).run Tryz.prog w = .ok (.pointer (some ⟨b, o + i * 20, none⟩)) w := run_ixa33 b o n c i e he hi w

theorem run_b41 (v : Value) (w : World) (hv : v.oneCell' = true) : (Instr.build 41 #[(1, v), (2, .string ⟨#[97]⟩), (3, .string ⟨#[98]⟩)]).run Tryz.prog w = .ok (cmv z20 v [97] [98] []) w := by
  cases v with
  | agg cs => simp [Value.oneCell'] at hv
  | _ => kernel_rfl

theorem eql_two (y x : List Int) (w : World) (h : (Op.equalIn 10000 29 (idv y) (idv x)).run Tryz.prog w = .ok (decide (y = x)) w) : (binOp .eql 29 (.agg (vals (cl y) 20).toArray) (.agg (vals (cl x) 20).toArray)).run Tryz.prog w = .ok (.bool (decide (y = x))) w := by
  obtain ⟨A, hA⟩ : ∃ A, (vals (cl y) 20).toArray = A := ⟨_, rfl⟩
  obtain ⟨B, hB⟩ : ∃ B, (vals (cl x) 20).toArray = B := ⟨_, rfl⟩
  unfold idv row at h
  rw [hA, hB] at h
  rw [hA, hB, run_eql_struct, h]
  rfl

theorem all_more (d : Array (List Int)) (i : Nat) (x : List Int) (hx : d[i]! = x) (y : List Int) : (y = z20 ∨ ∃ j, j < i ∧ d[j]! = y) ∨ y = x ↔ y = z20 ∨ ∃ j, j < i + 1 ∧ d[j]! = y := by
  constructor
  · rintro ((h | ⟨j, h1, h2⟩) | h)
    · exact .inl h
    · exact .inr ⟨j, by omega, h2⟩
    · exact .inr ⟨i, by omega, hx.trans h.symm⟩
  · rintro (h | ⟨j, h1, h2⟩)
    · exact .inl (.inl h)
    · by_cases e : j = i
      · subst e; exact .inr (h2.symm.trans hx)
      · exact .inl (.inr ⟨j, by omega, h2⟩)

theorem wpList_app1q {ops : Array Oper} {rest : List Oper} {o : Oper} {a : Act} {w w0 : World} {Q : Exit → Act → World → Prop} (hgd : o.guard = none) (s y : Operand)
    (ho : o.op = .call { callee := .builtin .append, args := #[s, y], argTypes := #[22, 22] }) (B : Nat) (v : Value) (d : Array (List Int)) (x : List Int) (hx : IsId x) (hs : a.eval s = v) (hy : a.eval y = .slice (some ⟨w0.heap.size, 0, none⟩) 1 1)
    (hw : w = w0.alloc (.cells (vals (cl x) 20).toArray 29)) (h : Dp B w0 v d) (hlim : d.size < 100000) (hB : B ≤ w0.heap.size)
    (hk : ∀ v' w', Dp B w' v' (d.push x) → w.grownBy w' v.ownBlock → wpList Tryz.prog ops Q rest (a.put o.dst v') w') : wpList Tryz.prog ops Q (o :: rest) a w := by
  obtain ⟨i0, hi, hz0, hz1, hz2⟩ := info_parts Tryz.info29p
  have hb : Below w0.heap.size w0 w := by rw [hw]; exact new_below _ _
  have h' := h.keep hb
  have hr := rowIs_vals w0 (cl x) 20 29
  rw [← hw] at hr
  refine wpList_append_own w hgd s y 22 ho B 29 i0 (.agg zcs) 20 20 Tryz.underlying22 hi hz0 hz1 hz2 rfl (by decide) v d.size (fl d) hs h'.own ⟨w0.heap.size, 0, none⟩ 1 1 (vals (cl x) 20) hy (by rw [vals_len]) (fun j u hu => ?_) (vals_one20 x) (by unfold maxLen; omega) (by omega) (by have := hb.size; omega) ?_
  · have hj : j < 20 := by
      have := (List.getElem?_eq_some_iff.1 hu).1
      rwa [vals_len] at this
    rw [vals_get _ _ _ hj] at hu
    cases hu
    have := hr.cell (i := j) hj
    rw [Addr.add_lit, Nat.zero_add]
    exact this
  · intro v' w' g1 g2 _
    refine hk v' w' ⟨by rw [fl_push, Array.size_push]; exact g1, fun i hi => ?_⟩ g2
    rw [Array.size_push] at hi
    rw [push_get d x i hi]
    split
    · rename_i e; exact h.ids i e
    · exact hx

theorem more_p {w wx w6 w7 : World} {x : List Int} {pv u v7 : Value} {p q ak : Array (List Int)} (hB : Below w.heap.size w wx) (hD : Dp w.heap.size wx pv p) (hN : Dn w.heap.size wx u ak) (h6 : w6 = wx.alloc (.cells (vals (cl x) 20).toArray 29))
    (g1 : Dp w.heap.size w7 v7 (p.push x)) (g2 : w6.grownBy w7 pv.ownBlock) (hq : q = p.push x) : Dp w.heap.size w7 v7 q ∧ Dn w.heap.size w7 u ak ∧ Below w.heap.size w w7 := by
  have b6 : Below wx.heap.size wx w6 := by rw [h6]; exact new_below _ _
  have hD6 := hD.keep b6
  have hN6 := hN.keep b6
  have hB6 := hB.trans (b6.mono hB.size)
  refine ⟨by rw [hq]; exact g1, hN6.other g2 (fun j hj => own_two hD6.own hN6.own (by decide) j hj), hB6.grown g2 hB6.size (fun j hj => (hD6.own.lt j hj).1)⟩

theorem parents_dp (ao : Option Addr) (n c : Nat) (xs : List Int) (T : List Int) (DS : List (List Int)) (A C M : List UInt8) (w : World) (hg : Gs w) (hr : Rd w ao n c xs) (hn : n ≤ 16384) (hm : Cmg (tb xs) 0 T DS A C M 0) :
    Calls Tryz.prog 10 #[.int .i64 1, .slice ao n c] w fun ex w' => ∃ v B, ex = .returned v ∧ Dp B w' v DS.toArray ∧ Below w.heap.size w w' := by
  refine (parents_gen 1 0 ao n c w (fun f w' => ∃ B, Dp B w' (f 21) DS.toArray) (fun f w' ⟨B, h⟩ => by obtain ⟨a, m, b, _⟩ := h.is.sh; exact ⟨_, _, _, b⟩) ?_).mono ?_
  · refine (parse_commit ao n c xs T DS A C M 0 w hg hr hn hm).mono ?_
    rintro ex w' ⟨f, rfl, h1, h2, h3⟩
    obtain ⟨v, ve, rfl, g2, g3⟩ := h2.ok rfl
    exact ⟨_, rfl, h1, ⟨_, g2⟩, h3⟩
  · rintro ex w' ⟨f, w1, rfl, ⟨B, hq⟩, hb1, hb⟩
    exact ⟨_, B, rfl, hq.keep hb1, hb⟩

theorem same_dp (B B' : Nat) (v v' : Value) (d : Array (List Int)) (w : World) (h : Dp B w v d) (h' : Dn B' w v' d) (hsz : d.size < 100000) :
    Calls Tryz.prog 8 #[v, v'] w fun e w' => e = .returned (.bool true) ∧ Below w.heap.size w w' := by
  obtain ⟨ao, c, rfl⟩ := h.shape
  obtain ⟨bo, c', rfl⟩ := h'.shape
  refine same_wide ao bo c c' d.size d w h.ids (fun h0 => ?_) hsz
  obtain ⟨b, c1, e1, _, _, hx⟩ := h.row h0
  obtain ⟨b', c2, e2, _, _, hx'⟩ := h'.row h0
  injection e1 with e1 _ _
  injection e2 with e2 _ _
  exact ⟨b, b', e1, e2, fun W hW i hi => ⟨(hx.keep hW).load i hi, (hx'.keep hW).load i hi⟩⟩

theorem dn_one (w : World) (x : List Int) (hx : IsId x) (B : Nat) (hB : B ≤ w.heap.size) : Dn B (w.alloc (.cells (vals (cl x) 20).toArray 28)) (.slice (some ⟨w.heap.size, 0, none⟩) 1 1) #[x] := by
  refine ⟨?_, fun i hi => ?_⟩
  · have := World.ownsRow_lit (e := 28) (size := 20) (base := B) w (vals (cl x) 20).toArray 1 hB (by decide) (by simp [vals_len])
    have e : fl #[x] = vals (cl x) 20 := by simp [fl]
    rw [e]
    simpa using this
  · have : i = 0 := by simp at hi; omega
    subst this
    exact hx

set_option maxRecDepth 100000 in
theorem edges_skipA (ao lo : Option Addr) (n c m q : Nat) (w : World) (hg : Gs w) (hA : 20 < n) :
    Calls Tryz.prog 3 #[.slice ao n c, .slice lo m q] w fun e w' => e = .returned (.bool true) ∧ Below w.heap.size w w' := by
  have z1 : decide ((20 : Int) < (n : Int)) = true := by simp; omega
  have z2 : decide (20 < n) = true := by simp; omega
  have hkn := known_yes w hg
  clear hA hg
  go_enter Tryz.func3, Tryz.ntmps3
  go_wp2_with fail
  refine hkn.mono ?_
  rintro e w1 ⟨rfl, b1⟩
  have HB1 : Hid (Below w.heap.size w w1) := b1
  clear hkn b1
  go_wp2_with fail
  go_ret
  exact ⟨rfl, HB1.out⟩

set_option maxRecDepth 100000 in
theorem edges_skipB (ao lo : Option Addr) (n c m q : Nat) (w : World) (hg : Gs w) (hA : n ≤ 20) (hB : m < n) :
    Calls Tryz.prog 3 #[.slice ao n c, .slice lo m q] w fun e w' => e = .returned (.bool true) ∧ Below w.heap.size w w' := by
  have z1 : decide ((20 : Int) < (n : Int)) = false := by simp; omega
  have z2 : decide (20 < n) = false := by simp; omega
  have z3 : decide ((m : Int) < (n : Int)) = true := by simp; omega
  have z4 : decide (m < n) = true := by simp; omega
  have hkn := known_yes w hg
  clear hA hB hg
  go_enter Tryz.func3, Tryz.ntmps3
  go_wp2_with fail
  refine hkn.mono ?_
  rintro e w1 ⟨rfl, b1⟩
  have HB1 : Hid (Below w.heap.size w w1) := b1
  clear hkn b1
  go_wp2_with fail
  go_ret
  exact ⟨rfl, HB1.out⟩


theorem rd_one (w : World) (x : Int) (h0 : 0 ≤ x) (h1 : x < 256) : Rd (w.alloc (.cells #[.int .u8 x] 5)) (some ⟨w.heap.size, 0, none⟩) 1 1 [x] := by
  refine ⟨rfl, Nat.le_refl _, (fun e => by cases e), fun ad had j hj => ?_, fun y hy => ?_⟩
  · cases had
    have : j = 0 := by omega
    subst this
    have hr := rowIs_vals w (fun _ => Value.int .u8 x) 1 5
    exact hr.cell (i := 0) (by omega)
  · simp at hy
    subst hy
    exact ⟨h0, h1⟩

theorem conv_one {w : World} {X k : Nat} {c8 : UInt8} (h : Rd w (some ⟨X, 0, none⟩) 1 1 [97 + (k : Int)]) (hc : c8 = UInt8.ofNat (97 + k)) : (convert 30 9 (.slice (some ⟨X, 0, none⟩) 1 1)).run Tryz.prog w = .ok (sv [c8]) w := by
  have := h.str
  rw [tb_sv] at this
  have e : tb [97 + (k : Int)] = [c8] := by
    show [UInt8.ofNat (97 + (k : Int)).toNat] = _
    rw [show (97 + (k : Int)).toNat = 97 + k by omega, hc]
  rw [e] at this
  exact this

set_option maxRecDepth 100000 in
set_option maxHeartbeats 16000000 in
theorem edges_go (ao lo : Option Addr) (n c m q : Nat) (d : Array (List Int)) (lk : Nat → Bool) (w : World) (h : Is w (.slice ao n c) d) (hl : Bl w lo m lk) (ht : Ts w) (hn : n = d.size) (h20 : n ≤ 20) (hm : n ≤ m) :
    Calls Tryz.prog 3 #[.slice ao n c, .slice lo m q] w fun e w' => e = .returned (.bool true) ∧ Below w.heap.size w w' := by
  have z1 : decide ((20 : Int) < (n : Int)) = false := by simp; omega
  have z2 : decide (20 < n) = false := by simp; omega
  have z3 : decide ((m : Int) < (n : Int)) = false := by simp; omega
  have z4 : decide (m < n) = false := by simp; omega
  have HP : Hid (0 < n → ∃ b off, ao = some ⟨b, off, none⟩ ∧ ∀ W, Below w.heap.size w W → ∀ i, i < n → (loadVar 29 ⟨b, off + i * 20, none⟩).run Tryz.prog W = .ok (idv d[i]!) W) := fun h0 => by
    obtain ⟨b, off, g1, g2⟩ := h.plain (by omega)
    exact ⟨b, off, g1, fun W hW i hi => g2 W hW i (by omega)⟩
  have HL : Hid (0 < n → ∃ b off, lo = some ⟨b, off, none⟩ ∧ ∀ W, Below w.heap.size w W → ∀ i, i < n → W.cell? ⟨b, off + i, none⟩ = some (.bool (lk i))) := fun h0 => by
    obtain ⟨b, off, g1, g2⟩ := hl.plain (by omega)
    exact ⟨b, off, g1, fun W hW i hi => g2 W hW i (by omega)⟩
  have HI : Hid (∀ i, i < n → IsId d[i]!) := fun i hi => h.ids i (by omega)
  have HNN : Hid (n = d.size ∧ n ≤ 20 ∧ n ≤ m) := ⟨hn, h20, hm⟩
  have HT : Hid (∀ V : World, Below w.heap.size w V → Ts V) := fun V hV => ht.keep hV
  have hkn := known_yes w ht.gs
  clear h hl ht hn h20 hm
  go_enter Tryz.func3, Tryz.ntmps3
  go_wp2_with fail
  refine hkn.mono ?_
  rintro e w1 ⟨rfl, b1⟩
  have HB1 : Hid (Below w.heap.size w w1) := b1
  clear hkn b1
  go_wp2_with fail
  go_loopw [5, 6, 7] (fun s5 s6 s7 wr => ∃ (k : Nat) (dk : Array (List Int)), s7 = .int .i64 (k : Int) ∧ k ≤ n ∧ Hid (De w.heap.size wr s5 (ents d lk k)) ∧ Hid (Dn w.heap.size wr s6 dk) ∧ Hid (Up dk ∧ dk.size ≤ k ∧ ∀ x, x ∈ dk.toList ↔ wnt d lk k x) ∧ Hid (Below w.heap.size w wr)) (fun _ _ s7 _ => n - (intOf s7).toNat)
  case atStart => exact ⟨0, #[], rfl, Nat.zero_le _, de_nil _ _, dn_nil _ _, ⟨fun i j _ hj => by simp at hj, by simp, fun x => ⟨fun hx => by simp at hx, fun hx => absurd hx (wnt_zero d lk x)⟩⟩, HB1⟩
  case round =>
    obtain ⟨k, dk, rfl, hkn, HD, HN, HUP, HB⟩ := hrel
    by_cases hlt : k < n
    · have hq : (k : Int) < (n : Int) := by omega
      have d1 : decide ((k : Int) < (n : Int)) = true := by simp; omega
      have hqm : (k : Int) < (m : Int) := by have := HNN.out; omega
      have hwk : IntKind.i64.wrap ((k : Int) + 1) = (k : Int) + 1 := by have := HNN.out; rw [IntKind.wrap_i64]; omega
      obtain ⟨b, off, rfl, hld⟩ := HP.out (by omega)
      obtain ⟨bl, ol, rfl, hcl⟩ := HL.out (by omega)
      obtain ⟨x, hx⟩ : ∃ x, d[k]! = x := ⟨_, rfl⟩
      have hid := HI.out k hlt
      have HLD : Hid (∀ W, Below w.heap.size w W → (loadVar 29 ⟨b, off + k * 20, none⟩).run Tryz.prog W = .ok (idv x) W) := fun W hW => by rw [← hx]; exact hld W hW k hlt
      have hl1 := HLD.out wr HB.out
      have hb1 := hcl wr HB.out k hlt
      have HLT : Hid (k < n) := hlt
      have HW : Hid (IntKind.i64.wrap (97 + (k : Int)) = 97 + (k : Int) ∧ IntKind.u8.wrap (97 + (k : Int)) = 97 + (k : Int)) := by
        have := HNN.out
        exact ⟨by rw [IntKind.wrap_i64]; omega, by rw [IntKind.wrap_u8]; omega⟩
      have HIX : Hid (∀ V : World, (Instr.indexAt 22 (.slice (some ⟨b, off, none⟩) n c) (.int .i64 (k : Int))).run Tryz.prog V = .ok (.pointer (some ⟨b, off + k * 20, none⟩)) V) := fun V => run_ix22 b off n c k _ rfl hlt V
      have HOE : Hid (okE (Ent d lk k)) := ent_ok d lk k hid
      have HEI : Hid (idv x = idv (Ent d lk k).id) := by show idv x = idv d[k]!; rw [hx]
      obtain ⟨c8, hc8⟩ : ∃ c8, c8 = UInt8.ofNat (97 + k) := ⟨_, rfl⟩
      have HC8 : Hid (c8 = UInt8.ofNat (97 + k)) := hc8
      have HES8 : Hid (sv [110, c8] = sv (Ent d lk k).nm) := by show sv [110, c8] = sv [110, UInt8.ofNat (97 + k)]; rw [hc8]
      clear hc8
      rw [hx] at hid
      have HID : Hid (IsId x) := hid
      have HXK : Hid (d[k]! = x) := hx
      cases hb : lk k with
      | true =>
        have HEM : Hid (Value.int .i64 57344 = .int .i64 (Ent d lk k).m) := by show _ = Value.int .i64 (if lk k then 57344 else 33188); rw [hb]; rfl
        have HUP2 : Hid (Up dk ∧ dk.size ≤ k + 1 ∧ ∀ x, x ∈ dk.toList ↔ wnt d lk (k + 1) x) := ⟨HUP.out.1, by have := HUP.out.2.1; omega, fun x => (HUP.out.2.2 x).trans (wnt_link d lk k hb x).symm⟩
        rw [hb] at hb1
        clear hld hcl hx hid hlt hkn hl1 hb
        go_wp2_with fail
        refine wp_region_noPanic ?_
        refine wp_region_held_drew (S := fun V => Below w.heap.size w V) (by kernel_rfl) HB.out.drew (fun hHeld => ?_)
        refine wpAnyH_take (i := 0) (oi := ⟨some 50, _, _, _, _, _⟩) (v := ?_) rfl (by kernel_rfl) (by kernel_rfl) (by kernel_rfl) (fun _ _ _ h => h) (Or.inl ⟨by rfl, ?_⟩) hHeld ?_
        rotate_left
        · (intro w' hSw; go_simp; try with_reducible rfl)
        try simp only [Act.put, List.setIfInBounds_toArray, List.set_cons_zero, List.set_cons_succ]
        refine wpAnyH_take (i := 1) (oi := ⟨some 51, _, _, _, _, _⟩) (v := .int .i64 57344) rfl (by kernel_rfl) (by kernel_rfl) (by kernel_rfl) (fun _ _ _ h => h) (Or.inl ⟨by rfl, ?_⟩) hHeld ?_
        · (intro w' hSw; go_simp; try with_reducible rfl)
        try simp only [Act.put, List.setIfInBounds_toArray, List.set_cons_zero, List.set_cons_succ]
        refine wpAnyH_take (i := 2) (oi := ⟨some 52, _, _, _, _, _⟩) (v := .int .i64 (k : Int)) rfl (by kernel_rfl) (by kernel_rfl) (by kernel_rfl) (fun _ _ _ h => h) (Or.inl ⟨by rfl, ?_⟩) hHeld ?_
        · (intro w' hSw; go_simp; try with_reducible rfl)
        try simp only [Act.put, List.setIfInBounds_toArray, List.set_cons_zero, List.set_cons_succ]
        refine wpAnyH_take (i := 3) (oi := ⟨some 53, _, _, _, _, _⟩) (v := .int .i64 (97 + (k : Int))) rfl (by kernel_rfl) (by kernel_rfl) (by kernel_rfl) (fun _ _ _ h => h) (Or.inl ⟨by rfl, ?_⟩) hHeld ?_
        · (intro w' hSw; have qq := HW.out.1; go_simp; try with_reducible rfl)
        try simp only [Act.put, List.setIfInBounds_toArray, List.set_cons_zero, List.set_cons_succ]
        refine wpAnyH_take (i := 4) (oi := ⟨some 54, _, _, _, _, _⟩) (v := .int .u8 (97 + (k : Int))) rfl (by kernel_rfl) (by kernel_rfl) (by kernel_rfl) (fun _ _ _ h => h) (Or.inl ⟨by rfl, ?_⟩) hHeld ?_
        · (intro w' hSw; have qq := HW.out.2; go_simp; try with_reducible rfl)
        try simp only [Act.put, List.setIfInBounds_toArray, List.set_cons_zero, List.set_cons_succ]
        refine wpAnyH_take (i := 8) (oi := ⟨some 58, _, _, _, _, _⟩) (v := .slice (some ⟨b, off, none⟩) n c) rfl (by kernel_rfl) (by kernel_rfl) (by kernel_rfl) (fun _ _ _ h => h) (Or.inl ⟨by rfl, ?_⟩) hHeld ?_
        · (intro w' hSw; go_simp; try with_reducible rfl)
        try simp only [Act.put, List.setIfInBounds_toArray, List.set_cons_zero, List.set_cons_succ]
        refine wpAnyH_take (i := 9) (oi := ⟨some 59, _, _, _, _, _⟩) (v := .int .i64 (k : Int)) rfl (by kernel_rfl) (by kernel_rfl) (by kernel_rfl) (fun _ _ _ h => h) (Or.inl ⟨by rfl, ?_⟩) hHeld ?_
        · (intro w' hSw; go_simp; try with_reducible rfl)
        try simp only [Act.put, List.setIfInBounds_toArray, List.set_cons_zero, List.set_cons_succ]
        refine wpAnyH_take (i := 10) (oi := ⟨some 60, _, _, _, _, _⟩) (v := .pointer (some ⟨b, off + k * 20, none⟩)) rfl (by kernel_rfl) (by kernel_rfl) (by kernel_rfl) (fun _ _ _ h => h) (Or.inl ⟨by rfl, ?_⟩) hHeld ?_
        · (intro w' hSw; have qq := HIX.out w'; go_simp; try with_reducible rfl)
        try simp only [Act.put, List.setIfInBounds_toArray, List.set_cons_zero, List.set_cons_succ]
        refine wpAnyH_take (i := 11) (oi := ⟨some 61, _, _, _, _, _⟩) (v := idv x) rfl (by kernel_rfl) (by kernel_rfl) (by kernel_rfl) (fun _ _ _ h => h) (yi_ldv (by rfl) 29 _ rfl ⟨b, off + k * 20, none⟩ rfl (idv x) (fun V hV => HLD.out V hV)) hHeld ?_
        try simp only [Act.put, List.setIfInBounds_toArray, List.set_cons_zero, List.set_cons_succ]
        refine wpAnyH_ready (rs := [5]) (by kernel_rfl) (by simp) ?_
        refine AllReadyH.cons (o := ⟨some 55, _, _, _, _, _⟩) rfl (fun K hK => ?_) AllReadyH.nil
        refine step_bs30 (by rfl) _ rfl (97 + (k : Int)) rfl ?_
        obtain ⟨w5, hw5⟩ : ∃ V, V = wr.drew.alloc (.cells #[.int .u8 (97 + (k : Int))] 5) := ⟨_, rfl⟩
        have B5 : Hid (Below wr.drew.heap.size wr.drew w5) := by show Below _ _ _; rw [hw5]; exact new_below _ _
        obtain ⟨X, hX⟩ : ∃ X, X = wr.drew.heap.size := ⟨_, rfl⟩
        have HR5 : Hid (Rd w5 (some ⟨X, 0, none⟩) 1 1 [97 + (k : Int)]) := by show Rd _ _ _ _ _; rw [hw5, hX]; exact rd_one _ _ (by have := HNN.out; have := HLT.out; omega) (by have := HNN.out; have := HLT.out; omega)
        rw [← hw5, ← hX]
        have HB5 : Hid (Below w.heap.size w w5) := HB.out.drew.trans (B5.out.mono HB.out.drew.size)
        have HD5 : Hid (De w.heap.size w5 u5 (ents d lk k)) := (HD.out.keep (Below.refl _ _).drew).keep B5.out
        have HN5 : Hid (Dn w.heap.size w5 u6 dk) := (HN.out.keep (Below.refl _ _).drew).keep B5.out
        refine hK.out _ _ HB5.out (fun hHeld => ?_)
        clear hK K hw5 hX B5
        try simp only [Act.put, List.setIfInBounds_toArray, List.set_cons_zero, List.set_cons_succ]
        refine wpAnyH_ready (rs := [6]) (by kernel_rfl) (by simp) ?_
        refine AllReadyH.cons (o := ⟨some 56, _, _, _, _, _⟩) rfl (fun K hK => ?_) AllReadyH.nil
        refine step_cv30 (by rfl) _ rfl _ rfl (sv [c8]) (conv_one HR5.out HC8.out) ?_
        refine hK.out _ _ HB5.out (fun hHeld => ?_)
        clear hK K
        try simp only [Act.put, List.setIfInBounds_toArray, List.set_cons_zero, List.set_cons_succ]
        refine wpAnyH_take (i := 7) (oi := ⟨some 57, _, _, _, _, _⟩) (v := sv [110, c8]) rfl (by kernel_rfl) (by kernel_rfl) (by kernel_rfl) (fun _ _ _ h => h) (Or.inl ⟨by rfl, ?_⟩) hHeld ?_
        · (intro w' hSw; go_simp; rfl)
        try simp only [Act.put, List.setIfInBounds_toArray, List.set_cons_zero, List.set_cons_succ]
        refine wpAnyH_take (i := 12) (oi := ⟨some 62, _, _, _, _, _⟩) (v := eV (Ent d lk k)) rfl (by kernel_rfl) (by kernel_rfl) (by kernel_rfl) (fun _ _ _ h => h) (yi_b32 (by rfl) _ _ _ rfl (Ent d lk k) (by have := HEM.out; exact this) (by have := HES8.out; exact this) (by have := HEI.out; exact this)) hHeld ?_
        try simp only [Act.put, List.setIfInBounds_toArray, List.set_cons_zero, List.set_cons_succ]
        refine wpAnyH_ready (rs := [13]) (by kernel_rfl) (by simp) ?_
        refine AllReadyH.cons (o := ⟨some 63, _, _, _, _, _⟩) rfl (fun K hK => ?_) AllReadyH.nil
        refine step_bs39 (by rfl) _ rfl (Ent d lk k) rfl ?_
        obtain ⟨w6, hw6⟩ : ∃ V, V = w5.alloc (.cells (vals (ecl (Ent d lk k)) 22).toArray 32) := ⟨_, rfl⟩
        have B6 : Hid (Below w5.heap.size w5 w6) := by show Below _ _ _; rw [hw6]; exact new_below _ _
        obtain ⟨Y, hY⟩ : ∃ Y, Y = w5.heap.size := ⟨_, rfl⟩
        have HXR : Hid (w6.rowIs Y 32 22 (ecl (Ent d lk k))) := by show World.rowIs _ _ _ _ _; rw [hw6, hY]; exact rowIs_vals _ _ _ _
        rw [← hw6, ← hY]
        have HB6 : Hid (Below w.heap.size w w6) := HB5.out.trans (B6.out.mono HB5.out.size)
        have HD6 : Hid (De w.heap.size w6 u5 (ents d lk k)) := HD5.out.keep B6.out
        have HN6 : Hid (Dn w.heap.size w6 u6 dk) := HN5.out.keep B6.out
        refine hK.out _ _ HB6.out (fun hHeld => ?_)
        clear hK K hw6 hY B6
        try simp only [Act.put, List.setIfInBounds_toArray, List.set_cons_zero, List.set_cons_succ]
        refine wpAnyH_ready (rs := [14]) (by kernel_rfl) (by simp) ?_
        refine AllReadyH.cons (o := ⟨some 64, _, _, _, _, _⟩) rfl (fun K hK => ?_) AllReadyH.nil
        refine step_appE (by rfl) _ _ rfl w.heap.size u5 (ents d lk k) (Ent d lk k) Y HOE.out rfl rfl HXR.out HD6.out (by rw [ents_size]; have := HNN.out; have := HLT.out; omega) HB6.out.size ?_
        intro v7 w7 d7 g7
        have HD7 : Hid (De w.heap.size w7 v7 (ents d lk (k + 1))) := by show De _ _ _ _; rw [← ents_push]; exact d7
        have HN7 : Hid (Dn w.heap.size w7 u6 dk) := HN6.out.other g7 (fun j hj => own_two HD6.out.own HN6.out.own (by decide) j hj)
        have HB7 : Hid (Below w.heap.size w w7) := HB6.out.grown g7 HB6.out.size (fun j hj => (HD6.out.own.lt j hj).1)
        refine hK.out _ _ HB7.out (fun hHeld => ?_)
        clear hK K d7 g7
        try simp only [Act.put, List.setIfInBounds_toArray, List.set_cons_zero, List.set_cons_succ]
        refine wpAnyH_take (i := 15) (oi := ⟨some 5, _, _, _, _, _⟩) (v := ?_) rfl (by kernel_rfl) (by kernel_rfl) (by kernel_rfl) (fun _ _ _ h => h) (Or.inl ⟨by rfl, ?_⟩) hHeld ?_
        rotate_left
        · (intro w' hSw; go_simp; try with_reducible rfl)
        try simp only [Act.put, List.setIfInBounds_toArray, List.set_cons_zero, List.set_cons_succ]
        refine wpAnyH_done (by kernel_rfl) ?_ _
        refine NoPanic.normal ?_
        clear hHeld
        go_wp2_with fail
        exact ⟨⟨k + 1, dk, by simp, HLT.out, HD7, HN7, HUP2, HB7⟩, by simp [intOf]; have := HLT.out; omega⟩
      | false =>
        have HEM : Hid (Value.int .i64 33188 = .int .i64 (Ent d lk k).m) := by show _ = Value.int .i64 (if lk k then 57344 else 33188); rw [hb]; rfl
        have HPUT : Hid (∀ V : World, Below wr.heap.size wr V → Calls Tryz.prog 5 #[u6, idv x] V fun e w' => ∃ v' d', e = .returned v' ∧ Dn w.heap.size w' v' d' ∧ (Up d' ∧ d'.size ≤ k + 1 ∧ ∀ x, x ∈ d'.toList ↔ wnt d lk (k + 1) x) ∧ Below V.heap.size V w') := fun V hV => by
          refine (put_any w.heap.size u6 dk x V (HN.out.keep hV) HUP.out.1 HID.out (by have := HUP.out.2.1; have := HNN.out; have := HLT.out; omega) (by have := HB.out.size; have := hV.size; omega)).mono ?_
          rintro e w' ⟨v', d', g1, g2, g3, g4, g5, g6⟩
          refine ⟨v', d', g1, g2, ⟨g3, by have := HUP.out.2.1; omega, fun y => ?_⟩, g6⟩
          rw [g4, HUP.out.2.2, wnt_more d lk k hb, HXK.out]
        rw [hb] at hb1
        clear hld hcl hx hid hlt hkn hb
        go_wp2_with (first
          | (refine wpList_ldv rfl 29 _ rfl ⟨b, off + k * 20, none⟩ rfl (idv x) hl1 ?_; clear hl1))
        refine (HPUT.out _ (by first | exact Below.refl _ _ | exact (Below.refl _ _).drew)).mono ?_
        rintro e w2 ⟨v2, d2, rfl, n2, u2, b2⟩
        have HB2 : Hid (Below w.heap.size w w2) := HB.out.trans (b2.mono HB.out.size)
        have HD2 : Hid (De w.heap.size w2 u5 (ents d lk k)) := HD.out.keep b2
        have HN2 : Hid (Dn w.heap.size w2 v2 d2) := n2
        have HUP2 : Hid (Up d2 ∧ d2.size ≤ k + 1 ∧ ∀ x, x ∈ d2.toList ↔ wnt d lk (k + 1) x) := u2
        clear n2 u2 b2
        go_wp2_with fail
        refine wp_region_noPanic ?_
        refine wp_region_held_drew (S := fun V => Below w.heap.size w V) (by kernel_rfl) HB2.out.drew (fun hHeld => ?_)
        refine wpAnyH_take (i := 0) (oi := ⟨some 50, _, _, _, _, _⟩) (v := ?_) rfl (by kernel_rfl) (by kernel_rfl) (by kernel_rfl) (fun _ _ _ h => h) (Or.inl ⟨by rfl, ?_⟩) hHeld ?_
        rotate_left
        · (intro w' hSw; go_simp; try with_reducible rfl)
        try simp only [Act.put, List.setIfInBounds_toArray, List.set_cons_zero, List.set_cons_succ]
        refine wpAnyH_take (i := 1) (oi := ⟨some 51, _, _, _, _, _⟩) (v := .int .i64 33188) rfl (by kernel_rfl) (by kernel_rfl) (by kernel_rfl) (fun _ _ _ h => h) (Or.inl ⟨by rfl, ?_⟩) hHeld ?_
        · (intro w' hSw; go_simp; try with_reducible rfl)
        try simp only [Act.put, List.setIfInBounds_toArray, List.set_cons_zero, List.set_cons_succ]
        refine wpAnyH_take (i := 2) (oi := ⟨some 52, _, _, _, _, _⟩) (v := .int .i64 (k : Int)) rfl (by kernel_rfl) (by kernel_rfl) (by kernel_rfl) (fun _ _ _ h => h) (Or.inl ⟨by rfl, ?_⟩) hHeld ?_
        · (intro w' hSw; go_simp; try with_reducible rfl)
        try simp only [Act.put, List.setIfInBounds_toArray, List.set_cons_zero, List.set_cons_succ]
        refine wpAnyH_take (i := 3) (oi := ⟨some 53, _, _, _, _, _⟩) (v := .int .i64 (97 + (k : Int))) rfl (by kernel_rfl) (by kernel_rfl) (by kernel_rfl) (fun _ _ _ h => h) (Or.inl ⟨by rfl, ?_⟩) hHeld ?_
        · (intro w' hSw; have qq := HW.out.1; go_simp; try with_reducible rfl)
        try simp only [Act.put, List.setIfInBounds_toArray, List.set_cons_zero, List.set_cons_succ]
        refine wpAnyH_take (i := 4) (oi := ⟨some 54, _, _, _, _, _⟩) (v := .int .u8 (97 + (k : Int))) rfl (by kernel_rfl) (by kernel_rfl) (by kernel_rfl) (fun _ _ _ h => h) (Or.inl ⟨by rfl, ?_⟩) hHeld ?_
        · (intro w' hSw; have qq := HW.out.2; go_simp; try with_reducible rfl)
        try simp only [Act.put, List.setIfInBounds_toArray, List.set_cons_zero, List.set_cons_succ]
        refine wpAnyH_take (i := 8) (oi := ⟨some 58, _, _, _, _, _⟩) (v := .slice (some ⟨b, off, none⟩) n c) rfl (by kernel_rfl) (by kernel_rfl) (by kernel_rfl) (fun _ _ _ h => h) (Or.inl ⟨by rfl, ?_⟩) hHeld ?_
        · (intro w' hSw; go_simp; try with_reducible rfl)
        try simp only [Act.put, List.setIfInBounds_toArray, List.set_cons_zero, List.set_cons_succ]
        refine wpAnyH_take (i := 9) (oi := ⟨some 59, _, _, _, _, _⟩) (v := .int .i64 (k : Int)) rfl (by kernel_rfl) (by kernel_rfl) (by kernel_rfl) (fun _ _ _ h => h) (Or.inl ⟨by rfl, ?_⟩) hHeld ?_
        · (intro w' hSw; go_simp; try with_reducible rfl)
        try simp only [Act.put, List.setIfInBounds_toArray, List.set_cons_zero, List.set_cons_succ]
        refine wpAnyH_take (i := 10) (oi := ⟨some 60, _, _, _, _, _⟩) (v := .pointer (some ⟨b, off + k * 20, none⟩)) rfl (by kernel_rfl) (by kernel_rfl) (by kernel_rfl) (fun _ _ _ h => h) (Or.inl ⟨by rfl, ?_⟩) hHeld ?_
        · (intro w' hSw; have qq := HIX.out w'; go_simp; try with_reducible rfl)
        try simp only [Act.put, List.setIfInBounds_toArray, List.set_cons_zero, List.set_cons_succ]
        refine wpAnyH_take (i := 11) (oi := ⟨some 61, _, _, _, _, _⟩) (v := idv x) rfl (by kernel_rfl) (by kernel_rfl) (by kernel_rfl) (fun _ _ _ h => h) (yi_ldv (by rfl) 29 _ rfl ⟨b, off + k * 20, none⟩ rfl (idv x) (fun V hV => HLD.out V hV)) hHeld ?_
        try simp only [Act.put, List.setIfInBounds_toArray, List.set_cons_zero, List.set_cons_succ]
        refine wpAnyH_ready (rs := [5]) (by kernel_rfl) (by simp) ?_
        refine AllReadyH.cons (o := ⟨some 55, _, _, _, _, _⟩) rfl (fun K hK => ?_) AllReadyH.nil
        refine step_bs30 (by rfl) _ rfl (97 + (k : Int)) rfl ?_
        obtain ⟨w5, hw5⟩ : ∃ V, V = w2.drew.alloc (.cells #[.int .u8 (97 + (k : Int))] 5) := ⟨_, rfl⟩
        have B5 : Hid (Below w2.drew.heap.size w2.drew w5) := by show Below _ _ _; rw [hw5]; exact new_below _ _
        obtain ⟨X, hX⟩ : ∃ X, X = w2.drew.heap.size := ⟨_, rfl⟩
        have HR5 : Hid (Rd w5 (some ⟨X, 0, none⟩) 1 1 [97 + (k : Int)]) := by show Rd _ _ _ _ _; rw [hw5, hX]; exact rd_one _ _ (by have := HNN.out; have := HLT.out; omega) (by have := HNN.out; have := HLT.out; omega)
        rw [← hw5, ← hX]
        have HB5 : Hid (Below w.heap.size w w5) := HB2.out.drew.trans (B5.out.mono HB2.out.drew.size)
        have HD5 : Hid (De w.heap.size w5 u5 (ents d lk k)) := (HD2.out.keep (Below.refl _ _).drew).keep B5.out
        have HN5 : Hid (Dn w.heap.size w5 v2 d2) := (HN2.out.keep (Below.refl _ _).drew).keep B5.out
        refine hK.out _ _ HB5.out (fun hHeld => ?_)
        clear hK K hw5 hX B5
        try simp only [Act.put, List.setIfInBounds_toArray, List.set_cons_zero, List.set_cons_succ]
        refine wpAnyH_ready (rs := [6]) (by kernel_rfl) (by simp) ?_
        refine AllReadyH.cons (o := ⟨some 56, _, _, _, _, _⟩) rfl (fun K hK => ?_) AllReadyH.nil
        refine step_cv30 (by rfl) _ rfl _ rfl (sv [c8]) (conv_one HR5.out HC8.out) ?_
        refine hK.out _ _ HB5.out (fun hHeld => ?_)
        clear hK K
        try simp only [Act.put, List.setIfInBounds_toArray, List.set_cons_zero, List.set_cons_succ]
        refine wpAnyH_take (i := 7) (oi := ⟨some 57, _, _, _, _, _⟩) (v := sv [110, c8]) rfl (by kernel_rfl) (by kernel_rfl) (by kernel_rfl) (fun _ _ _ h => h) (Or.inl ⟨by rfl, ?_⟩) hHeld ?_
        · (intro w' hSw; go_simp; rfl)
        try simp only [Act.put, List.setIfInBounds_toArray, List.set_cons_zero, List.set_cons_succ]
        refine wpAnyH_take (i := 12) (oi := ⟨some 62, _, _, _, _, _⟩) (v := eV (Ent d lk k)) rfl (by kernel_rfl) (by kernel_rfl) (by kernel_rfl) (fun _ _ _ h => h) (yi_b32 (by rfl) _ _ _ rfl (Ent d lk k) (by have := HEM.out; exact this) (by have := HES8.out; exact this) (by have := HEI.out; exact this)) hHeld ?_
        try simp only [Act.put, List.setIfInBounds_toArray, List.set_cons_zero, List.set_cons_succ]
        refine wpAnyH_ready (rs := [13]) (by kernel_rfl) (by simp) ?_
        refine AllReadyH.cons (o := ⟨some 63, _, _, _, _, _⟩) rfl (fun K hK => ?_) AllReadyH.nil
        refine step_bs39 (by rfl) _ rfl (Ent d lk k) rfl ?_
        obtain ⟨w6, hw6⟩ : ∃ V, V = w5.alloc (.cells (vals (ecl (Ent d lk k)) 22).toArray 32) := ⟨_, rfl⟩
        have B6 : Hid (Below w5.heap.size w5 w6) := by show Below _ _ _; rw [hw6]; exact new_below _ _
        obtain ⟨Y, hY⟩ : ∃ Y, Y = w5.heap.size := ⟨_, rfl⟩
        have HXR : Hid (w6.rowIs Y 32 22 (ecl (Ent d lk k))) := by show World.rowIs _ _ _ _ _; rw [hw6, hY]; exact rowIs_vals _ _ _ _
        rw [← hw6, ← hY]
        have HB6 : Hid (Below w.heap.size w w6) := HB5.out.trans (B6.out.mono HB5.out.size)
        have HD6 : Hid (De w.heap.size w6 u5 (ents d lk k)) := HD5.out.keep B6.out
        have HN6 : Hid (Dn w.heap.size w6 v2 d2) := HN5.out.keep B6.out
        refine hK.out _ _ HB6.out (fun hHeld => ?_)
        clear hK K hw6 hY B6
        try simp only [Act.put, List.setIfInBounds_toArray, List.set_cons_zero, List.set_cons_succ]
        refine wpAnyH_ready (rs := [14]) (by kernel_rfl) (by simp) ?_
        refine AllReadyH.cons (o := ⟨some 64, _, _, _, _, _⟩) rfl (fun K hK => ?_) AllReadyH.nil
        refine step_appE (by rfl) _ _ rfl w.heap.size u5 (ents d lk k) (Ent d lk k) Y HOE.out rfl rfl HXR.out HD6.out (by rw [ents_size]; have := HNN.out; have := HLT.out; omega) HB6.out.size ?_
        intro v7 w7 d7 g7
        have HD7 : Hid (De w.heap.size w7 v7 (ents d lk (k + 1))) := by show De _ _ _ _; rw [← ents_push]; exact d7
        have HN7 : Hid (Dn w.heap.size w7 v2 d2) := HN6.out.other g7 (fun j hj => own_two HD6.out.own HN6.out.own (by decide) j hj)
        have HB7 : Hid (Below w.heap.size w w7) := HB6.out.grown g7 HB6.out.size (fun j hj => (HD6.out.own.lt j hj).1)
        refine hK.out _ _ HB7.out (fun hHeld => ?_)
        clear hK K d7 g7
        try simp only [Act.put, List.setIfInBounds_toArray, List.set_cons_zero, List.set_cons_succ]
        refine wpAnyH_take (i := 15) (oi := ⟨some 5, _, _, _, _, _⟩) (v := ?_) rfl (by kernel_rfl) (by kernel_rfl) (by kernel_rfl) (fun _ _ _ h => h) (Or.inl ⟨by rfl, ?_⟩) hHeld ?_
        rotate_left
        · (intro w' hSw; go_simp; try with_reducible rfl)
        try simp only [Act.put, List.setIfInBounds_toArray, List.set_cons_zero, List.set_cons_succ]
        refine wpAnyH_done (by kernel_rfl) ?_ _
        refine NoPanic.normal ?_
        clear hHeld
        go_wp2_with fail
        exact ⟨⟨k + 1, d2, by simp, HLT.out, HD7, HN7, HUP2, HB7⟩, by simp [intOf]; have := HLT.out; omega⟩
    · obtain rfl : k = n := by omega
      have hq : ¬ (k : Int) < (k : Int) := by omega
      have d1 : decide ((k : Int) < (k : Int)) = false := by simp
      have HES : Hid (Es wr u5 (ents d lk k)) := HD.out.es
      obtain ⟨HE0⟩ : Nonempty (Hid (tE (ents d lk k) = 0)) := ⟨ents_tE d lk k HNN.out.2.1 HI.out⟩
      obtain ⟨X, hX⟩ : ∃ X : List Int, X = tX (ents d lk k) := ⟨_, rfl⟩
      have HX : Hid (X = tX (ents d lk k)) := hX
      have hen := encTree_any u5 (ents d lk k) wr HES.out (HT.out wr HB.out) (by rw [ents_size]; have := HNN.out; omega)
      rw [HE0.out, ← hX] at hen
      obtain ⟨ea, ec, hu5⟩ := HD.out.shape
      rw [ents_size] at hu5
      subst hu5
      clear hX
      go_wp2_with fail
      refine hen.mono ?_
      rintro e w2 ⟨o3, n3, q3, rfl, rd3, b3⟩
      have HB2 : Hid (Below w.heap.size w w2) := HB.out.trans (b3.mono HB.out.size)
      have HR3 : Hid (Rd w2 o3 n3 q3 (tX (ents d lk k))) := by show Rd _ _ _ _ _; rw [← HX.out]; exact rd3
      have HN2 : Hid (Dn w.heap.size w2 u6 dk) := HN.out.keep b3
      clear hen rd3 b3
      go_wp2_with fail
      refine (edgesTree_enc o3 n3 q3 (ents d lk k) w2 (HT.out w2 HB2.out) (fun i hi => HES.out.ok i hi) HE0.out HR3.out).mono ?_
      rintro e w3 ⟨v3, r3, rfl, s3, nw3, b3⟩
      have HB3 : Hid (Below w.heap.size w w3) := HB2.out.trans (b3.mono HB2.out.size)
      have HN3 : Hid (Dn w.heap.size w3 u6 dk) := HN2.out.keep b3
      have hrd : r3 = dk := up_uniq (up_list.2 s3.1) HUP.out.1 (fun x => by rw [s3.2 x, HUP.out.2.2]; exact ents_eds d lk k x)
      subst hrd
      have hsm := same_yes w2.heap.size w.heap.size v3 u6 r3 w3 nw3 HN3.out (by have := HUP.out.2.1; have := HNN.out; omega)
      clear s3 nw3 b3
      go_wp2_with fail
      refine hsm.mono ?_
      rintro e w4 ⟨rfl, b4⟩
      have HB4 : Hid (Below w.heap.size w w4) := HB3.out.trans (b4.mono HB3.out.size)
      clear hsm b4
      have hz28 := dn_one w4 z20 kz_id w.heap.size HB4.out.size
      have HZ4 : Hid (Below w.heap.size w (w4.alloc (.cells (vals (cl z20) 20).toArray 28))) := HB4.out.trans ((new_below _ _).mono HB4.out.size)
      go_wp2_with (first
        | (refine wpList_bs1 rfl _ rfl z20 rfl ?_; intro w5 hw5; rw [← hw5] at hz28 HZ4; have HZ28 : Hid _ := hz28; clear hz28 hw5))

      go_loopw [13, 14, 15] (fun s13 s14 s15 ws => ∃ (i : Nat) (ak : Array (List Int)), s15 = .int .i64 (i : Int) ∧ i ≤ k ∧ Hid (Dp w.heap.size ws s13 (pdk d i)) ∧ Hid (Dn w.heap.size ws s14 ak) ∧ Hid (Up ak ∧ ak.size ≤ i + 1 ∧ ∀ x, x ∈ ak.toList ↔ x = z20 ∨ ∃ j, j < i ∧ d[j]! = x) ∧ Hid (Below w.heap.size w ws)) (fun _ _ s15 _ => k - (intOf s15).toNat)
      case atStart => exact ⟨0, #[z20], rfl, Nat.zero_le _, dp_nil _ _, HZ28.out, ⟨fun i j h1 h2 => by simp at h2; omega, by simp, fun x => by simp⟩, HZ4⟩
      case round =>
        rename World => ws
        obtain ⟨i, ak, rfl, hik, HDp, HNa, HUA, HBs⟩ := hrel
        by_cases hlt : i < k
        · have hqi : (i : Int) < (k : Int) := by omega
          have d2 : decide ((i : Int) < (k : Int)) = true := by simp; omega
          have hwi : IntKind.i64.wrap ((i : Int) + 1) = (i : Int) + 1 := by have := HNN.out; rw [IntKind.wrap_i64]; omega
          obtain ⟨b, off, rfl, hld⟩ := HP.out (by omega)
          obtain ⟨x, hx⟩ : ∃ x, d[i]! = x := ⟨_, rfl⟩
          have hid := HI.out i hlt
          rw [hx] at hid
          have HID : Hid (IsId x) := hid
          have HXI : Hid (d[i]! = x) := hx
          have HLD : Hid (∀ W, Below w.heap.size w W → (loadVar 29 ⟨b, off + i * 20, none⟩).run Tryz.prog W = .ok (idv x) W) := fun W hW => by rw [← hx]; exact hld W hW i hlt
          have HLT : Hid (i < k) := hlt
          obtain ⟨pa, pc, hu13⟩ := HDp.out.shape
          have HPS : Hid ((pdk d i).size ≤ i) := pdk_size d i
          obtain ⟨pn, hpn⟩ : ∃ pn, pn = (pdk d i).size := ⟨_, rfl⟩
          rw [← hpn] at hu13
          subst hu13
          have HPN : Hid (pn = (pdk d i).size ∧ pn ≤ 20) := ⟨hpn, by have := pdk_size d i; have := HNN.out; omega⟩
          have HPL : Hid (0 < pn → ∃ bp, pa = some ⟨bp, 0, none⟩ ∧ ∀ W, Below ws.heap.size ws W → ∀ j, j < pn → (loadVar 29 ⟨bp, 0 + j * 20, none⟩).run Tryz.prog W = .ok (idv (pdk d i)[j]!) W) := fun h0 => by
            obtain ⟨bp, c5, g1, g2, g3, g4⟩ := HDp.out.row (by have := HPN.out; omega)
            injection g1 with g1 _ _
            exact ⟨bp, g1, fun W hW j hj => by rw [Nat.zero_add]; exact (g4.keep hW).load j (by have := HPN.out; omega)⟩
          clear hld hx hid hlt hik hpn
          go_wp2_with fail
          go_loopw [16, 17] (fun s16 s17 wx => ∃ (j : Nat), s17 = .int .i64 (j : Int) ∧ j ≤ pn ∧ s16 = .bool (oldb d i j) ∧ Hid (Below ws.heap.size ws wx)) (fun _ s17 _ => pn - (intOf s17).toNat)
          case atStart => exact ⟨0, rfl, Nat.zero_le _, by rw [oldb_zero], Below.refl _ _⟩
          case round =>
            rename World => wx
            obtain ⟨j, rfl, hjp, rfl, HBx⟩ := hrel
            by_cases hlj : j < pn
            · have hqj : (j : Int) < (pn : Int) := by omega
              have d3 : decide ((j : Int) < (pn : Int)) = true := by simp; omega
              have hwj : IntKind.i64.wrap ((j : Int) + 1) = (j : Int) + 1 := by have := HPN.out; rw [IntKind.wrap_i64]; omega
              obtain ⟨bp, rfl, hlp⟩ := HPL.out (by omega)
              have HLP : Hid (∀ W, Below wx.heap.size wx W → (loadVar 29 ⟨bp, 0 + j * 20, none⟩).run Tryz.prog W = .ok (idv (pdk d i)[j]!) W) := fun W hW => hlp W (HBx.out.trans (hW.mono HBx.out.size)) j hlj
              have HLX : Hid (∀ W, Below wx.heap.size wx W → (loadVar 29 ⟨b, off + i * 20, none⟩).run Tryz.prog W = .ok (idv x) W) := fun W hW => by
                have h1 := HBs.out.trans (HBx.out.mono HBs.out.size)
                exact HLD.out W (h1.trans (hW.mono h1.size))
              have hos := oldb_succ d i j (by have := HPN.out; omega)
              rw [HXI.out] at hos
              have hy := pdk_ids d k i (by have := HLT.out; omega) HI.out j (by have := HPN.out; omega)
              obtain ⟨y, hyy⟩ : ∃ y, (pdk d i)[j]! = y := ⟨_, rfl⟩
              rw [hyy] at HLP hos hy
              have HOS : Hid (oldb d i (j + 1) = (oldb d i j || decide (y = x))) := hos
              have HEQ : Hid (∀ W, (Op.equalIn 10000 29 (idv y) (idv x)).run Tryz.prog W = .ok (decide (y = x)) W) := fun W => eql_ids 29 Tryz.underlying29 hy HID.out W
              have HIJ : Hid (i < k ∧ j < pn) := ⟨HLT.out, hlj⟩
              clear hos hy hyy hlp hlj hjp
              cases ho : oldb d i j with
              | true =>
                rw [ho] at HOS
                clear ho
                go_wp2_with fail
                refine wp_region_quiet (C := fun V => Below wx.heap.size wx V) (by kernel_rfl) (by kernel_rfl) (Below.refl _ _).drew ?_
                with_reducible refine wpQuiet_step (fun K hK => ?_)
                rw [if_pos (by kernel_rfl)]
                refine oq_mv _ rfl (.bool true) (by kernel_rfl) ?_
                with_reducible refine hK _ ?_; clear hK K
                try simp only [Act.put, List.setIfInBounds_toArray, List.set_cons_zero, List.set_cons_succ]
                with_reducible refine wpQuiet_step (fun K hK => ?_)
                rw [if_pos (by kernel_rfl)]
                refine oq_mv _ rfl (.bool true) (by kernel_rfl) ?_
                with_reducible refine hK _ ?_; clear hK K
                try simp only [Act.put, List.setIfInBounds_toArray, List.set_cons_zero, List.set_cons_succ]
                with_reducible refine wpQuiet_step (fun K hK => ?_)
                rw [ite_ff (by kernel_rfl)]
                with_reducible refine hK _ ?_; clear hK K
                try simp only [Act.put, List.setIfInBounds_toArray, List.set_cons_zero, List.set_cons_succ]
                with_reducible refine wpQuiet_step (fun K hK => ?_)
                rw [ite_ff (by kernel_rfl)]
                with_reducible refine hK _ ?_; clear hK K
                try simp only [Act.put, List.setIfInBounds_toArray, List.set_cons_zero, List.set_cons_succ]
                with_reducible refine wpQuiet_step (fun K hK => ?_)
                rw [ite_ff (by kernel_rfl)]
                with_reducible refine hK _ ?_; clear hK K
                try simp only [Act.put, List.setIfInBounds_toArray, List.set_cons_zero, List.set_cons_succ]
                with_reducible refine wpQuiet_step (fun K hK => ?_)
                rw [ite_ff (by kernel_rfl)]
                with_reducible refine hK _ ?_; clear hK K
                try simp only [Act.put, List.setIfInBounds_toArray, List.set_cons_zero, List.set_cons_succ]
                with_reducible refine wpQuiet_step (fun K hK => ?_)
                rw [ite_ff (by kernel_rfl)]
                with_reducible refine hK _ ?_; clear hK K
                try simp only [Act.put, List.setIfInBounds_toArray, List.set_cons_zero, List.set_cons_succ]
                with_reducible refine wpQuiet_step (fun K hK => ?_)
                rw [ite_ff (by kernel_rfl)]
                with_reducible refine hK _ ?_; clear hK K
                try simp only [Act.put, List.setIfInBounds_toArray, List.set_cons_zero, List.set_cons_succ]
                with_reducible refine wpQuiet_step (fun K hK => ?_)
                rw [ite_ff (by kernel_rfl)]
                with_reducible refine hK _ ?_; clear hK K
                try simp only [Act.put, List.setIfInBounds_toArray, List.set_cons_zero, List.set_cons_succ]
                with_reducible refine wpQuiet_step (fun K hK => ?_)
                rw [ite_ff (by kernel_rfl)]
                with_reducible refine hK _ ?_; clear hK K
                try simp only [Act.put, List.setIfInBounds_toArray, List.set_cons_zero, List.set_cons_succ]
                with_reducible refine wpQuiet_step (fun K hK => ?_)
                rw [ite_ff (by kernel_rfl)]
                with_reducible refine hK _ ?_; clear hK K
                try simp only [Act.put, List.setIfInBounds_toArray, List.set_cons_zero, List.set_cons_succ]
                with_reducible refine wpQuiet_step (fun K hK => ?_)
                rw [if_pos (by kernel_rfl)]
                refine oq_pickT _ _ _ rfl (by kernel_rfl) (.bool true) (by kernel_rfl) ?_
                with_reducible refine hK _ ?_; clear hK K
                try simp only [Act.put, List.setIfInBounds_toArray, List.set_cons_zero, List.set_cons_succ]
                with_reducible refine wpQuiet_step (fun K hK => ?_)
                rw [if_pos (by kernel_rfl)]
                refine oq_asg _ rfl (.bool true) (by kernel_rfl) ?_
                with_reducible refine hK _ ?_; clear hK K
                try simp only [Act.put, List.setIfInBounds_toArray, List.set_cons_zero, List.set_cons_succ]
                refine wpQuiet_nil ?_
                intro w9 hB9
                have HB9 : Hid (Below ws.heap.size ws w9) := HBx.out.trans (hB9.mono HBx.out.size)
                clear hB9
                go_wp2_with fail
                exact ⟨⟨j + 1, by simp, by have := HIJ.out; omega, by rw [HOS.out]; simp, HB9⟩, by simp [intOf]; have := HIJ.out; omega⟩
              | false =>
                rw [ho] at HOS
                clear ho
                go_wp2_with fail
                refine wp_region_quiet (C := fun V => Below wx.heap.size wx V) (by kernel_rfl) (by kernel_rfl) (Below.refl _ _).drew ?_
                with_reducible refine wpQuiet_step (fun K hK => ?_)
                rw [if_pos (by kernel_rfl)]
                refine oq_mv _ rfl (.bool false) (by kernel_rfl) ?_
                with_reducible refine hK _ ?_; clear hK K
                try simp only [Act.put, List.setIfInBounds_toArray, List.set_cons_zero, List.set_cons_succ]
                with_reducible refine wpQuiet_step (fun K hK => ?_)
                rw [if_pos (by kernel_rfl)]
                refine oq_mv _ rfl (.bool false) (by kernel_rfl) ?_
                with_reducible refine hK _ ?_; clear hK K
                try simp only [Act.put, List.setIfInBounds_toArray, List.set_cons_zero, List.set_cons_succ]
                with_reducible refine wpQuiet_step (fun K hK => ?_)
                rw [if_pos (by kernel_rfl)]
                refine oq_mv _ rfl (.slice (some ⟨bp, 0, none⟩) pn pc) (by kernel_rfl) ?_
                with_reducible refine hK _ ?_; clear hK K
                try simp only [Act.put, List.setIfInBounds_toArray, List.set_cons_zero, List.set_cons_succ]
                with_reducible refine wpQuiet_step (fun K hK => ?_)
                rw [if_pos (by kernel_rfl)]
                refine oq_mv _ rfl (.int .i64 (j : Int)) (by kernel_rfl) ?_
                with_reducible refine hK _ ?_; clear hK K
                try simp only [Act.put, List.setIfInBounds_toArray, List.set_cons_zero, List.set_cons_succ]
                with_reducible refine wpQuiet_step (fun K hK => ?_)
                rw [if_pos (by kernel_rfl)]
                refine oq_ix 22 _ _ rfl (.slice (some ⟨bp, 0, none⟩) pn pc) (.int .i64 (j : Int)) (.pointer (some ⟨bp, 0 + j * 20, none⟩)) (by kernel_rfl) (by kernel_rfl) (fun w => run_ix22 bp 0 pn pc j _ rfl HIJ.out.2 w) ?_
                with_reducible refine hK _ ?_; clear hK K
                try simp only [Act.put, List.setIfInBounds_toArray, List.set_cons_zero, List.set_cons_succ]
                with_reducible refine wpQuiet_step (fun K hK => ?_)
                rw [if_pos (by kernel_rfl)]
                refine oq_load 29 _ rfl ⟨bp, 0 + j * 20, none⟩ (by kernel_rfl) (idv y) (fun V hV => HLP.out V hV) ?_
                with_reducible refine hK _ ?_; clear hK K
                try simp only [Act.put, List.setIfInBounds_toArray, List.set_cons_zero, List.set_cons_succ]
                with_reducible refine wpQuiet_step (fun K hK => ?_)
                rw [if_pos (by kernel_rfl)]
                refine oq_mv _ rfl (.slice (some ⟨b, off, none⟩) k c) (by kernel_rfl) ?_
                with_reducible refine hK _ ?_; clear hK K
                try simp only [Act.put, List.setIfInBounds_toArray, List.set_cons_zero, List.set_cons_succ]
                with_reducible refine wpQuiet_step (fun K hK => ?_)
                rw [if_pos (by kernel_rfl)]
                refine oq_mv _ rfl (.int .i64 (i : Int)) (by kernel_rfl) ?_
                with_reducible refine hK _ ?_; clear hK K
                try simp only [Act.put, List.setIfInBounds_toArray, List.set_cons_zero, List.set_cons_succ]
                with_reducible refine wpQuiet_step (fun K hK => ?_)
                rw [if_pos (by kernel_rfl)]
                refine oq_ix 22 _ _ rfl (.slice (some ⟨b, off, none⟩) k c) (.int .i64 (i : Int)) (.pointer (some ⟨b, off + i * 20, none⟩)) (by kernel_rfl) (by kernel_rfl) (fun w => run_ix22 b off k c i _ rfl HIJ.out.1 w) ?_
                with_reducible refine hK _ ?_; clear hK K
                try simp only [Act.put, List.setIfInBounds_toArray, List.set_cons_zero, List.set_cons_succ]
                with_reducible refine wpQuiet_step (fun K hK => ?_)
                rw [if_pos (by kernel_rfl)]
                refine oq_load 29 _ rfl ⟨b, off + i * 20, none⟩ (by kernel_rfl) (idv x) (fun V hV => HLX.out V hV) ?_
                with_reducible refine hK _ ?_; clear hK K
                try simp only [Act.put, List.setIfInBounds_toArray, List.set_cons_zero, List.set_cons_succ]
                with_reducible refine wpQuiet_step (fun K hK => ?_)
                rw [if_pos (by kernel_rfl)]
                refine oq_bin .eql 29 _ _ _ rfl (vals (cl y) 20).toArray (vals (cl x) 20).toArray (by kernel_rfl) (by kernel_rfl) (.bool (decide (y = x))) (by kernel_rfl) (fun V _ => eql_two y x V (HEQ.out V)) ?_
                with_reducible refine hK _ ?_; clear hK K
                try simp only [Act.put, List.setIfInBounds_toArray, List.set_cons_zero, List.set_cons_succ]
                with_reducible refine wpQuiet_step (fun K hK => ?_)
                rw [if_pos (by kernel_rfl)]
                refine oq_pickF _ _ _ rfl (by kernel_rfl) (.bool (decide (y = x))) (by kernel_rfl) ?_
                with_reducible refine hK _ ?_; clear hK K
                try simp only [Act.put, List.setIfInBounds_toArray, List.set_cons_zero, List.set_cons_succ]
                with_reducible refine wpQuiet_step (fun K hK => ?_)
                rw [if_pos (by kernel_rfl)]
                refine oq_asg _ rfl (.bool (decide (y = x))) (by kernel_rfl) ?_
                with_reducible refine hK _ ?_; clear hK K
                try simp only [Act.put, List.setIfInBounds_toArray, List.set_cons_zero, List.set_cons_succ]
                refine wpQuiet_nil ?_
                intro w9 hB9
                have HB9 : Hid (Below ws.heap.size ws w9) := HBx.out.trans (hB9.mono HBx.out.size)
                clear hB9
                go_wp2_with fail
                exact ⟨⟨j + 1, by simp, by have := HIJ.out; omega, by rw [HOS.out]; simp, HB9⟩, by simp [intOf]; have := HIJ.out; omega⟩
            · obtain rfl : j = pn := by omega
              have hqj : ¬ (j : Int) < (j : Int) := by omega
              have d3 : decide ((j : Int) < (j : Int)) = false := by simp
              have HB5 : Hid (Below w.heap.size w wx) := HBs.out.trans (HBx.out.mono HBs.out.size)
              have HD5 : Hid (Dp w.heap.size wx (.slice pa j pc) (pdk d i)) := HDp.out.keep HBx.out
              have HN5 : Hid (Dn w.heap.size wx u14 ak) := HNa.out.keep HBx.out
              have HPUT : Hid (∀ V : World, w.heap.size ≤ V.heap.size → Dn w.heap.size V u14 ak → Calls Tryz.prog 5 #[u14, idv x] V fun e w' => ∃ v' d', e = .returned v' ∧ Dn w.heap.size w' v' d' ∧ (Up d' ∧ d'.size ≤ i + 1 + 1 ∧ ∀ x, x ∈ d'.toList ↔ x = z20 ∨ ∃ j, j < i + 1 ∧ d[j]! = x) ∧ Below V.heap.size V w') := fun V hV hN => by
                refine (put_any w.heap.size u14 ak x V hN HUA.out.1 HID.out (by have := HUA.out.2.1; have := HNN.out; have := HLT.out; omega) hV).mono ?_
                rintro e w' ⟨v', d', g1, g2, g3, g4, g5, g6⟩
                refine ⟨v', d', g1, g2, ⟨g3, by have := HUA.out.2.1; omega, fun y => ?_⟩, g6⟩
                rw [g4, HUA.out.2.2]
                exact all_more d i x HXI.out y
              have hl5 := HLD.out wx HB5.out
              have hon := HPN.out.1
              cases ho : oldb d i j with
              | true =>
                have HPD : Hid (pdk d (i + 1) = pdk d i) := pdk_old d i (by rw [← hon]; exact ho)
                clear hon ho hjp
                go_wp2_with (first
                  | (refine wpList_ldv rfl 29 _ rfl ⟨b, off + i * 20, none⟩ rfl (idv x) hl5 ?_; clear hl5))
                refine (HPUT.out wx HB5.out.size HN5.out).mono ?_
                rintro e w6 ⟨v6, a6, rfl, n6, u6, b6⟩
                have HB6 : Hid (Below w.heap.size w w6) := HB5.out.trans (b6.mono HB5.out.size)
                have HD6 : Hid (Dp w.heap.size w6 (.slice pa j pc) (pdk d (i + 1))) := by show Dp _ _ _ _; rw [HPD.out]; exact HD5.out.keep b6
                have HN6 : Hid (Dn w.heap.size w6 v6 a6) := n6
                have HU6 : Hid (Up a6 ∧ a6.size ≤ i + 1 + 1 ∧ ∀ x, x ∈ a6.toList ↔ x = z20 ∨ ∃ j, j < i + 1 ∧ d[j]! = x) := u6
                clear n6 u6 b6
                go_wp2_with fail
                exact ⟨⟨i + 1, a6, by simp, HLT.out, HD6, HN6, HU6, HB6⟩, by simp [intOf]; have := HLT.out; omega⟩
              | false =>
                have HPD : Hid (pdk d (i + 1) = (pdk d i).push x) := by show _ = _; rw [pdk_new d i (by rw [← hon]; exact ho), HXI.out]
                have hsz : (pdk d i).size < 100000 := by have := HPN.out; omega
                have hsB := HB5.out.size
                have hxid := HID.out
                clear hon ho hjp
                go_wp2_with (first
                  | (refine wpList_ldv rfl 29 _ rfl ⟨b, off + i * 20, none⟩ rfl (idv x) hl5 ?_; clear hl5)
                  | (refine wpList_bp1 rfl _ rfl x rfl ?_; intro w6 hw6; have HW6 : Hid _ := hw6; clear hw6)
                  | (refine wpList_app1q (w0 := wx) rfl _ _ rfl w.heap.size _ (pdk d i) x hxid rfl rfl HW6.out HD5.out hsz hsB ?_; intro v7 w7 g1 g2; have HQ7 : Hid (Dp w.heap.size w7 v7 (pdk d (i + 1)) ∧ Dn w.heap.size w7 u14 ak ∧ Below w.heap.size w w7) := more_p HB5.out HD5.out HN5.out HW6.out g1 g2 HPD.out; have hl7 := HLD.out w7 HQ7.out.2.2; clear g1 g2)
                  | (refine wpList_ldv rfl 29 _ rfl ⟨b, off + i * 20, none⟩ rfl (idv x) hl7 ?_; clear hl7))
                refine (HPUT.out w7 HQ7.out.2.2.size HQ7.out.2.1).mono ?_
                rintro e w8 ⟨v8, a8, rfl, n8, u8', b8⟩
                have HB8 : Hid (Below w.heap.size w w8) := HQ7.out.2.2.trans (b8.mono HQ7.out.2.2.size)
                have HD8 : Hid (Dp w.heap.size w8 v7 (pdk d (i + 1))) := HQ7.out.1.keep b8
                have HN8 : Hid (Dn w.heap.size w8 v8 a8) := n8
                have HU8 : Hid (Up a8 ∧ a8.size ≤ i + 1 + 1 ∧ ∀ x, x ∈ a8.toList ↔ x = z20 ∨ ∃ j, j < i + 1 ∧ d[j]! = x) := u8'
                clear n8 u8' b8
                go_wp2_with fail
                exact ⟨⟨i + 1, a8, by simp, HLT.out, HD8, HN8, HU8, HB8⟩, by simp [intOf]; have := HLT.out; omega⟩
        · obtain rfl : i = k := by omega
          have hqi : ¬ (i : Int) < (i : Int) := by omega
          have d2 : decide ((i : Int) < (i : Int)) = false := by simp
          have HPM : Hid (mb [97] [98] (pdk d i).toList = true) := pdk_mb d i HNN.out.2.1
          have HPI : Hid (∀ y ∈ (pdk d i).toList, IsId y) := fun y hy => by
            obtain ⟨j, hj, rfl⟩ := (pdk_mem d i y).1 hy
            exact HI.out j hj
          have HFW : Hid ((enc z20 (pdk d i).toList [97] [98] []).length ≤ 16384) := enc_few _ HPI.out (by simp; have := pdk_size d i; have := HNN.out; omega)
          obtain ⟨pa, pc, hu13⟩ := HDp.out.shape
          obtain ⟨pn, hpn⟩ : ∃ pn, pn = (pdk d i).size := ⟨_, rfl⟩
          have HPS : Hid ((pdk d i).size ≤ 20) := by have := pdk_size d i; have := HNN.out; show _ ≤ _; omega
          rw [← hpn] at hu13
          subst hu13
          have hb41 := fun V => run_b41 (.slice pa pn pc) V rfl
          have HEN : Hid (∀ V : World, Below ws.heap.size ws V → Calls Tryz.prog 9 #[cmv z20 (.slice pa pn pc) [97] [98] []] V fun e w' => ∃ ao n c, e = .returned (.tuple #[.slice ao n c, .int .i64 0]) ∧ Rd w' ao n c (tn (enc z20 (pdk d i).toList [97] [98] [])) ∧ Below V.heap.size V w') := fun V hV => by
            have := encodeCommit_any z20 (.slice pa pn pc) [97] [98] [] (pdk d i) V kz_id (HDp.out.keep hV).is (by simp) HPM.out
            rwa [if_pos HFW.out, if_pos HFW.out] at this
          have HCM : Hid (Cmg (tb (tn (enc z20 (pdk d i).toList [97] [98] []))) 0 z20 (pdk d i).toList [97] [98] [] 0) := by
            show Cmg _ _ _ _ _ _ _ _
            rw [tb_tn]
            exact cmg_enc z20 (pdk d i).toList [97] [98] [] kz_id HPI.out HPM.out
          have e41 : cmv z20 (.slice pa pn pc) [97] [98] [] = Value.agg #[.int .u8 0, .int .u8 0, .int .u8 0, .int .u8 0, .int .u8 0, .int .u8 0, .int .u8 0, .int .u8 0, .int .u8 0, .int .u8 0, .int .u8 0, .int .u8 0, .int .u8 0, .int .u8 0, .int .u8 0, .int .u8 0, .int .u8 0, .int .u8 0, .int .u8 0, .int .u8 0, .slice pa pn pc, .string ⟨#[97]⟩, .string ⟨#[98]⟩, .string ⟨#[]⟩] := by kernel_rfl
          have hEN := HEN.out ws (Below.refl _ _)
          rw [e41] at hEN
          have HPN : Hid (pn = (pdk d i).size) := hpn
          clear hpn
          go_wp2_with fail
          refine hEN.mono ?_
          rintro e w6 ⟨o6, n6, q6, rfl, rd6, b6⟩
          have HB6 : Hid (Below w.heap.size w w6) := HBs.out.trans (b6.mono HBs.out.size)
          have HR6 : Hid (Rd w6 o6 n6 q6 (tn (enc z20 (pdk d i).toList [97] [98] []))) := rd6
          have HDp6 : Hid (Dp w.heap.size w6 (.slice pa pn pc) (pdk d i)) := HDp.out.keep b6
          have HNa6 : Hid (Dn w.heap.size w6 u14 ak) := HNa.out.keep b6
          have HN6 : Hid (n6 ≤ 16384) := by show _ ≤ _; rw [← HR6.out.len, tn_len]; exact HFW.out
          clear hEN rd6 b6 e41
          go_wp2_with fail
          refine (edgesCommit_any o6 n6 q6 _ z20 (pdk d i).toList [97] [98] [] w6 (HT.out w6 HB6.out).gs HR6.out HN6.out (by simp; have := HPS.out; omega) HCM.out).mono ?_
          rintro e w7 ⟨v7, r7, rfl, s7, nw7, b7⟩
          have HB7 : Hid (Below w.heap.size w w7) := HB6.out.trans (b7.mono HB6.out.size)
          have HR7 : Hid (Rd w7 o6 n6 q6 (tn (enc z20 (pdk d i).toList [97] [98] []))) := HR6.out.keep b7
          have HDp7 : Hid (Dp w.heap.size w7 (.slice pa pn pc) (pdk d i)) := HDp6.out.keep b7
          have HNa7 : Hid (Dn w.heap.size w7 u14 ak) := HNa6.out.keep b7
          have hrd : r7 = ak := up_uniq (up_list.2 s7.1) HUA.out.1 (fun x => by rw [s7.2 x, HUA.out.2.2]; show x ∈ z20 :: (pdk d i).toList ↔ _; rw [List.mem_cons, pdk_mem])
          subst hrd
          have hsm := same_yes w6.heap.size w.heap.size v7 u14 r7 w7 nw7 HNa7.out (by have := HUA.out.2.1; have := HNN.out; omega)
          clear s7 nw7 b7
          go_wp2_with fail
          refine hsm.mono ?_
          rintro e w8 ⟨rfl, b8⟩
          have HB8 : Hid (Below w.heap.size w w8) := HB7.out.trans (b8.mono HB7.out.size)
          have HR8 : Hid (Rd w8 o6 n6 q6 (tn (enc z20 (pdk d i).toList [97] [98] []))) := HR7.out.keep b8
          have HDp8 : Hid (Dp w.heap.size w8 (.slice pa pn pc) (pdk d i)) := HDp7.out.keep b8
          clear hsm b8
          go_wp2_with fail
          refine (parents_dp o6 n6 q6 _ z20 (pdk d i).toList [97] [98] [] w8 (HT.out w8 HB8.out).gs HR8.out HN6.out HCM.out).mono ?_
          rintro e w9 ⟨v9, B9, rfl, d9, b9⟩
          have HB9 : Hid (Below w.heap.size w w9) := HB8.out.trans (b9.mono HB8.out.size)
          have HDp9 : Hid (Dp w.heap.size w9 (.slice pa pn pc) (pdk d i)) := HDp8.out.keep b9
          have HV9 : Hid (Dp B9 w9 v9 (pdk d i)) := d9
          clear d9 b9
          go_wp2_with fail
          refine (of_any pa pn pc (pdk d i) w9 HDp9.out.is (by have := HPN.out; omega) (by have := HPN.out; have := HPS.out; omega)).mono ?_
          rintro e w10 ⟨v10, rfl, n10, b10⟩
          have HB10 : Hid (Below w.heap.size w w10) := HB9.out.trans (b10.mono HB9.out.size)
          have HV10 : Hid (Dp B9 w10 v9 (pdk d i)) := HV9.out.keep b10
          have HO10 : Hid (Dn w9.heap.size w10 v10 (pdk d i)) := n10
          clear n10 b10
          go_wp2_with fail
          refine (same_dp B9 w9.heap.size v9 v10 (pdk d i) w10 HV10.out HO10.out (by have := HPS.out; omega)).mono ?_
          rintro e w11 ⟨rfl, b11⟩
          have HB11 : Hid (Below w.heap.size w w11) := HB10.out.trans (b11.mono HB10.out.size)
          clear b11
          go_wp2_with fail
          go_ret
          exact ⟨rfl, HB11.out⟩


theorem edges_any (ao lo : Option Addr) (n c m q : Nat) (d : Array (List Int)) (lk : Nat → Bool) (w : World) (h : Is w (.slice ao n c) d) (hl : Bl w lo m lk) (ht : Ts w) (hn : n = d.size) :
    Calls Tryz.prog 3 #[.slice ao n c, .slice lo m q] w fun e w' => e = .returned (.bool true) ∧ Below w.heap.size w w' := by
  by_cases h1 : 20 < n
  · exact edges_skipA ao lo n c m q w ht.gs h1
  · by_cases h2 : m < n
    · exact edges_skipB ao lo n c m q w ht.gs (by omega) h2
    · exact edges_go ao lo n c m q d lk w h hl ht hn (by omega) (by omega)

end Go.Proofs.YtojgablpjdlegabGreatDoor
