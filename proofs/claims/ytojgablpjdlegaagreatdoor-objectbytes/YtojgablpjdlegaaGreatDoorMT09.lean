/- Arf, Qo, Arh. -/
import Derived.Test.YtojgablpjdlegaaGreatDoorMC16
import Derived.Test.YtojgablpjdlegaaGreatDoorMT02
import Derived.Test.YtojgablpjdlegaaGreatDoorM10
import Derived.Test.YtojgablpjdlegaaGreatDoorMT01
/- Rows of entries that came in. -/
namespace Go.Proofs.YtojgablpjdlegaaGreatDoor
open Go.RowKit

/-- The slice v reads as the entries d, their names of any length. -/
structure Ew (w : World) (v : Value) (d : Array En) : Prop where
  sh : ∃ ao c, v = .slice ao d.size c ∧ d.size ≤ c ∧ (ao = none → d.size = 0 ∧ c = 0) ∧ ∀ ad, ao = some ad → ∀ i, i < d.size → ∀ j, j < 22 → w.cell? (ad.add (i * 22 + j)) = some (ecl d[i]! j)
  ok : ∀ i, i < d.size → -9223372036854775808 ≤ d[i]!.m ∧ d[i]!.m ≤ 9223372036854775807 ∧ IsId d[i]!.id

theorem Ew.es {w : World} {v : Value} {d : Array En} (h : Ew w v d) (hn : ∀ i, i < d.size → d[i]!.nm.length ≤ 100000) : Es w v d :=
  ⟨h.sh, fun i hi => ⟨(h.ok i hi).1, (h.ok i hi).2.1, hn i hi, (h.ok i hi).2.2⟩⟩

theorem Ew.keep {w w' : World} {v : Value} {d : Array En} (h : Ew w v d) (hb : Below w.heap.size w w') : Ew w' v d := by
  obtain ⟨ao, c, e, h1, h2, h3⟩ := h.sh
  exact ⟨⟨ao, c, e, h1, h2, fun ad had i hi j hj => by
    have := h3 ad had i hi j hj
    rw [hb.cell (World.block_lt_of_cell? w _ this)]
    exact this⟩, h.ok⟩

theorem cells79 : Tryz.prog.cellsOf 79 = 22 := by kernel_rfl

theorem cut22 (cs : List Value) (h : cs.length = 22) : cs = (cs.drop 0).take 1 ++ ((cs.drop 1).take 1 ++ (cs.drop 2).take 20) := by
  have e (k : Nat) : cs.drop k = (cs.drop k).take 1 ++ cs.drop (k + 1) := by
    conv => lhs; rw [← List.take_append_drop 1 (cs.drop k)]
    rw [List.drop_drop]
  have e3 : (cs.drop 2).take 20 = cs.drop 2 := List.take_of_length_le (by simp; omega)
  rw [e3, ← e 1, ← e 0, List.drop_zero]

theorem ef_vals (m : Int) (nm : List UInt8) (x : List Int) : vals (ecl ⟨m, nm, x⟩) 22 = [Value.int .i64 m] ++ ([sv nm] ++ vals (cl x) 20) := by kernel_rfl

theorem open_entries {H : Type} {enc : TypeId × Value → H} {w : World} {base : Nat} {spare : Nat → Bool} {held : Bool} {fuel : Nat} {cs : List Value} {x : DataW H × List MemPlace}
    (h : DataW.trod enc Tryz.prog w base spare held fuel 39 cs = some x) : ∃ a len cap, cs = [.slice a len cap] ∧ len ≤ maxLen ∧ ∃ d : Array En, d.size = len ∧ Ew w (.slice a len cap) d := by
  rcases Deep.open_slice Tryz.underlying39 h with ⟨rfl, _⟩ | ⟨a, len, cap, m, n, D, Pl, rfl, hb, hl, hm, hmm, _, hx⟩
  · exact ⟨none, 0, 0, rfl, by unfold maxLen; omega, #[], rfl, ⟨none, 0, rfl, Nat.le_refl _, fun _ => ⟨rfl, rfl⟩, fun ad had => by cases had⟩, fun i hi => absurd hi (by simp)⟩
  refine ⟨some a, len, cap, rfl, by omega, ?_⟩
  have hlm : len ≤ m := by rw [hmm]; split <;> omega
  have each : ∀ i, i < len → ∃ e : En, (-9223372036854775808 ≤ e.m ∧ e.m ≤ 9223372036854775807 ∧ IsId e.id) ∧ ∀ j, j < 22 → w.cell? (a.add (i * 22 + j)) = some (ecl e j) := by
    intro i hi
    obtain ⟨cs', h1, h2⟩ := hx i (by omega)
    rw [cells79] at h1
    obtain ⟨_, hlen, hcell⟩ := World.cells?_some h1
    obtain ⟨xs, k, _, _, hl2, hxl, hfld⟩ := DataW.trod_struct Tryz.underlying79 h2
    match xs, hxl with
    | [y0, y1, y2], _ =>
      have g0 : DataW.trod enc Tryz.prog w base spare held k 3 ((cs'.drop 0).take (Tryz.prog.cellsOf 3)) = some y0 := hfld 0 _ rfl
      have g1 : DataW.trod enc Tryz.prog w base spare held k 9 ((cs'.drop 1).take (Tryz.prog.cellsOf 9)) = some y1 := hfld 1 _ rfl
      have g2 : DataW.trod enc Tryz.prog w base spare held k 27 ((cs'.drop 2).take (Tryz.prog.cellsOf 27)) = some y2 := hfld 2 _ rfl
      rw [cells3] at g0
      rw [cells9] at g1
      rw [cells27] at g2
      obtain ⟨z, e0, _, wf⟩ := DataW.trod_int Tryz.underlying3 g0
      obtain ⟨s, e1, _⟩ := DataW.trod_string Tryz.underlying9 g1
      obtain ⟨t, ht, e2⟩ := row_of g2
      have hwf : -9223372036854775808 ≤ z ∧ z ≤ 9223372036854775807 := bounds_i64 wf
      refine ⟨⟨z, s.data.toList, t⟩, ⟨hwf.1, hwf.2, ht⟩, fun j hj => ?_⟩
      have hcut := cut22 cs' (by omega)
      rw [e0, e1, e2, str_eta s, ← ef_vals] at hcut
      have k1 := hcell j (by omega)
      rw [Deep.add_add] at k1
      rw [k1]
      have := vals_get (ecl ⟨z, s.data.toList, t⟩) 22 j hj
      rw [← hcut] at this
      simpa using this
  obtain ⟨f, hf⟩ := choose_lt len each
  refine ⟨((List.range len).map f).toArray, by simp, ⟨some a, cap, by simp, by simpa using hl, (fun e => by cases e), fun ad had i hi j hj => ?_⟩, fun i hi => ?_⟩
  · cases had
    have hi' : i < len := by simpa using hi
    rw [(hf i hi').2 j hj, getElem!_pos _ i hi]
    simp
  · have hi' : i < len := by simpa using hi
    rw [getElem!_pos _ i hi]
    simpa using (hf i hi').1

end Go.Proofs.YtojgablpjdlegaaGreatDoor

/- Steps of a quiet region, each told of the operation alone. -/
namespace Go.Proofs.YtojgablpjdlegaaGreatDoor
open Go.RowKit

theorem ite_ff {W : Bool} {A B : Prop} (h : W = false) : (if W = true then A else B) = B := by rw [h]; simp

theorem oq_mv {o : Oper} {a : Act} {C : World → Prop} {K : Act → Prop} (x : Operand) (ho : o.op = .move x) (v : Value) (hx : a.eval x = v) (hk : K (a.put o.dst v)) : o.quiet Tryz.prog a C K := by
  refine ⟨v, fun w _ => ?_, hk⟩
  unfold Oper.quietAt execOp
  simp only [ho, hx]
  simp [Oper.quietUpon, go_sem]

theorem oq_asg {o : Oper} {a : Act} {C : World → Prop} {K : Act → Prop} (x : Operand) (ho : o.op = .assign x) (v : Value) (hx : a.eval x = v) (hk : K (a.put o.dst v)) : o.quiet Tryz.prog a C K := by
  refine ⟨v, fun w _ => ?_, hk⟩
  unfold Oper.quietAt execOp
  simp only [ho, hx]
  simp [Oper.quietUpon, go_sem]

theorem oq_subI {o : Oper} {a : Act} {C : World → Prop} {K : Act → Prop} (x y : Operand) (t : TypeId) (ho : o.op = .binOp .sub 3 x y t) (p q r : Int) (hx : a.eval x = .int .i64 p) (hy : a.eval y = .int .i64 q) (hr : IntKind.i64.wrap (p - q) = r) (hk : K (a.put o.dst (.int .i64 r))) : o.quiet Tryz.prog a C K := by
  refine ⟨_, fun w _ => ?_, hk⟩
  unfold Oper.quietAt execOp
  simp only [ho, hx, hy]
  simp [Oper.quietUpon, go_sem, hr]

theorem oq_neqI {o : Oper} {a : Act} {C : World → Prop} {K : Act → Prop} (x y : Operand) (t : TypeId) (ho : o.op = .binOp .neq 3 x y t) (p : Int) (hx : a.eval x = .int .i64 p) (hy : a.eval y = .int .i64 p) (hk : K (a.put o.dst (.bool false))) : o.quiet Tryz.prog a C K := by
  refine ⟨_, fun w _ => ?_, hk⟩
  unfold Oper.quietAt execOp
  simp only [ho, hx, hy]
  simp [Oper.quietUpon, go_sem]

theorem oq_pickF {o : Oper} {a : Act} {C : World → Prop} {K : Act → Prop} (x y z : Operand) (ho : o.op = .pick x y z) (hx : a.eval x = .bool false) (v : Value) (hz : a.eval z = v) (hk : K (a.put o.dst v)) : o.quiet Tryz.prog a C K := by
  refine ⟨v, fun w _ => ?_, hk⟩
  unfold Oper.quietAt execOp
  simp only [ho, hx, hz]
  simp [Oper.quietUpon, go_sem]

theorem oq_pickT {o : Oper} {a : Act} {C : World → Prop} {K : Act → Prop} (x y z : Operand) (ho : o.op = .pick x y z) (hx : a.eval x = .bool true) (v : Value) (hy : a.eval y = v) (hk : K (a.put o.dst v)) : o.quiet Tryz.prog a C K := by
  refine ⟨v, fun w _ => ?_, hk⟩
  unfold Oper.quietAt execOp
  simp only [ho, hx, hy]
  simp [Oper.quietUpon, go_sem]

theorem oq_ix {o : Oper} {a : Act} {C : World → Prop} {K : Act → Prop} (t : TypeId) (x y : Operand) (ho : o.op = .indexAddr t x y) (u v p : Value) (hx : a.eval x = u) (hy : a.eval y = v) (h : ∀ w, (Instr.indexAt t u v).run Tryz.prog w = .ok p w) (hk : K (a.put o.dst p)) : o.quiet Tryz.prog a C K := by
  refine ⟨_, fun w _ => ?_, hk⟩
  unfold Oper.quietAt execOp
  simp only [ho, hx, hy]
  simp [h w, Oper.quietUpon]

theorem oq_load {o : Oper} {a : Act} {C : World → Prop} {K : Act → Prop} (ty : TypeId) (x : Operand) (ho : o.op = .load ty x) (ad : Addr) (hx : a.eval x = .pointer (some ad)) (v : Value)
    (hc : ∀ w, C w → (loadVar ty ad).run Tryz.prog w = .ok v w) (hk : K (a.put o.dst v)) : o.quiet Tryz.prog a C K := by
  refine ⟨v, fun w hC => ?_, hk⟩
  have h := hc w hC
  unfold Oper.quietAt execOp
  simp only [ho, hx]
  simp [Instr.loadAt, Instr.sureAddr, h, Oper.quietUpon]

theorem oq_call2 {o : Oper} {a : Act} {C : World → Prop} {K : Act → Prop} (f : FuncId) (hf : ∀ vs w, (callFunc f vs).run Tryz.prog w = .ok (.enter f vs) w) (x y : Operand) (ts : Array TypeId) (ho : o.op = .call { callee := .value (.func f), args := #[x, y], argTypes := ts }) (u u' : Value) (hx : a.eval x = u) (hy : a.eval y = u') (v : Value)
    (hc : ∀ w, C w → Calls Tryz.prog f #[u, u'] w (fun e w' => e = .returned v ∧ C w')) (hk : K (a.put o.dst v)) : o.quiet Tryz.prog a C K := by
  refine ⟨v, fun w hC => ?_, hk⟩
  have h := hc w hC
  have hr : (resolve a.eval { callee := .value (.func f), args := #[x, y], argTypes := ts } o.type >>= fun d => invoke d.target d.args).run Tryz.prog w = .ok (.enter f #[u, u']) w := by
    rw [← hf #[u, u'] w, ← hx, ← hy]
    simp [resolve, Act.eval, invoke, Deferred.ofValue]
  unfold Oper.quietAt execOp
  simp only [ho, hr]
  exact ⟨rfl, h⟩

theorem oq_bin {o : Oper} {a : Act} {C : World → Prop} {K : Act → Prop} (op : BinOp) (t t' : TypeId) (x y : Operand) (ho : o.op = .binOp op t x y t') (A B : Array Value) (hx : a.eval x = .agg A) (hy : a.eval y = .agg B) (v : Value) (hm : Tryz.prog.eqGuardType Tryz.prog.depth t = false) (hb : ∀ w, C w → (binOp op t (.agg A) (.agg B)).run Tryz.prog w = .ok v w) (hk : K (a.put o.dst v)) : o.quiet Tryz.prog a C K := by
  refine ⟨v, fun w hC => ?_, hk⟩
  have h := hb w hC
  have hg := run_eqGuard_agg (P := Tryz.prog) w op t x y A B hm
  unfold Oper.quietAt Oper.quietUpon
  simp only [execOp, ho, hx, hy, Sem.run_bind, hg, h, Result.andThen_ok, Sem.run_pure]
  exact ⟨trivial, trivial⟩

end Go.Proofs.YtojgablpjdlegaaGreatDoor

/- The tables of the tree's modes, out of what is laid. -/
namespace Go.Proofs.YtojgablpjdlegaaGreatDoor
open Go.RowKit

/-- The de Bruijn table. -/
def db64 : List Int := [0, 1, 56, 2, 57, 49, 28, 3, 61, 58, 42, 50, 38, 29, 17, 4, 62, 47, 59, 36, 45, 43, 51, 22, 53, 39, 33, 30, 24, 18, 12, 5, 63, 55, 48, 27, 60, 41, 37, 16, 46, 35, 44, 21, 52, 32, 23, 11, 54, 26, 40, 15, 34, 20, 31, 10, 25, 14, 19, 9, 13, 8, 7, 6]

/-- The modes. -/
def md5 : List Int := [16384, 33188, 33261, 40960, 57344]

theorem ts_of_laid {W : World} {l : List (String × DataW Unit)} (hl : l.filter (fun x => x.1 == "internal/strconv.uint64pow10" || x.1 == "trove/object.words") = two)
    (h1 : l.filter (fun x => x.1 == "math/bits.deBruijn64tab") = [("math/bits.deBruijn64tab", Lib.tabData .u8 db64)])
    (h2 : l.filter (fun x => x.1 == "trove/object.modes") = [("trove/object.modes", Lib.tabData .i64 md5)]) (h : laidMetH Tryz.prog l W) (hs : W.ShapedOpen Tryz.prog) : Ts W := by
  have g := gs_of_laid hl h hs
  have a1 := laidMetH.filter (fun x => x.1 == "math/bits.deBruijn64tab") h
  rw [h1, MakeChecks.laidMetH_plain _ _ _ (by kernel_rfl)] at a1
  have b1 := Lib.tabIs_of_head (g := 9) (n := 64) (e := 5) (t := 172) (by kernel_rfl) (by kernel_rfl) (by kernel_rfl) (by kernel_rfl) (by kernel_rfl) (by kernel_rfl) a1
  have a2 := laidMetH.filter (fun x => x.1 == "trove/object.modes") h
  rw [h2, MakeChecks.laidMetH_plain _ _ _ (by kernel_rfl)] at a2
  have b2 := Lib.tabIs_of_head (g := 2) (n := 5) (e := 3) (t := 221) (by kernel_rfl) (by kernel_rfl) (by kernel_rfl) (by kernel_rfl) (by kernel_rfl) (by kernel_rfl) a2
  refine ⟨g, fun k hk => ?_, ?_⟩
  · have := b2.cell (g := 2) (by kernel_rfl) k (by simpa [md5] using hk)
    rw [this]
    rcases (by omega : k = 0 ∨ k = 1 ∨ k = 2 ∨ k = 3 ∨ k = 4) with rfl | rfl | rfl | rfl | rfl <;> rfl
  · have := b1.cell (g := 9) (by kernel_rfl) 7 (by simp [db64])
    rw [this]
    rfl

theorem trees_two : Rows.objectTreesRow.laid.filter (fun x => x.1 == "internal/strconv.uint64pow10" || x.1 == "trove/object.words") = two := by kernel_rfl

theorem trees_db : Rows.objectTreesRow.laid.filter (fun x => x.1 == "math/bits.deBruijn64tab") = [("math/bits.deBruijn64tab", Lib.tabData .u8 db64)] := by kernel_rfl

theorem trees_md : Rows.objectTreesRow.laid.filter (fun x => x.1 == "trove/object.modes") = [("trove/object.modes", Lib.tabData .i64 md5)] := by kernel_rfl

end Go.Proofs.YtojgablpjdlegaaGreatDoor
