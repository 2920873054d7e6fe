/- Frame, Help. -/
import Derived.Test.YtojgablpjdlegaaGreatDoorProg
import Derived.Test.YtojgablpjdlegaaGreatDoorM01
import Derived.Deep.MidRow
import Derived.Deep.RegionWith
import Derived.Deep.DeepCutAuto
import Derived.Deep.QuietTactic
import Derived.Deep.WholeRow
import Derived.Deep.OwnRows
import Derived.Deep.AppendLies
import Derived.Deep.RegionLaw
import Derived.Deep.RegionHeld3
import Derived.Laws.AppendOwnNone
import Derived.Laws.StructEq
/- Frames: which blocks a call may turn; whole rows by value. -/
namespace Go.Proofs.YtojgablpjdlegaaGreatDoor
open Go.RowKit

/-- Old blocks that are not in P are as they were. -/
structure Fr (P : Nat → Prop) (w w' : World) : Prop where
  os : w'.os = w.os
  tape : w'.tape = w.tape
  output : w'.output = w.output
  size : w.heap.size ≤ w'.heap.size
  block : ∀ k, k < w.heap.size → ¬ P k → w'.heap[k]? = w.heap[k]?

theorem Fr.refl (P : Nat → Prop) (w : World) : Fr P w w := ⟨rfl, rfl, rfl, Nat.le_refl _, fun _ _ _ => rfl⟩

theorem Fr.trans {P P' : Nat → Prop} {a b c : World} (h : Fr P a b) (k : Fr P' b c) (hP : ∀ i, i < a.heap.size → P' i → P i) : Fr P a c :=
  ⟨k.os.trans h.os, k.tape.trans h.tape, k.output.trans h.output, Nat.le_trans h.size k.size, fun i hi hn => (k.block i (Nat.lt_of_lt_of_le hi h.size) (fun hp => hn (hP i hi hp))).trans (h.block i hi hn)⟩

theorem Fr.ofBelow {P : Nat → Prop} {a b : World} (h : Below a.heap.size a b) : Fr P a b := ⟨h.os, h.tape, h.output, h.size, fun i hi _ => h.block i hi⟩

theorem Fr.below {P : Nat → Prop} {a b : World} (h : Fr P a b) (B : Nat) (hB : B ≤ a.heap.size) (hP : ∀ i, i < B → ¬ P i) : Below B a b :=
  ⟨h.os, h.tape, h.output, h.size, fun i hi => h.block i (by omega) (hP i hi)⟩

theorem Fr.drew {P : Nat → Prop} {a b : World} (h : Fr P a b) : Fr P a b.drew := ⟨h.os, h.tape, h.output, h.size, h.block⟩

theorem Fr.alloc {P : Nat → Prop} {a b : World} (h : Fr P a b) (o : Obj) : Fr P a (b.alloc o) :=
  h.trans (P' := P) (Fr.ofBelow ((Below.refl _ _).alloc (Nat.le_refl _) _)) (fun _ _ x => x)

theorem Fr.setCell {P : Nat → Prop} {a b : World} (h : Fr P a b) {p : Addr} (hp : P p.block) (u : Value) : Fr P a (b.setCell p u) :=
  h.trans (P' := P) ⟨rfl, rfl, rfl, by simp [World.setCell], fun k _ hn => Below.heap_setCell _ _ _ _ (fun e => hn (e ▸ hp))⟩ (fun _ _ x => x)

theorem Fr.grown {P : Nat → Prop} {a b c : World} {row : Option Nat} (h : Fr P a b) (hg : b.grownBy c row) (hr : ∀ k, k < a.heap.size → row = some k → P k) : Fr P a c :=
  ⟨hg.os.trans h.os, hg.tape.trans h.tape, hg.output.trans h.output, Nat.le_trans h.size hg.size,
    fun i hi hn => (hg.block i (Nat.lt_of_lt_of_le hi h.size) (fun e => hn (hr i hi e.symm))).trans (h.block i hi hn)⟩

theorem rowIs_fr {P : Nat → Prop} {w w' : World} {b t n : Nat} {f : Nat → Value} (h : w.rowIs b t n f) (hf : Fr P w w') (hb : ¬ P b) : w'.rowIs b t n f :=
  h.of_block (hf.block b h.lt hb)

theorem ownsRow_fr {P : Nat → Prop} {w w' : World} {base e s n : Nat} {v : Value} {xs : List Value} (h : w.ownsRow base e s v n xs) (hf : Fr P w w') (hb : ∀ k, v.ownBlock = some k → ¬ P k) : w'.ownsRow base e s v n xs := by
  refine ⟨h.1, ?_⟩
  have hlt := h.lt
  rcases h.2 with h' | ⟨g, cap, cur, rfl, h1, h2, h3⟩
  · exact .inl h'
  · exact .inr ⟨g, cap, cur, rfl, h1, (hf.block g (hlt g rfl).2 (hb g rfl)).trans h2, h3⟩

theorem Rd.fr {P : Nat → Prop} {w w' : World} {ao : Option Addr} {n c : Nat} {xs : List Int} (h : Rd w ao n c xs) (hf : Fr P w w') (hs : ∀ ad, ao = some ad → 0 < n → ¬ P ad.block) : Rd w' ao n c xs :=
  ⟨h.len, h.le, h.nul, fun ad had j hj => by
    have hc := h.cells ad had j hj
    have hbk : (ad.add j).block = ad.block := by unfold Addr.add; split <;> rfl
    have hlt := World.block_lt_of_cell? w _ hc
    rw [World.cell?_of_block (hf.block _ hlt (by rw [hbk]; exact hs ad had (by omega)))]
    exact hc, h.byt⟩

/-- The cells of a row of m, as a value has them. -/
def vals (g : Nat → Value) (m : Nat) : List Value := (List.range m).map g

/-- A row of m cells, by value. -/
abbrev row (g : Nat → Value) (m : Nat) : Value := .agg (vals g m).toArray

theorem vals_len (g : Nat → Value) (m : Nat) : (vals g m).length = m := by simp [vals]

theorem vals_get (g : Nat → Value) (m j : Nat) (h : j < m) : (vals g m)[j]? = some (g j) := by simp [vals, h]

theorem vals_size (g : Nat → Value) (m : Nat) : (vals g m).toArray.size = m := by simp [vals]

theorem vals_congr (g h : Nat → Value) (m : Nat) (e : ∀ i, i < m → g i = h i) : vals g m = vals h m := by
  unfold vals
  exact List.map_congr_left (fun i hi => e i (by simpa using hi))

theorem row_congr (g h : Nat → Value) (m : Nat) (e : ∀ i, i < m → g i = h i) : row g m = row h m := by unfold row; rw [vals_congr g h m e]

theorem rowIs_vals (w : World) (g : Nat → Value) (m : Nat) (t : TypeId) : (w.alloc (.cells (vals g m).toArray t)).rowIs w.heap.size t m g := by
  have h := World.rowIs_alloc w (vals g m).toArray t g (fun i hi => by rw [vals_size] at hi; simpa using vals_get g m i hi)
  rwa [vals_size] at h

theorem rangeAt_row {w : World} {b t n : Nat} {f : Nat → Value} (h : w.rowIs b t n f) (o m : Nat) (hm : o + m ≤ n) : w.rangeAt b o (vals (fun j => f (o + j)) m) := by
  intro j v hv
  have hj : j < m := by
    have := (List.getElem?_eq_some_iff.1 hv).1
    rwa [vals_len] at this
  rw [vals_get _ _ _ hj] at hv
  cases hv
  exact h.cell (by omega)

section
variable {P : Program}

theorem load_mid (ty : TypeId) (d : TypeDesc) {b o t n : Nat} {f : Nat → Value} {w : World} (h : w.rowIs b t n f) (m : Nat) (hm : o + m ≤ n)
    (hu : P.underlying ty = some d) (hd : d.isRow = true) (hi : (P.info? ty).map (·.size) = some m) : (loadVar ty ⟨b, o, none⟩).run P w = .ok (row (fun j => f (o + j)) m) w :=
  run_loadVar_mid w b o ty _ d (rangeAt_row h o m hm) hu hd (by rw [vals_len]; exact hi)

theorem load_all (ty : TypeId) (d : TypeDesc) {b t n : Nat} {f : Nat → Value} {w : World} (h : w.rowIs b t n f)
    (hu : P.underlying ty = some d) (hd : d.isRow = true) (hi : (P.info? ty).map (·.size) = some n) : (loadVar ty ⟨b, 0, none⟩).run P w = .ok (row f n) w := by
  have := load_mid (P := P) (o := 0) ty d h n (by omega) hu hd hi
  simpa using this

theorem wpList_ld {ops : Array Oper} {rest : List Oper} {op : Oper} {a : Act} {w : World} {Q : Exit → Act → World → Prop} (hgd : op.guard = none) (ty : TypeId) (x : Operand) (ho : op.op = .load ty x)
    (b o : Nat) (hx : a.eval x = .pointer (some ⟨b, o, none⟩)) (d : TypeDesc) {t n : Nat} {f : Nat → Value} (h : w.rowIs b t n f) (m : Nat) (hm : o + m ≤ n)
    (hu : P.underlying ty = some d) (hd : d.isRow = true) (hi : (P.info? ty).map (·.size) = some m)
    (hk : wpList P ops Q rest (a.put op.dst (row (fun j => f (o + j)) m)) w) : wpList P ops Q (op :: rest) a w :=
  wpList_load_mid hgd ty x ho b o hx _ d (rangeAt_row h o m hm) hu hd (by rw [vals_len]; exact hi) hk

theorem wpList_ld0 {ops : Array Oper} {rest : List Oper} {op : Oper} {a : Act} {w : World} {Q : Exit → Act → World → Prop} (hgd : op.guard = none) (ty : TypeId) (x : Operand) (ho : op.op = .load ty x)
    (b : Nat) (hx : a.eval x = .pointer (some ⟨b, 0, none⟩)) (d : TypeDesc) {t n : Nat} {f : Nat → Value} (h : w.rowIs b t n f) (m : Nat) (hm : m ≤ n)
    (hu : P.underlying ty = some d) (hd : d.isRow = true) (hi : (P.info? ty).map (·.size) = some m)
    (hk : wpList P ops Q rest (a.put op.dst (row f m)) w) : wpList P ops Q (op :: rest) a w :=
  wpList_ld hgd ty x ho b 0 hx d h m (by omega) hu hd hi (by simpa using hk)

theorem step_ld {ops : Array Oper} {op : Oper} {a : Act} {w : World} {K : Act → World → Prop} {Q : Exit → Act → World → Prop} {E : Prop} (hgd : op.guard = none) (ty : TypeId) (x : Operand) (ho : op.op = .load ty x)
    (b o : Nat) (hx : a.eval x = .pointer (some ⟨b, o, none⟩)) (d : TypeDesc) {t n : Nat} {f : Nat → Value} (h : w.rowIs b t n f) (m : Nat) (hm : o + m ≤ n)
    (hu : P.underlying ty = some d) (hd : d.isRow = true) (hi : (P.info? ty).map (·.size) = some m)
    (hk : K (a.put op.dst (row (fun j => f (o + j)) m)) w) : if Region.wanted op (yielded ops a.tmps) = true then Oper.wp P op a w K Q else E := by
  have hw : Region.wanted op (yielded ops a.tmps) = true := by simp [Region.wanted, hgd]
  rw [if_pos hw]
  exact wp_load_mid ty x ho b o hx _ d (rangeAt_row h o m hm) hu hd (by rw [vals_len]; exact hi) hk

theorem rowIs_setRow {w : World} {b t n : Nat} {f : Nat → Value} (h : w.rowIs b t n f) (g : Nat → Value) : (w.setRow b (vals g n).toArray).rowIs b t n g := by
  obtain ⟨c, hb, hn, hc⟩ := h
  refine ⟨(vals g n).toArray, setRow_heap w b c _ t _ hb, vals_size _ _, fun i hi => ?_⟩
  simpa using vals_get g n i hi

theorem Fr.setRow {Q : Nat → Prop} {a w : World} (h : Fr Q a w) {b : Nat} (hb : Q b) (cs : Array Value) : Fr Q a (w.setRow b cs) :=
  h.trans (P' := Q) ⟨rfl, rfl, rfl, by simp [World.setRow], fun k _ hn => setRow_other w b k cs (fun e => hn (e ▸ hb))⟩ (fun _ _ x => x)

theorem vals_one (g : Nat → Value) (m : Nat) (h : ∀ j, (g j).oneCell' = true) : (vals g m).toArray.all (·.oneCell') = true :=
  all_oneCell_toArray (fun v hv => by
    unfold vals at hv
    obtain ⟨j, _, rfl⟩ := List.mem_map.1 hv
    exact h j)

theorem wpList_st {ops : Array Oper} {rest : List Oper} {op : Oper} {a : Act} {w : World} {Q : Exit → Act → World → Prop} (hgd : op.guard = none) (ty : TypeId) (x y : Operand) (ho : op.op = .store ty x y)
    (b : Nat) (hx : a.eval x = .pointer (some ⟨b, 0, none⟩)) (g : Nat → Value) {t n : Nat} {f : Nat → Value} (hy : a.eval y = row g n) (h : w.rowIs b t n f)
    (hi : (P.info? ty).map (·.size) = some n) (h1 : ∀ j, (g j).oneCell' = true)
    (hk : ∀ w', w'.rowIs b t n g → Fr (fun k => k = b) w w' → wpList P ops Q rest (a.put op.dst undef) w') : wpList P ops Q (op :: rest) a w := by
  have hr := rowIs_setRow h g
  have hf := (Fr.refl (fun k => k = b) w).setRow rfl (vals g n).toArray
  obtain ⟨c, hb, hn, hc⟩ := h
  exact wpList_store_row hgd ty x y ho b (vals g n).toArray hx hy t c hb (by rw [vals_size]; exact hi) (by rw [vals_size]; exact hn) (vals_one g n h1) (hk _ hr hf)

theorem run_index_row (ty e : TypeId) (n : Nat) (kk : IntKind) (g : Nat → Value) (i : Nat) (hi : i < n) (hu : P.underlying ty = some (.array n e)) (he : ∀ w, (isAgg e).run P w = .ok false w) (hs : ∀ w, (sizeOf e).run P w = .ok 1 w) (w : World) :
    (Instr.index ty (row g n) (.int kk i)).run P w = .ok (g i) w := by
  have hg := vals_get g n i hi
  simp [Instr.index, asIntOf, run_underlying hu, part, he, hs, hi, hg]

theorem rowIs_block {w : World} {b t n : Nat} {f : Nat → Value} (h : w.rowIs b t n f) : w.heap[b]? = some (.cells (vals f n).toArray t (0, 0)) := by
  obtain ⟨c, hb, hn, hc⟩ := h
  rw [hb]
  congr 2
  apply Array.ext_getElem?
  intro i
  by_cases hi : i < n
  · rw [hc i hi]
    simpa using (vals_get f n i hi).symm
  · rw [Array.getElem?_eq_none (by omega), Array.getElem?_eq_none (by rw [vals_size]; omega)]

theorem results_row {fn : Func} {p : Tmp} {ty : TypeId} (h : fn.results = #[.cell p ty]) (tmps : Array Value) {w : World} {b t n : Nat} {f : Nat → Value} {d : TypeDesc} (hp : tmps.getD p undef = .pointer (some ⟨b, 0, none⟩)) (hr : w.rowIs b t n f)
    (hu : P.underlying ty = some d) (hd : d.isRow = true) (hi : (P.info? ty).map (·.size) = some n) : (results fn tmps).run P w = .ok (row f n) w :=
  results_cell_row h tmps w b t _ (0, 0) d hp (rowIs_block hr) hu (by cases d <;> first | rfl | cases hd) (by rw [vals_size]; exact hi)

end

end Go.Proofs.YtojgablpjdlegaaGreatDoor

/- Slices of bytes: parts of them, appends, a new one. -/
namespace Go.Proofs.YtojgablpjdlegaaGreatDoor
open Go.RowKit

theorem Tryz.info5 : (Tryz.prog.info? 5).map (fun i => (i.zero, i.size, i.bytes)) = some (some (.int .u8 0), 1, 1) := by kernel_rfl

theorem Rd.sub {w : World} {ao : Option Addr} {n c : Nat} {xs : List Int} (h : Rd w ao n c xs) (p m : Nat) (hs : p + m ≤ n) :
    Rd w (if c = p then ao else Option.map (fun x => x.add p) ao) m (c - p) ((xs.drop p).take m) := by
  have hl := h.len
  have hle := h.le
  refine ⟨by simp; omega, by omega, ?_, ?_, fun x hx => h.byt x (List.mem_of_mem_drop (List.mem_of_mem_take hx))⟩
  · intro e
    cases ao with
    | none => have := h.nul rfl; omega
    | some ad => by_cases hc : c = p <;> simp [hc] at e
  · intro ad had j hj
    rw [if_neg (by omega)] at had
    obtain ⟨b, off, rfl, hcell⟩ := h.plain (by omega)
    simp only [Option.map_some, Option.some.injEq] at had
    subst had
    rw [Addr.add_lit, Addr.add_lit, Nat.add_assoc, hcell (p + j) (by omega)]
    simp [List.getD, show j < m from by omega]

theorem own_rowIs {w : World} {base e g n : Nat} {xs : List Value} (h : w.ownsRow base e 1 (.slice (some ⟨g, 0, none⟩) n n) n xs) : w.rowIs g e n (fun j => xs.getD j undef) := by
  rcases h.2 with ⟨e, _⟩ | ⟨g', cap, cur, e, _, hh, _, _, hsz, htk⟩
  · cases e
  · cases e
    have hs : cur.size = n := by simpa using hsz
    refine ⟨cur, hh, hs, fun i hi => ?_⟩
    rw [Nat.mul_one, List.take_of_length_le (by simp [hs])] at htk
    rw [← htk]
    simp [hs, hi]

theorem made_rowIs {w : World} {base e g n : Nat} {z : Value} (hz : z.cells = #[z]) (h : w.ownsRow base e 1 (.slice (some ⟨g, 0, none⟩) n n) n (madeCells z.cells (n * 1)).toList) : w.rowIs g e n (fun _ => z) :=
  (own_rowIs h).congr (fun j hj => by
    rw [hz]
    simp [madeCells, List.getD, hj, Nat.mod_one])

theorem Rd.ofRow {w : World} {b t n : Nat} {xs : List Int} (h : w.rowIs b t n (fun j => .int .u8 (xs.getD j 0))) (hl : xs.length = n) (hb : ∀ x ∈ xs, 0 ≤ x ∧ x < 256) : Rd w (some ⟨b, 0, none⟩) n n xs :=
  ⟨hl, Nat.le_refl _, (fun e => by cases e), fun ad had j hj => by cases had; rw [Addr.add_lit, Nat.zero_add]; exact h.cell hj, hb⟩

theorem run_sub {w : World} {ao : Option Addr} {n c p m : Nat} {ys : List Int} (h : Rd w ao n c ys) (hpm : p + m ≤ n) (lo hi : Option Value)
    (hlo : lo = some (.int .i64 (p : Int)) ∨ lo = none ∧ p = 0) (hhi : hi = some (.int .i64 ((p + m : Nat) : Int)) ∨ hi = none ∧ p + m = n) :
    (Instr.slice 22 (.slice ao n c) lo hi none).run Tryz.prog w = .ok (.slice (if c = p then ao else Option.map (fun x => x.add p) ao) m (c - p)) w := by
  have hle := h.le
  have hz : ∀ w, (sizeOf 5).run Tryz.prog w = .ok 1 w := fun w => by simp [go_sem]
  have e1 : 0 ≤ ((p + m : Nat) : Int) ∧ ((p + m : Nat) : Int) ≤ (c : Int) := by omega
  have e2 : 0 ≤ (p : Int) ∧ (p : Int) ≤ ((p + m : Nat) : Int) := by omega
  have e3 : ((p + m : Nat) : Int).toNat = p + m := by omega
  have e4 : p + m - p = m := by omega
  unfold Instr.slice Instr.sliceBounds
  rcases hlo with rfl | ⟨rfl, rfl⟩ <;> rcases hhi with rfl | ⟨rfl, rfl⟩ <;>
    simp only [run_underlying Tryz.underlying22, Instr.sliceBound, asIntOf, hz, Result.andThen_ok, Sem.run_bind, Sem.run_pure, if_pos e1, if_pos e2, e3, e4, Option.isSome_none, Int.toNat_natCast, Nat.mul_one, Nat.sub_zero]

theorem wpList_sub {ops : Array Oper} {rest : List Oper} {op : Oper} {a : Act} {w : World} {Q : Exit → Act → World → Prop} (hgd : op.guard = none) (x : Operand) (lo hi : Option Operand) (ho : op.op = .slice 22 x lo hi none)
    {ao : Option Addr} {n c : Nat} {ys : List Int} (h : Rd w ao n c ys) (p m : Nat) (hpm : p + m ≤ n) (hx : a.eval x = .slice ao n c)
    (hlo : lo.map a.eval = some (.int .i64 (p : Int)) ∨ lo.map a.eval = none ∧ p = 0) (hhi : hi.map a.eval = some (.int .i64 ((p + m : Nat) : Int)) ∨ hi.map a.eval = none ∧ p + m = n)
    (hk : ∀ ao' c', Rd w ao' m c' ((ys.drop p).take m) → (∀ ad, ao' = some ad → ∃ a0, ao = some a0 ∧ ad.block = a0.block) → wpList Tryz.prog ops Q rest (a.put op.dst (.slice ao' m c')) w) : wpList Tryz.prog ops Q (op :: rest) a w := by
  refine wpList_plain hgd fun K hK => ?_
  unfold Oper.wp
  have hrun := run_sub h hpm _ _ hlo hhi
  have hat : (Instr.sliceAt 22 (.slice ao n c) (lo.map a.eval) (hi.map a.eval) none).run Tryz.prog w = .ok (.slice (if c = p then ao else Option.map (fun x => x.add p) ao) m (c - p)) w := by
    unfold Instr.sliceAt
    simp only [Sem.run_bind, run_underlying Tryz.underlying22, Result.andThen_ok]
    exact hrun
  simp only [execOp, ho, hx, Sem.run_bind, Option.map_none, hat, Result.andThen_ok, Sem.run_pure]
  refine hK _ _ (hk _ _ (h.sub p m hpm) fun ad had => ?_)
  by_cases hc : c = p
  · rw [if_pos hc] at had
    exact ⟨ad, had, rfl⟩
  · rw [if_neg hc] at had
    cases ao with
    | none => cases had
    | some a0 => exact ⟨a0, rfl, by cases had; unfold Addr.add; split <;> rfl⟩

theorem Rd.blk {w : World} {ao : Option Addr} {n c : Nat} {ys : List Int} (h : Rd w ao n c ys) : ∀ ad, ao = some ad → 0 < n → ad.block < w.heap.size := fun ad had hn => by
  have := h.cells ad had 0 hn
  have := World.block_lt_of_cell? w _ this
  rwa [show (ad.add 0).block = ad.block by unfold Addr.add; split <;> rfl] at this

/-- 'append(out, ys...)', out the call's own, ys nil or not. -/
theorem wpList_append_rd {w : World} {ops : Array Oper} {rest : List Oper} {o : Oper} {a : Act} {Q : Exit → Act → World → Prop} (hgd : o.guard = none) (s x : Operand)
    (ho : o.op = .call { callee := .builtin .append, args := #[s, x], argTypes := #[22, 22] })
    (base g n cap : Nat) (xs : List Int) (hs : a.eval s = .slice (some ⟨g, 0, none⟩) n cap) (hown : w.ownsRow base 5 1 (.slice (some ⟨g, 0, none⟩) n cap) n (xs.map (Value.int .u8)))
    (ao : Option Addr) (m c : Nat) (ys : List Int) (hx : a.eval x = .slice ao m c) (hr : Rd w ao m c ys) (hlim : n + m ≤ 140737488355328) (hbase : base ≤ w.heap.size)
    (h : ∀ g' cap' w', w'.ownsRow base 5 1 (.slice (some ⟨g', 0, none⟩) (n + m) cap') (n + m) ((xs ++ ys).map (Value.int .u8)) → w.grownBy w' (some g) → wpList Tryz.prog ops Q rest (a.put o.dst (.slice (some ⟨g', 0, none⟩) (n + m) cap')) w') :
    wpList Tryz.prog ops Q (o :: rest) a w := by
  obtain ⟨i0, hi, hz0, hz1, hz2⟩ := info_parts Tryz.info5
  cases ao with
  | none =>
    obtain ⟨rfl, rfl⟩ := hr.nul rfl
    have hy : ys = [] := List.eq_nil_of_length_eq_zero hr.len
    subst hy
    refine wpList_append_own_none hgd s x 22 ho base 5 i0 1 Tryz.underlying22 hi _ n _ hs hown hx ?_
    exact h g cap w (by simpa using hown) (World.grownBy.refl _ _)
  | some ad =>
    refine wpList_append_own w hgd s x 22 ho base 5 i0 (.int .u8 0) 1 1 Tryz.underlying22 hi hz0 hz1 hz2 rfl (by decide) _ n _ hs hown ad m c (ys.map (Value.int .u8)) hx (by simpa using hr.len) (hr.cellsOf ad rfl) (ints_oneCell _ _)
      (by unfold maxLen; omega) (by omega) hbase ?_
    intro v' w' h1 h2 h3
    obtain ⟨g', cap', rfl⟩ : ∃ g' cap', v' = .slice (some ⟨g', 0, none⟩) (n + m) cap' := by
      rcases h1.2 with ⟨h', _⟩ | ⟨g', cap', cur, h', _⟩
      · rw [h3] at h'; cases h'.1
      · exact ⟨g', cap', h'⟩
    exact h g' cap' w' (by simpa using h1) h2

theorem own_base {w : World} {base g n c : Nat} {xs : List Value} (h : w.ownsRow base 5 1 (.slice (some ⟨g, 0, none⟩) n c) n xs) : base ≤ g := by
  rcases h.2 with ⟨e, _⟩ | ⟨g', cap, cur, e, hb, _⟩
  · cases e
  · cases e; exact hb

theorem none_own (w : World) (base : Nat) (hb : base ≤ w.heap.size) : (w.alloc (.cells #[] 5)).ownsRow base 5 1 (.slice (some ⟨w.heap.size, 0, none⟩) 0 0) 0 (([] : List Int).map (Value.int .u8)) :=
  World.ownsRow_lit (base := base) (e := 5) (size := 1) w #[] 0 hb (by unfold maxLen; omega) rfl

theorem one_rd (w : World) (v : Int) (h : 0 ≤ v ∧ v < 256) : Rd (w.alloc (Obj.cells #[.int .u8 v] 5)) (some ⟨w.heap.size, 0, none⟩) 1 1 [v] :=
  Rd.ofRow (World.rowIs_alloc w #[.int .u8 v] 5 _ (fun i hi => by
    simp at hi
    rcases i with _ | i <;> first | rfl | omega)) rfl (by intro x hx; simp at hx; omega)

/-- 'append(v, ys...)', v the call's own or nil, ys nil or not. -/
theorem wpList_append_v {w : World} {ops : Array Oper} {rest : List Oper} {o : Oper} {a : Act} {Q : Exit → Act → World → Prop} (hgd : o.guard = none) (s x : Operand)
    (ho : o.op = .call { callee := .builtin .append, args := #[s, x], argTypes := #[22, 22] })
    (base n : Nat) (v : Value) (xs : List Int) (hs : a.eval s = v) (hown : w.ownsRow base 5 1 v n (xs.map (Value.int .u8)))
    (ao : Option Addr) (m c : Nat) (ys : List Int) (hx : a.eval x = .slice ao m c) (hr : Rd w ao m c ys) (hlim : n + m ≤ 140737488355328) (hbase : base ≤ w.heap.size)
    (h : ∀ v' w', w'.ownsRow base 5 1 v' (n + m) ((xs ++ ys).map (Value.int .u8)) → w.grownBy w' v.ownBlock → wpList Tryz.prog ops Q rest (a.put o.dst v') w') :
    wpList Tryz.prog ops Q (o :: rest) a w := by
  obtain ⟨i0, hi, hz0, hz1, hz2⟩ := info_parts Tryz.info5
  cases ao with
  | none =>
    obtain ⟨rfl, rfl⟩ := hr.nul rfl
    have hy : ys = [] := List.eq_nil_of_length_eq_zero hr.len
    subst hy
    refine wpList_append_own_none hgd s x 22 ho base 5 i0 1 Tryz.underlying22 hi _ n _ hs hown hx ?_
    exact h v w (by simpa using hown) (World.grownBy.refl _ _)
  | some ad =>
    refine wpList_append_own w hgd s x 22 ho base 5 i0 (.int .u8 0) 1 1 Tryz.underlying22 hi hz0 hz1 hz2 rfl (by decide) _ n _ hs hown ad m c (ys.map (Value.int .u8)) hx (by simpa using hr.len) (hr.cellsOf ad rfl) (ints_oneCell _ _)
      (by unfold maxLen; omega) (by omega) hbase ?_
    intro v' w' h1 h2 h3
    exact h v' w' (by simpa using h1) h2

theorem own_rd {w : World} {base n : Nat} {v : Value} {xs : List Int} (h : w.ownsRow base 5 1 v n (xs.map (Value.int .u8))) (hb : ∀ x ∈ xs, 0 ≤ x ∧ x < 256) : ∃ ao c, v = .slice ao n c ∧ Rd w ao n c xs ∧ ∀ ad, ao = some ad → base ≤ ad.block := by
  have hl := h.1
  rcases h.2 with ⟨rfl, rfl⟩ | ⟨g, cap, cur, rfl, h1, h2⟩
  · have : xs = [] := List.eq_nil_of_length_eq_zero (by simpa using hl)
    subst this
    exact ⟨none, 0, rfl, Rd.nil w, fun ad had => by cases had⟩
  · exact ⟨_, cap, rfl, Rd.ofOwn h hb, fun ad had => by cases had; exact h1⟩

theorem own_keep {w w' : World} {base n : Nat} {v : Value} {xs : List Value} (h : w.ownsRow base 5 1 v n xs) (hb : Below w.heap.size w w') : w'.ownsRow base 5 1 v n xs :=
  ownsRow_fr (P := fun _ => False) h (Fr.ofBelow hb) (fun _ _ h => h)

/-- 'append(out, ys...)' as one step of a region that draws its order, out the call's own, ys nil or not. -/
theorem step_append_rd {w : World} {ops : Array Oper} {o : Oper} {a : Act} {K : Act → World → Prop} {Q : Exit → Act → World → Prop} {E : Prop} (hgd : o.guard = none) (s x : Operand)
    (ho : o.op = .call { callee := .builtin .append, args := #[s, x], argTypes := #[22, 22] })
    (base g n cap : Nat) (xs : List Int) (hs : a.eval s = .slice (some ⟨g, 0, none⟩) n cap) (hown : w.ownsRow base 5 1 (.slice (some ⟨g, 0, none⟩) n cap) n (xs.map (Value.int .u8)))
    (ao : Option Addr) (m c : Nat) (ys : List Int) (hx : a.eval x = .slice ao m c) (hr : Rd w ao m c ys) (hlim : n + m ≤ 140737488355328) (hbase : base ≤ w.heap.size) (nm : Nat) (hnm : nm = n + m) (zs : List Int) (hzs : zs = xs ++ ys)
    (h : ∀ g' cap' w', w'.ownsRow base 5 1 (.slice (some ⟨g', 0, none⟩) nm cap') nm (zs.map (Value.int .u8)) → w.grownBy w' (some g) → K (a.put o.dst (.slice (some ⟨g', 0, none⟩) nm cap')) w') :
    if Region.wanted o (yielded ops a.tmps) = true then Oper.wp Tryz.prog o a w K Q else E := by
  obtain ⟨i0, hi, hz0, hz1, hz2⟩ := info_parts Tryz.info5
  have hw : Region.wanted o (yielded ops a.tmps) = true := by simp [Region.wanted, hgd]
  rw [if_pos hw]
  subst hnm hzs
  cases ao with
  | none =>
    obtain ⟨rfl, rfl⟩ := hr.nul rfl
    have hy : ys = [] := List.eq_nil_of_length_eq_zero hr.len
    subst hy
    have hrun := run_append_owned_none (P := Tryz.prog) (w := w) base 22 o.type 5 i0 1 Tryz.underlying22 hi _ n _ hown
    unfold Oper.wp
    simp [execOp, ho, resolve, invoke, builtin, hs, hx, hrun, Result.andThen]
    exact h g cap w (by simpa using hown) (World.grownBy.refl _ _)
  | some ad =>
    refine wp_append_own w s x 22 ho base 5 i0 (.int .u8 0) 1 1 Tryz.underlying22 hi hz0 hz1 hz2 rfl (by decide) _ n _ hs hown ad m c (ys.map (Value.int .u8)) hx (by simpa using hr.len) (hr.cellsOf ad rfl) (ints_oneCell _ _)
      (by unfold maxLen; omega) (by omega) hbase ?_
    intro v' w' h1 h2 h3
    obtain ⟨g', cap', rfl⟩ : ∃ g' cap', v' = .slice (some ⟨g', 0, none⟩) (n + m) cap' := by
      rcases h1.2 with ⟨h', _⟩ | ⟨g', cap', cur, h', _⟩
      · rw [h3] at h'; cases h'.1
      · exact ⟨g', cap', h'⟩
    exact h g' cap' w' (by simpa using h1) h2

theorem Fr.ofGrown {w w' : World} {g : Nat} (h : w.grownBy w' (some g)) : Fr (fun k => k = g) w w' :=
  ⟨h.os, h.tape, h.output, h.size, fun k hk hn => h.block k hk (fun e => hn (by cases e; rfl))⟩

theorem rowIs_rep (w : World) (v : Value) (n : Nat) (t : TypeId) : (w.alloc (.cells (Array.replicate n v) t)).rowIs w.heap.size t n (fun _ => v) := by
  have h := World.rowIs_alloc w (Array.replicate n v) t (fun _ => v) (fun i hi => by simp at hi; simp [hi])
  simpa using h

theorem cell_ne {w : World} {b i j : Nat} (v : Value) (h : i ≠ j) : (w.setCell ⟨b, i, none⟩ v).cell? ⟨b, j, none⟩ = w.cell? ⟨b, j, none⟩ := by
  unfold World.setCell World.cell?
  simp only [Array.getElem?_modify]
  by_cases hb : (w.heap[b]?).isSome
  · obtain ⟨o, ho⟩ := Option.isSome_iff_exists.1 hb
    cases o <;> simp [ho, h]
  · simp at hb
    simp [hb]

theorem getD_byt (bs : List Int) (hb : ∀ x ∈ bs, 0 ≤ x ∧ x < 256) (i : Nat) : 0 ≤ bs.getD i 0 ∧ bs.getD i 0 < 256 := by
  by_cases h : i < bs.length
  · simp only [List.getD, List.getElem?_eq_getElem h, Option.getD_some]
    exact hb _ (List.getElem_mem h)
  · simp [List.getD, List.getElem?_eq_none (Nat.not_lt.1 h)]

theorem freeze_cell (w : World) (b : Addr) (a : Addr) : (w.freeze b 1).cell? a = w.cell? a := by
  unfold World.freeze
  rw [if_neg (by omega)]
  unfold World.cell?
  simp only [Array.getElem?_modify]
  by_cases h : b.block = a.block
  · rw [if_pos h]
    cases ho : w.heap[a.block]? with
    | none => simp
    | some o => cases o <;> simp
  · rw [if_neg h]

theorem freeze_fr (w : World) (b : Addr) : Fr (fun k => k = b.block) w (w.freeze b 1) := by
  unfold World.freeze
  rw [if_neg (by omega)]
  exact ⟨rfl, rfl, rfl, by simp, fun k _ hn => by
    rw [Array.getElem?_modify, if_neg (fun e => hn e.symm)]⟩

theorem conv22 (w : World) (a : Addr) (n c : Nat) : ∃ w', (convert 22 22 (.slice (some a) n c)).run Tryz.prog w = .ok (.slice (some a) n c) w' ∧ Fr (fun k => k = a.block) w w' ∧ ∀ p, w'.cell? p = w.cell? p := by
  cases h : w.shape? a.block with
  | none => exact ⟨w, by simp [convert, run_underlying Tryz.underlying22, run_underlying Tryz.underlying5, markStringish, h], Fr.refl _ _, fun _ => rfl⟩
  | some x => exact ⟨w.freeze ⟨a.block, x.2, none⟩ 1, by simp [convert, run_underlying Tryz.underlying22, run_underlying Tryz.underlying5, markStringish, h], freeze_fr w ⟨a.block, x.2, none⟩, freeze_cell w ⟨a.block, x.2, none⟩⟩

theorem wpList_conv {ops : Array Oper} {rest : List Oper} {op : Oper} {a : Act} {w : World} {Q : Exit → Act → World → Prop} (hgd : op.guard = none) (x : Operand) (ho : op.op = .convert 22 22 x)
    (ad : Addr) (n c : Nat) (hx : a.eval x = .slice (some ad) n c)
    (hk : ∀ w', Fr (fun k => k = ad.block) w w' → (∀ p, w'.cell? p = w.cell? p) → wpList Tryz.prog ops Q rest (a.put op.dst (.slice (some ad) n c)) w') : wpList Tryz.prog ops Q (op :: rest) a w := by
  refine wpList_plain hgd fun K hK => ?_
  obtain ⟨w', hrun, hf, hc⟩ := conv22 w ad n c
  unfold Oper.wp
  simp [execOp, ho, hx, hrun, Result.andThen]
  exact hK _ _ (hk w' hf hc)

theorem Rd.same {w w' : World} {ao : Option Addr} {n c : Nat} {xs : List Int} (h : Rd w ao n c xs) (hc : ∀ p, w'.cell? p = w.cell? p) : Rd w' ao n c xs :=
  ⟨h.len, h.le, h.nul, fun ad had j hj => by rw [hc]; exact h.cells ad had j hj, h.byt⟩

theorem new_below (w : World) (o : Obj) : Below w.heap.size w (w.alloc o) := (Below.refl _ _).alloc (Nat.le_refl _) _

theorem new_fr {w w' : World} {o : Obj} (f : Fr (fun k => k = w.heap.size) (w.alloc o) w') : Below w.heap.size w w' :=
  (new_below w o).trans (f.below _ (by simp) (fun i hi e => by omega))

end Go.Proofs.YtojgablpjdlegaaGreatDoor
