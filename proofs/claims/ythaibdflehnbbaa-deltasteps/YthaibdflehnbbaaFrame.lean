/- Frames: which blocks a call may turn; whole rows by value. -/
import Derived.Test.YthaibdflehnbbaaProg
import Derived.Test.YthaibdflehnbbaaBase
import Derived.Test.YthaibdflehnbbaaBits
import Derived.Deep.MidRow
import Derived.Deep.RegionWith
import Derived.Deep.DeepCutAuto
import Derived.Deep.QuietTactic
import Derived.Deep.WholeRow
import Derived.Deep.OwnRows
import Derived.Deep.AppendLies
import Derived.Deep.RegionLaw
import Derived.Deep.RegionHeld3
namespace Go.Proofs.Ythaibdflehnbbaa
open Go.RowKit

/-- Old blocks that are not in P are as they were. -/
structure Fr (P : Nat → Prop) (w w' : World) : Prop where
  os : w'.os = w.os
  tape : w'.tape = w.tape
  output : w'.output = w.output
  size : w.heap.size ≤ w'.heap.size
  block : ∀ k, k < w.heap.size → ¬ P k → w'.heap[k]? = w.heap[k]?

theorem Fr.refl (P : Nat → Prop) (w : World) : Fr P w w := ⟨rfl, rfl, rfl, Nat.le_refl _, fun _ _ _ => rfl⟩

theorem Fr.trans {P P' : Nat → Prop} {a b c : World} (h : Fr P a b) (k : Fr P' b c) (hP : ∀ i, i < a.heap.size → P' i → P i) : Fr P a c :=
  ⟨k.os.trans h.os, k.tape.trans h.tape, k.output.trans h.output, Nat.le_trans h.size k.size, fun i hi hn => (k.block i (Nat.lt_of_lt_of_le hi h.size) (fun hp => hn (hP i hi hp))).trans (h.block i hi hn)⟩

theorem Fr.ofBelow {P : Nat → Prop} {a b : World} (h : Below a.heap.size a b) : Fr P a b := ⟨h.os, h.tape, h.output, h.size, fun i hi _ => h.block i hi⟩

theorem Fr.below {P : Nat → Prop} {a b : World} (h : Fr P a b) (B : Nat) (hB : B ≤ a.heap.size) (hP : ∀ i, i < B → ¬ P i) : Below B a b :=
  ⟨h.os, h.tape, h.output, h.size, fun i hi => h.block i (by omega) (hP i hi)⟩

theorem Fr.drew {P : Nat → Prop} {a b : World} (h : Fr P a b) : Fr P a b.drew := ⟨h.os, h.tape, h.output, h.size, h.block⟩

theorem Fr.alloc {P : Nat → Prop} {a b : World} (h : Fr P a b) (o : Obj) : Fr P a (b.alloc o) :=
  h.trans (P' := P) (Fr.ofBelow ((Below.refl _ _).alloc (Nat.le_refl _) _)) (fun _ _ x => x)

theorem Fr.setCell {P : Nat → Prop} {a b : World} (h : Fr P a b) {p : Addr} (hp : P p.block) (u : Value) : Fr P a (b.setCell p u) :=
  h.trans (P' := P) ⟨rfl, rfl, rfl, by simp [World.setCell], fun k _ hn => Below.heap_setCell _ _ _ _ (fun e => hn (e ▸ hp))⟩ (fun _ _ x => x)

theorem Fr.grown {P : Nat → Prop} {a b c : World} {row : Option Nat} (h : Fr P a b) (hg : b.grownBy c row) (hr : ∀ k, k < a.heap.size → row = some k → P k) : Fr P a c :=
  ⟨hg.os.trans h.os, hg.tape.trans h.tape, hg.output.trans h.output, Nat.le_trans h.size hg.size,
    fun i hi hn => (hg.block i (Nat.lt_of_lt_of_le hi h.size) (fun e => hn (hr i hi e.symm))).trans (h.block i hi hn)⟩

theorem rowIs_fr {P : Nat → Prop} {w w' : World} {b t n : Nat} {f : Nat → Value} (h : w.rowIs b t n f) (hf : Fr P w w') (hb : ¬ P b) : w'.rowIs b t n f :=
  h.of_block (hf.block b h.lt hb)

theorem ownsRow_fr {P : Nat → Prop} {w w' : World} {base e s n : Nat} {v : Value} {xs : List Value} (h : w.ownsRow base e s v n xs) (hf : Fr P w w') (hb : ∀ k, v.ownBlock = some k → ¬ P k) : w'.ownsRow base e s v n xs := by
  refine ⟨h.1, ?_⟩
  have hlt := h.lt
  rcases h.2 with h' | ⟨g, cap, cur, rfl, h1, h2, h3⟩
  · exact .inl h'
  · exact .inr ⟨g, cap, cur, rfl, h1, (hf.block g (hlt g rfl).2 (hb g rfl)).trans h2, h3⟩

theorem Rd.fr {P : Nat → Prop} {w w' : World} {ao : Option Addr} {n c : Nat} {xs : List Int} (h : Rd w ao n c xs) (hf : Fr P w w') (hs : ∀ ad, ao = some ad → 0 < n → ¬ P ad.block) : Rd w' ao n c xs :=
  ⟨h.len, h.le, h.nul, fun ad had j hj => by
    have hc := h.cells ad had j hj
    have hbk : (ad.add j).block = ad.block := by unfold Addr.add; split <;> rfl
    have hlt := World.block_lt_of_cell? w _ hc
    rw [World.cell?_of_block (hf.block _ hlt (by rw [hbk]; exact hs ad had (by omega)))]
    exact hc, h.byt⟩

/-- The cells of a row of m, as a value has them. -/
def vals (g : Nat → Value) (m : Nat) : List Value := (List.range m).map g

/-- A row of m cells, by value. -/
abbrev row (g : Nat → Value) (m : Nat) : Value := .agg (vals g m).toArray

theorem vals_len (g : Nat → Value) (m : Nat) : (vals g m).length = m := by simp [vals]

theorem vals_get (g : Nat → Value) (m j : Nat) (h : j < m) : (vals g m)[j]? = some (g j) := by simp [vals, h]

theorem vals_size (g : Nat → Value) (m : Nat) : (vals g m).toArray.size = m := by simp [vals]

theorem vals_congr (g h : Nat → Value) (m : Nat) (e : ∀ i, i < m → g i = h i) : vals g m = vals h m := by
  unfold vals
  exact List.map_congr_left (fun i hi => e i (by simpa using hi))

theorem row_congr (g h : Nat → Value) (m : Nat) (e : ∀ i, i < m → g i = h i) : row g m = row h m := by unfold row; rw [vals_congr g h m e]

theorem rowIs_vals (w : World) (g : Nat → Value) (m : Nat) (t : TypeId) : (w.alloc (.cells (vals g m).toArray t)).rowIs w.heap.size t m g := by
  have h := World.rowIs_alloc w (vals g m).toArray t g (fun i hi => by rw [vals_size] at hi; simpa using vals_get g m i hi)
  rwa [vals_size] at h

theorem rangeAt_row {w : World} {b t n : Nat} {f : Nat → Value} (h : w.rowIs b t n f) (o m : Nat) (hm : o + m ≤ n) : w.rangeAt b o (vals (fun j => f (o + j)) m) := by
  intro j v hv
  have hj : j < m := by
    have := (List.getElem?_eq_some_iff.1 hv).1
    rwa [vals_len] at this
  rw [vals_get _ _ _ hj] at hv
  cases hv
  exact h.cell (by omega)

section
variable {P : Program}

theorem load_mid (ty : TypeId) (d : TypeDesc) {b o t n : Nat} {f : Nat → Value} {w : World} (h : w.rowIs b t n f) (m : Nat) (hm : o + m ≤ n)
    (hu : P.underlying ty = some d) (hd : d.isRow = true) (hi : (P.info? ty).map (·.size) = some m) : (loadVar ty ⟨b, o, none⟩).run P w = .ok (row (fun j => f (o + j)) m) w :=
  run_loadVar_mid w b o ty _ d (rangeAt_row h o m hm) hu hd (by rw [vals_len]; exact hi)

theorem load_all (ty : TypeId) (d : TypeDesc) {b t n : Nat} {f : Nat → Value} {w : World} (h : w.rowIs b t n f)
    (hu : P.underlying ty = some d) (hd : d.isRow = true) (hi : (P.info? ty).map (·.size) = some n) : (loadVar ty ⟨b, 0, none⟩).run P w = .ok (row f n) w := by
  have := load_mid (P := P) (o := 0) ty d h n (by omega) hu hd hi
  simpa using this

theorem wpList_ld {ops : Array Oper} {rest : List Oper} {op : Oper} {a : Act} {w : World} {Q : Exit → Act → World → Prop} (hgd : op.guard = none) (ty : TypeId) (x : Operand) (ho : op.op = .load ty x)
    (b o : Nat) (hx : a.eval x = .pointer (some ⟨b, o, none⟩)) (d : TypeDesc) {t n : Nat} {f : Nat → Value} (h : w.rowIs b t n f) (m : Nat) (hm : o + m ≤ n)
    (hu : P.underlying ty = some d) (hd : d.isRow = true) (hi : (P.info? ty).map (·.size) = some m)
    (hk : wpList P ops Q rest (a.put op.dst (row (fun j => f (o + j)) m)) w) : wpList P ops Q (op :: rest) a w :=
  wpList_load_mid hgd ty x ho b o hx _ d (rangeAt_row h o m hm) hu hd (by rw [vals_len]; exact hi) hk

theorem wpList_ld0 {ops : Array Oper} {rest : List Oper} {op : Oper} {a : Act} {w : World} {Q : Exit → Act → World → Prop} (hgd : op.guard = none) (ty : TypeId) (x : Operand) (ho : op.op = .load ty x)
    (b : Nat) (hx : a.eval x = .pointer (some ⟨b, 0, none⟩)) (d : TypeDesc) {t n : Nat} {f : Nat → Value} (h : w.rowIs b t n f) (m : Nat) (hm : m ≤ n)
    (hu : P.underlying ty = some d) (hd : d.isRow = true) (hi : (P.info? ty).map (·.size) = some m)
    (hk : wpList P ops Q rest (a.put op.dst (row f m)) w) : wpList P ops Q (op :: rest) a w :=
  wpList_ld hgd ty x ho b 0 hx d h m (by omega) hu hd hi (by simpa using hk)

theorem step_ld {ops : Array Oper} {op : Oper} {a : Act} {w : World} {K : Act → World → Prop} {Q : Exit → Act → World → Prop} {E : Prop} (hgd : op.guard = none) (ty : TypeId) (x : Operand) (ho : op.op = .load ty x)
    (b o : Nat) (hx : a.eval x = .pointer (some ⟨b, o, none⟩)) (d : TypeDesc) {t n : Nat} {f : Nat → Value} (h : w.rowIs b t n f) (m : Nat) (hm : o + m ≤ n)
    (hu : P.underlying ty = some d) (hd : d.isRow = true) (hi : (P.info? ty).map (·.size) = some m)
    (hk : K (a.put op.dst (row (fun j => f (o + j)) m)) w) : if Region.wanted op (yielded ops a.tmps) = true then Oper.wp P op a w K Q else E := by
  have hw : Region.wanted op (yielded ops a.tmps) = true := by simp [Region.wanted, hgd]
  rw [if_pos hw]
  exact wp_load_mid ty x ho b o hx _ d (rangeAt_row h o m hm) hu hd (by rw [vals_len]; exact hi) hk

theorem rowIs_setRow {w : World} {b t n : Nat} {f : Nat → Value} (h : w.rowIs b t n f) (g : Nat → Value) : (w.setRow b (vals g n).toArray).rowIs b t n g := by
  obtain ⟨c, hb, hn, hc⟩ := h
  refine ⟨(vals g n).toArray, setRow_heap w b c _ t _ hb, vals_size _ _, fun i hi => ?_⟩
  simpa using vals_get g n i hi

theorem Fr.setRow {Q : Nat → Prop} {a w : World} (h : Fr Q a w) {b : Nat} (hb : Q b) (cs : Array Value) : Fr Q a (w.setRow b cs) :=
  h.trans (P' := Q) ⟨rfl, rfl, rfl, by simp [World.setRow], fun k _ hn => setRow_other w b k cs (fun e => hn (e ▸ hb))⟩ (fun _ _ x => x)

theorem vals_one (g : Nat → Value) (m : Nat) (h : ∀ j, (g j).oneCell' = true) : (vals g m).toArray.all (·.oneCell') = true :=
  all_oneCell_toArray (fun v hv => by
    unfold vals at hv
    obtain ⟨j, _, rfl⟩ := List.mem_map.1 hv
    exact h j)

theorem wpList_st {ops : Array Oper} {rest : List Oper} {op : Oper} {a : Act} {w : World} {Q : Exit → Act → World → Prop} (hgd : op.guard = none) (ty : TypeId) (x y : Operand) (ho : op.op = .store ty x y)
    (b : Nat) (hx : a.eval x = .pointer (some ⟨b, 0, none⟩)) (g : Nat → Value) {t n : Nat} {f : Nat → Value} (hy : a.eval y = row g n) (h : w.rowIs b t n f)
    (hi : (P.info? ty).map (·.size) = some n) (h1 : ∀ j, (g j).oneCell' = true)
    (hk : ∀ w', w'.rowIs b t n g → Fr (fun k => k = b) w w' → wpList P ops Q rest (a.put op.dst undef) w') : wpList P ops Q (op :: rest) a w := by
  have hr := rowIs_setRow h g
  have hf := (Fr.refl (fun k => k = b) w).setRow rfl (vals g n).toArray
  obtain ⟨c, hb, hn, hc⟩ := h
  exact wpList_store_row hgd ty x y ho b (vals g n).toArray hx hy t c hb (by rw [vals_size]; exact hi) (by rw [vals_size]; exact hn) (vals_one g n h1) (hk _ hr hf)

theorem run_index_row (ty e : TypeId) (n : Nat) (kk : IntKind) (g : Nat → Value) (i : Nat) (hi : i < n) (hu : P.underlying ty = some (.array n e)) (he : ∀ w, (isAgg e).run P w = .ok false w) (hs : ∀ w, (sizeOf e).run P w = .ok 1 w) (w : World) :
    (Instr.index ty (row g n) (.int kk i)).run P w = .ok (g i) w := by
  have hg := vals_get g n i hi
  simp [Instr.index, asIntOf, run_underlying hu, part, he, hs, hi, hg]

theorem rowIs_block {w : World} {b t n : Nat} {f : Nat → Value} (h : w.rowIs b t n f) : w.heap[b]? = some (.cells (vals f n).toArray t (0, 0)) := by
  obtain ⟨c, hb, hn, hc⟩ := h
  rw [hb]
  congr 2
  apply Array.ext_getElem?
  intro i
  by_cases hi : i < n
  · rw [hc i hi]
    simpa using (vals_get f n i hi).symm
  · rw [Array.getElem?_eq_none (by omega), Array.getElem?_eq_none (by rw [vals_size]; omega)]

theorem results_row {fn : Func} {p : Tmp} {ty : TypeId} (h : fn.results = #[.cell p ty]) (tmps : Array Value) {w : World} {b t n : Nat} {f : Nat → Value} {d : TypeDesc} (hp : tmps.getD p undef = .pointer (some ⟨b, 0, none⟩)) (hr : w.rowIs b t n f)
    (hu : P.underlying ty = some d) (hd : d.isRow = true) (hi : (P.info? ty).map (·.size) = some n) : (results fn tmps).run P w = .ok (row f n) w :=
  results_cell_row h tmps w b t _ (0, 0) d hp (rowIs_block hr) hu (by cases d <;> first | rfl | cases hd) (by rw [vals_size]; exact hi)

end

end Go.Proofs.Ythaibdflehnbbaa
