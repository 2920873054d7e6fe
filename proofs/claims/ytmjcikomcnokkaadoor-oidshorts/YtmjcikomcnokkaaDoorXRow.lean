/- Rows of the document's names. -/
import Derived.Test.YtmjcikomcnokkaaDoorWFan
import Derived.Test.YtmjcikomcnokkaaDoorXLess
namespace Go.Proofs.YtmjcikomcnokkaaDoor
open Go.RowKit

/-- A row of the document's names in a block. -/
structure Rx (w : World) (b N : Nat) (d : Array (List Int)) : Prop where
  row : ∃ f, w.rowIs b 22 N f ∧ ∀ i, i < d.size → ∀ j, j < 20 → f (i * 20 + j) = cl d[i]! j
  le : d.size * 20 ≤ N
  ids : ∀ i, i < d.size → IsId d[i]!

theorem Rx.fr {P : Nat → Prop} {w w' : World} {b N : Nat} {d : Array (List Int)} (h : Rx w b N d) (hf : Fr P w w') (hb : ¬ P b) : Rx w' b N d := by
  obtain ⟨f, h1, h2⟩ := h.row
  exact ⟨⟨f, rowIs_fr h1 hf hb, h2⟩, h.le, h.ids⟩

theorem Rx.keep {w w' : World} {b N : Nat} {d : Array (List Int)} (h : Rx w b N d) (hf : Below w.heap.size w w') : Rx w' b N d := h.fr (P := fun _ => False) (Fr.ofBelow hf) (fun h => h)

theorem Rx.lt {w : World} {b N : Nat} {d : Array (List Int)} (h : Rx w b N d) : b < w.heap.size := by
  obtain ⟨f, h1, h2⟩ := h.row
  exact h1.lt

theorem Rx.load {w : World} {b N : Nat} {d : Array (List Int)} (h : Rx w b N d) (i : Nat) (hi : i < d.size) : (loadVar 22 ⟨b, i * 20, none⟩).run Tryd.prog w = .ok (idv d[i]!) w := by
  obtain ⟨f, h1, h2⟩ := h.row
  have hle := h.le
  rw [load_mid (P := Tryd.prog) 22 _ h1 20 (by omega) Tryd.underlying22 rfl size22, row_congr _ (cl d[i]!) 20 (fun j hj => h2 i hi j hj)]

/-- A slice of the document's names that the call has made. -/
structure Dn (B : Nat) (w : World) (v : Value) (d : Array (List Int)) : Prop where
  own : w.ownsRow B 22 20 v d.size (fl d)
  ids : ∀ i, i < d.size → IsId d[i]!

theorem Dn.keep {B : Nat} {w w' : World} {v : Value} {d : Array (List Int)} (h : Dn B w v d) (hf : Below w.heap.size w w') : Dn B w' v d :=
  ⟨ownsRow_fr (P := fun _ => False) h.own (Fr.ofBelow hf) (fun _ _ h => h), h.ids⟩

theorem Dn.row {B : Nat} {w : World} {v : Value} {d : Array (List Int)} (h : Dn B w v d) (h0 : 0 < d.size) : ∃ b c, v = .slice (some ⟨b, 0, none⟩) d.size c ∧ d.size ≤ c ∧ B ≤ b ∧ Rx w b (c * 20) d := by
  rcases h.own.2 with ⟨_, e⟩ | ⟨g, cap, cur, e, hg, hh, hle, hmx, hsz, htk⟩
  · omega
  · refine ⟨g, cap, e, hle, hg, ⟨fun j => cur.toList.getD j undef, ⟨cur, hh, hsz, fun i hi => ?_⟩, fun i hi j hj => ?_⟩, by omega, h.ids⟩
    · show cur[i]? = some (cur.toList.getD i undef)
      rw [List.getD]
      simp [hsz, hi]
    · have := fl_get d i j hi hj
      rw [← htk] at this
      rw [List.getElem?_take, if_pos (by omega)] at this
      show cur.toList.getD (i * 20 + j) undef = _
      rw [List.getD, this]
      rfl

theorem Dn.shape {B : Nat} {w : World} {v : Value} {d : Array (List Int)} (h : Dn B w v d) : ∃ ao c, v = .slice ao d.size c := by
  rcases h.own.2 with ⟨rfl, e⟩ | ⟨g, cap, cur, e, _⟩
  · exact ⟨none, 0, by rw [e]⟩
  · exact ⟨_, _, e⟩

theorem dn_nil (B : Nat) (w : World) : Dn B w (.slice none 0 0) #[] := ⟨World.ownsRow_nil _ _ _ _, fun i hi => by simp at hi⟩

theorem Tryd.info22 : (Tryd.prog.info? 22).map (fun i => (i.zero, i.size, i.bytes)) = some (some (.agg zcs), 20, 20) := by kernel_rfl

theorem run_bs1 (x : List Int) (w : World) : (Instr.buildSlice 35 1 #[(0, idv x)]).run Tryd.prog w = .ok (.slice (some ⟨w.heap.size, 0, none⟩) 1 1) (w.alloc (.cells (vals (cl x) 20).toArray 22)) := by kernel_rfl

theorem run_bs0 (w : World) : (Instr.buildSlice 35 0 #[]).run Tryd.prog w = .ok (.slice (some ⟨w.heap.size, 0, none⟩) 0 0) (w.alloc (.cells #[] 22)) := by kernel_rfl

theorem wpList_bs1 {ops : Array Oper} {rest : List Oper} {op : Oper} {a : Act} {w : World} {Q : Exit → Act → World → Prop} (hgd : op.guard = none) (y : Operand) (ho : op.op = .buildSlice 35 1 #[(0, y)]) (x : List Int) (hy : a.eval y = idv x)
    (hk : ∀ w', w' = w.alloc (.cells (vals (cl x) 20).toArray 22) → wpList Tryd.prog ops Q rest (a.put op.dst (.slice (some ⟨w.heap.size, 0, none⟩) 1 1)) w') : wpList Tryd.prog ops Q (op :: rest) a w := by
  refine wpList_plain hgd fun K hK => ?_
  have h := run_bs1 x w
  unfold Oper.wp
  simp only [execOp, ho, List.map_toArray, List.map_cons, List.map_nil, hy, Sem.run_bind, h, Result.andThen_ok, Sem.run_pure]
  exact hK _ _ (hk _ rfl)

theorem wpList_bs0 {ops : Array Oper} {rest : List Oper} {op : Oper} {a : Act} {w : World} {Q : Exit → Act → World → Prop} (hgd : op.guard = none) (ho : op.op = .buildSlice 35 0 #[])
    (hk : ∀ w', w' = w.alloc (.cells #[] 22) → wpList Tryd.prog ops Q rest (a.put op.dst (.slice (some ⟨w.heap.size, 0, none⟩) 0 0)) w') : wpList Tryd.prog ops Q (op :: rest) a w := by
  refine wpList_plain hgd fun K hK => ?_
  have h := run_bs0 w
  unfold Oper.wp
  simp only [execOp, ho, List.map_toArray, List.map_nil, Sem.run_bind, h, Result.andThen_ok, Sem.run_pure]
  exact hK _ _ (hk _ rfl)

theorem fl_push (d : Array (List Int)) (x : List Int) : fl (d.push x) = fl d ++ vals (cl x) 20 := by
  unfold fl
  rw [Array.toList_push, List.flatMap_append]
  simp

theorem push_get (d : Array (List Int)) (x : List Int) (i : Nat) (hi : i < d.size + 1) : (d.push x)[i]! = if i < d.size then d[i]! else x := by
  rw [getElem!_pos _ i (by simp; exact hi), Array.getElem_push]
  by_cases h : i < d.size
  · simp [h]
  · simp [h]

/-- One name more is put behind a row. -/
theorem wpList_app1 {ops : Array Oper} {rest : List Oper} {o : Oper} {a : Act} {w w0 : World} {Q : Exit → Act → World → Prop} (hgd : o.guard = none) (s y : Operand)
    (ho : o.op = .call { callee := .builtin .append, args := #[s, y], argTypes := #[35, 35] }) (B : Nat) (v : Value) (d : Array (List Int)) (x : List Int) (hx : IsId x) (hs : a.eval s = v) (hy : a.eval y = .slice (some ⟨w0.heap.size, 0, none⟩) 1 1)
    (hw : w = w0.alloc (.cells (vals (cl x) 20).toArray 22)) (h : Dn B w0 v d) (hlim : d.size < 100000) (hB : B ≤ w0.heap.size)
    (hk : ∀ v' w', Dn B w' v' (d.push x) → Below B w0 w' → wpList Tryd.prog ops Q rest (a.put o.dst v') w') : wpList Tryd.prog ops Q (o :: rest) a w := by
  obtain ⟨i0, hi, hz0, hz1, hz2⟩ := info_parts Tryd.info22
  have hb : Below w0.heap.size w0 w := by rw [hw]; exact new_below _ _
  have h' := h.keep hb
  have hr := rowIs_vals w0 (cl x) 20 22
  rw [← hw] at hr
  refine wpList_append_own w hgd s y 35 ho B 22 i0 (.agg zcs) 20 20 Tryd.underlying35 hi hz0 hz1 hz2 rfl (by decide) v d.size (fl d) hs h'.own ⟨w0.heap.size, 0, none⟩ 1 1 (vals (cl x) 20) hy (by rw [vals_len]) (fun j u hu => ?_) (vals_one20 x) (by unfold maxLen; omega) (by omega) (by have := hb.size; omega) ?_
  · have hj : j < 20 := by
      have := (List.getElem?_eq_some_iff.1 hu).1
      rwa [vals_len] at this
    rw [vals_get _ _ _ hj] at hu
    cases hu
    have := hr.cell (i := j) hj
    rw [Addr.add_lit, Nat.zero_add]
    exact this
  · intro v' w' g1 g2 g3
    refine hk v' w' ⟨by rw [fl_push, Array.size_push]; exact g1, fun i hi => ?_⟩ ?_
    · rw [Array.size_push] at hi
      rw [push_get d x i hi]
      split
      · rename_i e; exact h.ids i e
      · exact hx
    · refine ((hb.mono hB).trans ((Below.refl _ w).grown g2 (by have := hb.size; omega) (fun k hk => ?_)))
      rcases h.own.2 with ⟨e, _⟩ | ⟨g, cap, cur, e, hg, _⟩
      · rw [e] at hk; cases hk
      · rw [e] at hk; cases hk; exact hg

end Go.Proofs.YtmjcikomcnokkaaDoor
