/- The document's Put. -/
import Derived.Test.YtmjcikomcnokkaaDoorXApp
namespace Go.Proofs.YtmjcikomcnokkaaDoor
open Go.RowKit

theorem step_bs0 {ops : Array Oper} {op : Oper} {a : Act} {w : World} {K : Act → World → Prop} {Q : Exit → Act → World → Prop} {E : Prop} (hgd : op.guard = none) (ho : op.op = .buildSlice 35 0 #[]) (B : Nat) (hB : B ≤ w.heap.size)
    (hk : ∀ w', Dn B w' (.slice (some ⟨w.heap.size, 0, none⟩) 0 0) #[] → Below w.heap.size w w' → w'.heap.size = w.heap.size + 1 → K (a.put op.dst (.slice (some ⟨w.heap.size, 0, none⟩) 0 0)) w') : if Region.wanted op (yielded ops a.tmps) = true then Oper.wp Tryd.prog op a w K Q else E := by
  have hw : Region.wanted op (yielded ops a.tmps) = true := by simp [Region.wanted, hgd]
  rw [if_pos hw]
  have h := run_bs0 w
  unfold Oper.wp
  simp only [execOp, ho, List.map_toArray, List.map_nil, Sem.run_bind, h, Result.andThen_ok, Sem.run_pure]
  refine hk _ ⟨World.ownsRow_lit (base := B) (e := 22) (size := 20) w #[] 0 hB (by unfold maxLen; omega) rfl, fun i hi => by simp at hi⟩ (new_below _ _) (by simp)

theorem step_bs1 {ops : Array Oper} {op : Oper} {a : Act} {w : World} {K : Act → World → Prop} {Q : Exit → Act → World → Prop} {E : Prop} (hgd : op.guard = none) (y : Operand) (ho : op.op = .buildSlice 35 1 #[(0, y)]) (x : List Int) (hy : a.eval y = idv x) (hx : IsId x)
    (hk : ∀ w', Is w' (.slice (some ⟨w.heap.size, 0, none⟩) 1 1) #[x] → Below w.heap.size w w' → w'.heap.size = w.heap.size + 1 → K (a.put op.dst (.slice (some ⟨w.heap.size, 0, none⟩) 1 1)) w') : if Region.wanted op (yielded ops a.tmps) = true then Oper.wp Tryd.prog op a w K Q else E := by
  have hw : Region.wanted op (yielded ops a.tmps) = true := by simp [Region.wanted, hgd]
  rw [if_pos hw]
  have h := run_bs1 x w
  unfold Oper.wp
  simp only [execOp, ho, List.map_toArray, List.map_cons, List.map_nil, hy, Sem.run_bind, h, Result.andThen_ok, Sem.run_pure]
  have hr : Rx (w.alloc (.cells (vals (cl x) 20).toArray 22)) w.heap.size 20 #[x] := ⟨⟨cl x, rowIs_vals w (cl x) 20 22, fun i hi j hj => by
    have : i < 1 := hi
    obtain rfl : i = 0 := by omega
    rw [Nat.zero_mul, Nat.zero_add]; rfl⟩, Nat.le_refl _, fun i hi => by
    have : i < 1 := hi
    obtain rfl : i = 0 := by omega
    exact hx⟩
  exact hk _ (hr.is 1 (Nat.le_refl _)) (new_below _ _) (by simp)

theorem step_appD {ops : Array Oper} {o : Oper} {a : Act} {w : World} {K : Act → World → Prop} {Q : Exit → Act → World → Prop} {E : Prop} (hgd : o.guard = none) (s y : Operand)
    (ho : o.op = .call { callee := .builtin .append, args := #[s, y], argTypes := #[35, 35] }) (B : Nat) (v : Value) (d e : Array (List Int)) (hs : a.eval s = v) (h : Dn B w v d) (ao : Option Addr) (m c : Nat) (hy : a.eval y = .slice ao m c) (he : Is w (.slice ao m c) e)
    (hlim : d.size + m < 200000) (hB : B ≤ w.heap.size) (hk : ∀ v' w', Dn B w' v' (d ++ e) → w.grownBy w' v.ownBlock → K (a.put o.dst v') w') : if Region.wanted o (yielded ops a.tmps) = true then Oper.wp Tryd.prog o a w K Q else E := by
  have hw : Region.wanted o (yielded ops a.tmps) = true := by simp [Region.wanted, hgd]
  rw [if_pos hw]
  exact wp_appD s y ho B v d e hs h ao m c hy he hlim hB hk

theorem dn_grown {B : Nat} {w w' : World} {v : Value} {d : Array (List Int)} (h : Dn B w v d) (hg : w.grownBy w' v.ownBlock) (hB : B ≤ w.heap.size) : Below B w w' := by
  refine (Below.refl _ w).grown hg hB (fun k hk => ?_)
  · rcases h.own.2 with ⟨e, _⟩ | ⟨g, cap, cur, e, hg, _⟩
    · rw [e] at hk; cases hk
    · rw [e] at hk; cases hk; exact hg

theorem Dn.weak {B B' : Nat} {w : World} {v : Value} {d : Array (List Int)} (h : Dn B w v d) (hB : B' ≤ B) : Dn B' w v d := by
  refine ⟨⟨h.own.1, ?_⟩, h.ids⟩
  rcases h.own.2 with h1 | ⟨g, cap, cur, e, hg, h2⟩
  · exact .inl h1
  · exact .inr ⟨g, cap, cur, e, Nat.le_trans hB hg, h2⟩

theorem wpList_sl35 {ops : Array Oper} {rest : List Oper} {op : Oper} {a : Act} {w : World} {Q : Exit → Act → World → Prop} (hgd : op.guard = none) (x : Operand) (lo hi : Option Operand) (ho : op.op = .slice 35 x lo hi none) (v : Value) (hx : a.eval x = v) (lo' hi' : Option Value) (hlo : lo.map a.eval = lo') (hhi : hi.map a.eval = hi') (u : Value)
    (h : ∀ W, (Instr.sliceAt 35 v lo' hi' none).run Tryd.prog W = .ok u W) (hk : wpList Tryd.prog ops Q rest (a.put op.dst u) w) : wpList Tryd.prog ops Q (op :: rest) a w := by
  refine wpList_plain hgd fun K hK => ?_
  unfold Oper.wp
  simp only [execOp, ho, hx, hlo, hhi, Option.map_none, Sem.run_bind, h w, Result.andThen_ok, Sem.run_pure]
  exact hK _ _ hk

theorem wpList_appD {ops : Array Oper} {rest : List Oper} {o : Oper} {a : Act} {w : World} {Q : Exit → Act → World → Prop} (hgd : o.guard = none) (s y : Operand)
    (ho : o.op = .call { callee := .builtin .append, args := #[s, y], argTypes := #[35, 35] }) (B : Nat) (v : Value) (d e : Array (List Int)) (hs : a.eval s = v) (h : Dn B w v d) (ao : Option Addr) (m c : Nat) (hy : a.eval y = .slice ao m c) (he : Is w (.slice ao m c) e)
    (hlim : d.size + m < 200000) (hB : B ≤ w.heap.size) (hk : ∀ v' w', Dn B w' v' (d ++ e) → w.grownBy w' v.ownBlock → wpList Tryd.prog ops Q rest (a.put o.dst v') w') : wpList Tryd.prog ops Q (o :: rest) a w :=
  wpList_plain hgd fun _ hK => wp_appD s y ho B v d e hs h ao m c hy he hlim hB fun v' w' g1 g2 => hK _ _ (hk v' w' g1 g2)

end Go.Proofs.YtmjcikomcnokkaaDoor
