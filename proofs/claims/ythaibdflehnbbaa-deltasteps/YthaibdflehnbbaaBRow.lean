/- A row of bytes of the call's own that grows: where it lies. -/
import Derived.Test.YthaibdflehnbbaaHelp
namespace Go.Proofs.Ythaibdflehnbbaa
open Go.RowKit

/-- The row, begun in block g0 at w0, lies in block g of w and holds xs; no other old block was turned. -/
structure Bw (w0 : World) (B g0 : Nat) (w : World) (g n cap : Nat) (xs : List Int) : Prop where
  own : w.ownsRow B 5 1 (.slice (some ⟨g, 0, none⟩) n cap) n (xs.map (Value.int .u8))
  fr : Fr (fun k => k = g0) w0 w
  lies : g = g0 ∨ w0.heap.size ≤ g
  low : B ≤ w0.heap.size

theorem Bw.refl {w : World} {B g n cap : Nat} {xs : List Int} (h : w.ownsRow B 5 1 (.slice (some ⟨g, 0, none⟩) n cap) n (xs.map (Value.int .u8))) (hB : B ≤ w.heap.size) : Bw w B g w g n cap xs :=
  ⟨h, Fr.refl _ _, .inl rfl, hB⟩

theorem Bw.base {w0 : World} {B g0 : Nat} {w : World} {g n cap : Nat} {xs : List Int} (h : Bw w0 B g0 w g n cap xs) : B ≤ g := own_base h.own

theorem Bw.below {w0 : World} {B g0 : Nat} {w : World} {g n cap : Nat} {xs : List Int} (h : Bw w0 B g0 w g n cap xs) (hg : B ≤ g0) : Below B w0 w := h.fr.below B h.low (fun i hi e => by omega)

theorem Bw.alloc {w0 : World} {B g0 : Nat} {w : World} {g n cap : Nat} {xs : List Int} (h : Bw w0 B g0 w g n cap xs) (o : Obj) : Bw w0 B g0 (w.alloc o) g n cap xs := ⟨h.own.alloc _, h.fr.alloc _, h.lies, h.low⟩

theorem Bw.keep {w0 : World} {B g0 : Nat} {w w' : World} {g n cap : Nat} {xs : List Int} (h : Bw w0 B g0 w g n cap xs) (hb : Below w.heap.size w w') : Bw w0 B g0 w' g n cap xs :=
  ⟨own_keep h.own hb, h.fr.trans (P' := fun _ => False) (Fr.ofBelow hb) (fun _ _ h => h.elim), h.lies, h.low⟩

/-- Two pieces of the way. -/
theorem Bw.trans {w0 : World} {B g0 : Nat} {w w' : World} {g n cap g' n' cap' : Nat} {xs ys : List Int} (h : Bw w0 B g0 w g n cap xs) (k : Bw w B g w' g' n' cap' ys) : Bw w0 B g0 w' g' n' cap' ys := by
  refine ⟨k.own, h.fr.trans k.fr (fun i hi e => ?_), ?_, h.low⟩
  · rcases h.lies with h1 | h1
    · rw [e, h1]
    · omega
  · rcases k.lies with k1 | k1
    · rw [k1]; exact h.lies
    · exact .inr (Nat.le_trans h.fr.size k1)

theorem Bw.grown {w0 : World} {B g0 : Nat} {w w' : World} {g n cap : Nat} {xs : List Int} (h : Bw w0 B g0 w g n cap xs) {g' n' cap' : Nat} {ys : List Int}
    (ho : w'.ownsRow B 5 1 (.slice (some ⟨g', 0, none⟩) n' cap') n' (ys.map (Value.int .u8))) (hg : w.grownBy w' (some g)) (hl : g' = g ∨ g' = w.heap.size) : Bw w0 B g0 w' g' n' cap' ys :=
  h.trans ⟨ho, Fr.ofGrown hg, by rcases hl with e | e; exact .inl e; exact .inr (by omega), Nat.le_trans h.low h.fr.size⟩

/-- 'append(out, ys...)', ys nil or not. -/
theorem wpList_append_bw {w : World} {ops : Array Oper} {rest : List Oper} {o : Oper} {a : Act} {Q : Exit → Act → World → Prop} (hgd : o.guard = none) (s x : Operand)
    (ho : o.op = .call { callee := .builtin .append, args := #[s, x], argTypes := #[22, 22] })
    {w0 : World} {B g0 g n cap : Nat} {xs : List Int} (hs : a.eval s = .slice (some ⟨g, 0, none⟩) n cap) (hown : Bw w0 B g0 w g n cap xs)
    (ao : Option Addr) (m c : Nat) (ys : List Int) (hx : a.eval x = .slice ao m c) (hr : Rd w ao m c ys) (hlim : n + m ≤ 140737488355328)
    (h : ∀ g' cap' w', Bw w0 B g0 w' g' (n + m) cap' (xs ++ ys) → w.grownBy w' (some g) → (g' = g ∨ g' = w.heap.size) → wpList Try.prog ops Q rest (a.put o.dst (.slice (some ⟨g', 0, none⟩) (n + m) cap')) w') :
    wpList Try.prog ops Q (o :: rest) a w := by
  obtain ⟨i0, hi, hz0, hz1, hz2⟩ := info_parts Try.info5
  have hbase : B ≤ w.heap.size := Nat.le_trans hown.low hown.fr.size
  cases ao with
  | none =>
    obtain ⟨rfl, rfl⟩ := hr.nul rfl
    have hy : ys = [] := List.eq_nil_of_length_eq_zero hr.len
    subst hy
    refine wpList_append_own_none hgd s x 22 ho B 5 i0 1 Try.underlying22 hi _ n _ hs hown.own hx ?_
    exact h g cap w (by simpa using hown) (World.grownBy.refl _ _) (.inl rfl)
  | some ad =>
    refine wpList_append_own_at w hgd s x 22 ho B 5 i0 (.int .u8 0) 1 1 Try.underlying22 hi hz0 hz1 hz2 rfl (by decide) _ n _ hs hown.own ad m c (ys.map (Value.int .u8)) hx (by simpa using hr.len) (hr.cellsOf ad rfl) (ints_oneCell _ _)
      (by unfold maxLen; omega) (by omega) hbase ?_
    intro v' w' h1 h2 h3 h4
    obtain ⟨g', cap', rfl⟩ : ∃ g' cap', v' = .slice (some ⟨g', 0, none⟩) (n + m) cap' := by
      rcases h1.2 with ⟨h', _⟩ | ⟨g', cap', cur, h', _⟩
      · rw [h3] at h'; cases h'.1
      · exact ⟨g', cap', h'⟩
    have hl : g' = g ∨ g' = w.heap.size := by simpa [Value.ownBlock] using h4
    exact h g' cap' w' (hown.grown (by simpa using h1) h2 hl) h2 hl

/-- The same as one step of a region that draws its order. -/
theorem step_append_bw {w : World} {ops : Array Oper} {o : Oper} {a : Act} {K : Act → World → Prop} {Q : Exit → Act → World → Prop} {E : Prop} (hgd : o.guard = none) (s x : Operand)
    (ho : o.op = .call { callee := .builtin .append, args := #[s, x], argTypes := #[22, 22] })
    {w0 : World} {B g0 g n cap : Nat} {xs : List Int} (hs : a.eval s = .slice (some ⟨g, 0, none⟩) n cap) (hown : Bw w0 B g0 w g n cap xs)
    (ao : Option Addr) (m c : Nat) (ys : List Int) (hx : a.eval x = .slice ao m c) (hr : Rd w ao m c ys) (hlim : n + m ≤ 140737488355328) (nm : Nat) (hnm : nm = n + m)
    (h : ∀ g' cap' w', Bw w0 B g0 w' g' nm cap' (xs ++ ys) → w.grownBy w' (some g) → (g' = g ∨ g' = w.heap.size) → K (a.put o.dst (.slice (some ⟨g', 0, none⟩) nm cap')) w') :
    if Region.wanted o (yielded ops a.tmps) = true then Oper.wp Try.prog o a w K Q else E := by
  obtain ⟨i0, hi, hz0, hz1, hz2⟩ := info_parts Try.info5
  have hbase : B ≤ w.heap.size := Nat.le_trans hown.low hown.fr.size
  have hw : Region.wanted o (yielded ops a.tmps) = true := by simp [Region.wanted, hgd]
  rw [if_pos hw]
  subst hnm
  cases ao with
  | none =>
    obtain ⟨rfl, rfl⟩ := hr.nul rfl
    have hy : ys = [] := List.eq_nil_of_length_eq_zero hr.len
    subst hy
    have hrun := run_append_owned_none (P := Try.prog) (w := w) B 22 o.type 5 i0 1 Try.underlying22 hi _ n _ hown.own
    unfold Oper.wp
    simp [execOp, ho, resolve, invoke, builtin, hs, hx, hrun, Result.andThen]
    exact h g cap w (by simpa using hown) (World.grownBy.refl _ _) (.inl rfl)
  | some ad =>
    obtain ⟨v', w', hr', h1, h2, h3, h4⟩ := run_append_own_at (P := Try.prog) w B 22 o.type 5 i0 (.int .u8 0) 1 1 Try.underlying22 hi hz0 hz1 hz2 rfl (by decide) _ n _ hown.own ad m c (ys.map (Value.int .u8)) (by simpa using hr.len) (hr.cellsOf ad rfl) (ints_oneCell _ _) (by unfold maxLen; omega) (by omega) hbase
    obtain ⟨g', cap', rfl⟩ : ∃ g' cap', v' = .slice (some ⟨g', 0, none⟩) (n + m) cap' := by
      rcases h1.2 with ⟨h', _⟩ | ⟨g', cap', cur, h', _⟩
      · rw [h3] at h'; cases h'.1
      · exact ⟨g', cap', h'⟩
    have hl : g' = g ∨ g' = w.heap.size := by simpa [Value.ownBlock] using h4
    unfold Oper.wp execOp
    simp only [ho, resolve, invoke, builtin, Sem.run_bind, Sem.run_pure, Result.andThen_ok, List.map_toArray, List.map_cons, List.map_nil, hs, hx, hr']
    exact h g' cap' w' (hown.grown (by simpa using h1) h2 hl) h2 hl

end Go.Proofs.Ythaibdflehnbbaa
