/- DiskLasts. -/
import Derived.Test.YtmpfbemdljfamaaLRenames
namespace Go.Proofs.Ytmpfbemdljfamaa
open Go.RowKit Go.Maps Go.Sort

abbrev tAG : ByteArray := { data := #[97, 47, 103] }
abbrev tAH : ByteArray := { data := #[97, 47, 104] }

theorem nmAG : Nm tAG tA { data := #[103] } := nmA _ _ (by decide) (by decide) (by decide) (by decide) (by decide) (by decide) (part_of _ (by decide) (by decide) (by decide) (by decide) (by decide))
theorem nmAH : Nm tAH tA { data := #[104] } := nmA _ _ (by decide) (by decide) (by decide) (by decide) (by decide) (by decide) (part_of _ (by decide) (by decide) (by decide) (by decide) (by decide))

theorem q_conv {ops : Array Oper} {o : Oper} {a : Act} {C : World → Prop} {K : Act → Prop} {E : Prop} (hw : Region.wanted o (yielded ops a.tmps) = true) (x : Operand) (ho : o.op = .convert 22 9 x) (u : Value) (hx : a.eval x = u) (v : Value)
    (hc : ∀ w, C w → (convert 22 9 u).run Try.prog w = .ok v w) (hk : K (a.put o.dst v)) : if Region.wanted o (yielded ops a.tmps) = true then o.quiet Try.prog a C K else E := by
  rw [if_pos hw]
  refine ⟨v, fun w hC => ?_, hk⟩
  have h := hc w hC
  unfold Oper.quietAt execOp
  simp only [ho, hx]
  simp [h, Oper.quietUpon]

theorem q_slice {ops : Array Oper} {o : Oper} {a : Act} {C : World → Prop} {K : Act → Prop} {E : Prop} (hw : Region.wanted o (yielded ops a.tmps) = true) (x : Operand) (lo hi : Option Operand) (ho : o.op = .slice 22 x lo hi none) (u : Value) (hx : a.eval x = u) (lo' hi' : Option Value) (hlo : lo.map a.eval = lo') (hhi : hi.map a.eval = hi') (v : Value)
    (hc : ∀ w, C w → (Instr.slice 22 u lo' hi' none).run Try.prog w = .ok v w) (hk : K (a.put o.dst v)) : if Region.wanted o (yielded ops a.tmps) = true then o.quiet Try.prog a C K else E := by
  rw [if_pos hw]
  refine ⟨v, fun w hC => ?_, hk⟩
  have h := hc w hC
  have hat : (Instr.sliceAt 22 u lo' hi' none).run Try.prog w = .ok v w := by
    unfold Instr.sliceAt
    simp only [Sem.run_bind, run_underlying Try.underlying22, Result.andThen_ok]
    exact h
  unfold Oper.quietAt execOp
  simp only [ho, hx, hlo, hhi, Option.map_none]
  simp [hat, Oper.quietUpon]

theorem good3 {S : St} {f g : Nat} {x y : Fl} (hx : S.F f = some x) (hy : S.F g = some y) : GoodL S [(nm tAF, pd f), (nm tAH, pd g)] :=
  ⟨by simp, fun a ha => by
    have e : a = [97, 47, 102] ∨ a = [97, 47, 104] := by simpa [strKeys, strOf] using ha
    rcases e with rfl | rfl
    · exact ⟨by decide, f, x, rfl, hx⟩
    · exact ⟨by decide, g, y, rfl, hy⟩⟩

/-- The names that a crash may leave. -/
def Lh (f g : Nat) : Nat → List (Lit × DataW Unit)
  | 0 => [(nm tAF, pd f)]
  | _ => [(nm tAF, pd f), (nm tAH, pd g)]

theorem lh_good {S : St} {f g : Nat} {x y : Fl} (hx : S.F f = some x) (hy : S.F g = some y) : ∀ n, GoodL S (Lh f g n)
  | 0 => good1 hx
  | _ + 1 => good3 hx hy

theorem cutd_part {v : Value} {fs ms : List Int} {x' : Fl} (h : Cutd ⟨v, fs ++ ms, fs.length⟩ x') : ∃ j, j ≤ ms.length ∧ x'.xs = fs ++ ms.take j := by
  rcases h with rfl | ⟨k, k1, k2, k3, _⟩
  · exact ⟨ms.length, Nat.le_refl _, by simp⟩
  · simp only at k1 k2 k3
    rw [List.length_append] at k2
    refine ⟨k - fs.length, by omega, ?_⟩
    rw [k3, List.take_append, List.take_of_length_le (by omega)]

/-- The names of the directory, as List tells them. -/
theorem ls_of {f g n : Nat} {ls : List (List UInt8)} (hn : n ≤ 1) (h : ls.Perm ((Lh f g n).map fun p => stripK 2 p.1)) : ∃ k : Nat, ls.length = k ∧ 1 ≤ k ∧ k ≤ 2 ∧ ((ls.mergeSort (fun x y => decide (x ≤ y))).map encStr)[0]? = some (.string { data := #[102] }) := by
  have e := mergeSort_of_perm h
  have hl := h.length_eq
  rcases le1 hn with rfl | rfl
  · have e2 : (Lh f g 0).map (fun p => stripK 2 p.1) = [[102]] := by show [stripK 2 (nm tAF)] = _; decide
    rw [e2] at e hl
    exact ⟨1, hl, by omega, by omega, by rw [e, List.mergeSort_singleton]; rfl⟩
  · have e2 : (Lh f g 1).map (fun p => stripK 2 p.1) = [[102], [104]] := by show [stripK 2 (nm tAF), stripK 2 (nm tAH)] = _; decide
    rw [e2] at e hl
    refine ⟨2, hl, by omega, by omega, ?_⟩
    rw [e]
    have : ([[102], [104]] : List (List UInt8)).mergeSort leB = [[102], [104]] := List.mergeSort_of_pairwise (by decide)
    rw [this]
    rfl

end Go.Proofs.Ytmpfbemdljfamaa
