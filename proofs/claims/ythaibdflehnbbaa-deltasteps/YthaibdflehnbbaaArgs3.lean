/- Slices of steps that came in. -/
import Derived.Test.YthaibdflehnbbaaArgs
import Derived.Test.YthaibdflehnbbaaDMem
import Derived.OpenShut
import Derived.Deep.SlicePairs
import Derived.ChangeSlices
namespace Go.Proofs.Ythaibdflehnbbaa
open Go.RowKit Go.ChangeShapes

theorem range_getD {α : Type} (f : Nat → α) (z : α) (n j : Nat) (h : j < n) : ((List.range n).map f).getD j z = f j := by simp [List.getD, h]

theorem open_ops {H : Type} {enc : TypeId × Value → H} {P : Program} {w : World} {base : Nat} {spare : Nat → Bool} {held : Bool} {t e e3 : TypeId} {f0 f1 f2 f3 : Field} {fuel : Nat} {cs : List Value} {x : DataW H × List MemPlace}
    (ht : P.underlying t = some (.slice e)) (he : P.underlying e = some (.struct #[f0, f1, f2, f3])) (ce : P.cellsOf e = 4) (o0 : f0.offset = 0) (o1 : f1.offset = 1) (o2 : f2.offset = 2) (o3 : f3.offset = 3)
    (c0 : P.cellsOf f0.type = 1) (c1 : P.cellsOf f1.type = 1) (c2 : P.cellsOf f2.type = 1) (c3 : P.cellsOf f3.type = 1) (i0 : P.underlying f0.type = some .bool) (i1 : P.underlying f1.type = some (.int .i64)) (i2 : P.underlying f2.type = some (.int .i64))
    (i3 : P.underlying f3.type = some (.slice e3)) (i4 : P.underlying e3 = some (.int .u8)) (ce3 : P.cellsOf e3 = 1)
    (h : DataW.trod enc P w base spare held fuel t cs = some x) : ∃ a len cap, cs = [.slice a len cap] ∧ ∃ ms l, Os w a len ms l := by
  rcases Deep.open_slice ht h with ⟨rfl, _⟩ | ⟨a, len, cap, m, n, D, Pl, rfl, hb, hl, hm, hmm, _, hx⟩
  · exact ⟨none, 0, 0, rfl, [], [], rfl, rfl, (fun j hj => absurd hj (by omega)), (fun j hj => absurd hj (by omega))⟩
  refine ⟨some a, len, cap, rfl, ?_⟩
  have hlm : len ≤ m := by rw [hmm]; split <;> omega
  have each : ∀ i, i < m → ∃ q : MO × List Int, w.cell? (a.add (i * 4)) = some (.bool q.1.cp) ∧ w.cell? (a.add (i * 4 + 1)) = some (.int .i64 q.1.fr) ∧ w.cell? (a.add (i * 4 + 2)) = some (.int .i64 q.1.n) ∧ w.cell? (a.add (i * 4 + 3)) = some (.slice q.1.a q.1.m q.1.c) ∧ Rd w q.1.a q.1.m q.1.c q.2 := by
    intro i hi
    obtain ⟨cs', h1, h2⟩ := hx i hi
    rw [ce] at h1
    obtain ⟨_, hlen, hcell⟩ := World.cells?_some h1
    obtain ⟨xs, k, hk, hxy, _, hxl, hf⟩ := DataW.trod_struct he h2
    match xs, hxl, cs', hlen with
    | [y0, y1, y2, y3], _, [v0, v1, v2, v3], _ =>
      have g0 := hf 0 f0 rfl
      have g1 := hf 1 f1 rfl
      have g2 := hf 2 f2 rfl
      have g3 := hf 3 f3 rfl
      simp [o0, o1, o2, o3, c0, c1, c2, c3] at g0 g1 g2 g3
      obtain ⟨z0, e0, _⟩ := DataW.trod_bool i0 g0
      obtain ⟨z1, e1, _⟩ := DataW.trod_int i1 g1
      obtain ⟨z2, e2, _⟩ := DataW.trod_int i2 g2
      obtain ⟨xa, xm, xk, ys, e3', hrow⟩ : ∃ xa xm xk ys, v3 = .slice xa xm xk ∧ Rd w xa xm xk ys := by
        rcases open_ints i3 i4 ce3 g3 with ⟨hcs, _⟩ | ⟨x, l, c, zs, hcs, _, hl, hm, hz, _, hcell, hwz⟩
        · simp at hcs
          exact ⟨_, _, _, [], hcs, Rd.nil w⟩
        · simp at hcs
          have hzl : l ≤ zs.length := by rw [hz]; split <;> omega
          refine ⟨some x, l, c, zs.take l, hcs, by simp; omega, hl, (fun e => by cases e), fun ad had j hj => ?_, fun y hy => ?_⟩
          · cases had
            rw [hcell j (by omega)]
            simp [List.getD, hj]
          · have := bounds_u8 (hwz y (List.mem_of_mem_take hy))
            omega
      simp at e0 e1 e2
      have k0 := hcell 0 (by omega)
      have k1 := hcell 1 (by omega)
      have k2 := hcell 2 (by omega)
      have k3 := hcell 3 (by omega)
      rw [Deep.add_add] at k0 k1 k2 k3
      refine ⟨(⟨z0, z1, z2, xa, xm, xk⟩, ys), ?_, ?_, ?_, ?_, hrow⟩
      · simpa [e0] using k0
      · simpa [e1] using k1
      · simpa [e2] using k2
      · simpa [e3'] using k3
  haveI : Inhabited (MO × List Int) := ⟨(mz, [])⟩
  obtain ⟨q, hq⟩ := Deep.choose_lt each
  refine ⟨(List.range len).map fun j => (q j).1, (List.range len).map fun j => ⟨(q j).1.cp, (q j).1.fr, (q j).1.n, (q j).2⟩, by simp, by simp, fun j hj => ?_, fun j hj => ?_⟩
  · rw [range_getD _ mz len j hj]
    obtain ⟨b, off, spot⟩ := a
    have s0 := hq 0 (by omega)
    have hspot : spot = none := by simpa [Addr.add] using World.cell?_spot s0.1
    subst hspot
    have sj := hq j (by omega)
    simp only [Addr.add_lit, ← Nat.add_assoc] at sj
    exact ⟨b, off, rfl, sj.1, sj.2.1, sj.2.2.1, sj.2.2.2.1⟩
  · rw [range_getD _ mz len j hj, range_getD _ oz len j hj]
    exact ⟨rfl, rfl, rfl, (hq j (by omega)).2.2.2.2⟩

end Go.Proofs.Ythaibdflehnbbaa
