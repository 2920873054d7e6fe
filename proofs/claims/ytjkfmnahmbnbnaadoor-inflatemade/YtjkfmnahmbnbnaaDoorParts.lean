/- A slice of parts (a byte and two ints each) that came in. -/
import Derived.Test.YtjkfmnahmbnbnaaDoorLMade
import Derived.OpenShut
import Derived.Deep.SlicePairs
namespace Go.Proofs.YtjkfmnahmbnbnaaDoor
open Go.RowKit

theorem open_parts {H : Type} {enc : TypeId × Value → H} {P : Program} {w : World} {base : Nat} {spare : Nat → Bool} {held : Bool} {t e : TypeId} {f0 f1 f2 : Field} {fuel : Nat} {cs : List Value} {x : DataW H × List MemPlace}
    (ht : P.underlying t = some (.slice e)) (he : P.underlying e = some (.struct #[f0, f1, f2])) (ce : P.cellsOf e = 3) (o0 : f0.offset = 0) (o1 : f1.offset = 1) (o2 : f2.offset = 2)
    (c0 : P.cellsOf f0.type = 1) (c1 : P.cellsOf f1.type = 1) (c2 : P.cellsOf f2.type = 1) (i0 : P.underlying f0.type = some (.int .u8)) (i1 : P.underlying f1.type = some (.int .i64)) (i2 : P.underlying f2.type = some (.int .i64))
    (h : DataW.trod enc P w base spare held fuel t cs = some x) : ∃ a len cap, cs = [.slice a len cap] ∧ ∃ O V M, IsParts w a len O V M := by
  rcases Deep.open_slice ht h with ⟨rfl, _⟩ | ⟨a, len, cap, m, n, D, Pl, rfl, hb, hl, hm, hmm, _, hx⟩
  · exact ⟨none, 0, 0, rfl, fun _ => 0, fun _ => 0, fun _ => 0, fun j hj => absurd hj (by omega)⟩
  refine ⟨some a, len, cap, rfl, ?_⟩
  have hlm : len ≤ m := by rw [hmm]; split <;> omega
  have each : ∀ i, i < m → ∃ q : Int × Int × Int, w.cell? (a.add (i * 3)) = some (.int .u8 q.1) ∧ w.cell? (a.add (i * 3 + 1)) = some (.int .i64 q.2.1) ∧ w.cell? (a.add (i * 3 + 2)) = some (.int .i64 q.2.2) ∧ 0 ≤ q.1 ∧ q.1 < 256 := by
    intro i hi
    obtain ⟨cs', h1, h2⟩ := hx i hi
    rw [ce] at h1
    obtain ⟨_, hlen, hcell⟩ := World.cells?_some h1
    obtain ⟨xs, k, hk, hxy, _, hxl, hf⟩ := DataW.trod_struct he h2
    match xs, hxl, cs', hlen with
    | [y0, y1, y2], _, [v0, v1, v2], _ =>
      have g0 := hf 0 f0 rfl
      have g1 := hf 1 f1 rfl
      have g2 := hf 2 f2 rfl
      simp [o0, o1, o2, c0, c1, c2] at g0 g1 g2
      obtain ⟨z0, e0, _, wf0⟩ := DataW.trod_int i0 g0
      have hb0 := bounds_u8 wf0
      obtain ⟨z1, e1, _⟩ := DataW.trod_int i1 g1
      obtain ⟨z2, e2, _⟩ := DataW.trod_int i2 g2
      simp at e0 e1 e2
      have k0 := hcell 0 (by omega)
      have k1 := hcell 1 (by omega)
      have k2 := hcell 2 (by omega)
      rw [Deep.add_add] at k0 k1 k2
      refine ⟨(z0, z1, z2), ?_, ?_, ?_, by simpa using hb0.1, by have := hb0.2; simp; omega⟩
      · simpa [e0] using k0
      · simpa [e1] using k1
      · simpa [e2] using k2
  obtain ⟨q, hq⟩ := Deep.choose_lt each
  refine ⟨fun i => (q i).1, fun i => (q i).2.1, fun i => (q i).2.2, fun j hj => ?_⟩
  obtain ⟨b, off, spot⟩ := a
  have s0 := hq 0 (by omega)
  have hspot : spot = none := by simpa [Addr.add] using World.cell?_spot s0.1
  subst hspot
  have sj := hq j (by omega)
  simp only [Addr.add_lit, ← Nat.add_assoc] at sj
  exact ⟨b, off, rfl, sj.1, sj.2.1, sj.2.2.1, sj.2.2.2.1, sj.2.2.2.2⟩

end Go.Proofs.YtjkfmnahmbnbnaaDoor
