/- Slices of bytes, of tokens that came in. -/
import Derived.Test.YtgdodphpomkakaaTok
import Derived.OpenShut
import Derived.Deep.SlicePairs
namespace Go.Proofs.Ytgdodphpomkakaa
open Go.RowKit

/-- A slice of integers that came in: nil, or a row of 'cap' cells. -/
def IsRow (k : IntKind) (w : World) (a : Option Addr) (len cap : Nat) (zs : List Int) : Prop :=
  (a = none ∧ len = 0 ∧ cap = 0 ∧ zs = []) ∨
  ∃ x, a = some x ∧ len ≤ cap ∧ cap ≤ maxLen ∧ zs.length = cap ∧ (∀ i, i < zs.length → w.cell? (x.add i) = some (.int k (zs.getD i 0))) ∧ ∀ n ∈ zs, (Lit.int k n).wf = true

theorem Rd.ofRow {w : World} {a : Option Addr} {len cap : Nat} {zs : List Int} (h : IsRow .u8 w a len cap zs) : Rd w a len cap (zs.take len) := by
  rcases h with ⟨rfl, rfl, rfl, rfl⟩ | ⟨x, rfl, hl, hm, hz, hc, hw⟩
  · exact Rd.nil w
  · refine ⟨by simp; omega, hl, (fun e => by cases e), fun ad had j hj => ?_, fun y hy => ?_⟩
    · cases had
      rw [hc j (by omega)]
      simp [List.getD, hj]
    · have := bounds_u8 (hw y (List.mem_of_mem_take hy))
      omega

theorem range_getD {α : Type} (f : Nat → α) (z : α) (n j : Nat) (h : j < n) : ((List.range n).map f).getD j z = f j := by simp [List.getD, h]

theorem open_toks {H : Type} {enc : TypeId × Value → H} {P : Program} {w : World} {base : Nat} {spare : Nat → Bool} {held : Bool} {t e : TypeId} {f0 f1 f2 : Field} {fuel : Nat} {cs : List Value} {x : DataW H × List MemPlace}
    (ht : P.underlying t = some (.slice e)) (he : P.underlying e = some (.struct #[f0, f1, f2])) (ce : P.cellsOf e = 3) (o0 : f0.offset = 0) (o1 : f1.offset = 1) (o2 : f2.offset = 2)
    (c0 : P.cellsOf f0.type = 1) (c1 : P.cellsOf f1.type = 1) (c2 : P.cellsOf f2.type = 1) (i0 : P.underlying f0.type = some (.int .u8)) (i1 : P.underlying f1.type = some (.int .i64)) (i2 : P.underlying f2.type = some (.int .i64))
    (h : DataW.trod enc P w base spare held fuel t cs = some x) : ∃ a len cap, cs = [.slice a len cap] ∧ ∃ ts, Tk w a len ts := by
  rcases Deep.open_slice ht h with ⟨rfl, _⟩ | ⟨a, len, cap, m, n, D, Pl, rfl, hb, hl, hm, hmm, _, hx⟩
  · exact ⟨none, 0, 0, rfl, [], rfl, (fun j hj => absurd hj (by omega)), fun t h => by cases h⟩
  refine ⟨some a, len, cap, rfl, ?_⟩
  have hlm : len ≤ m := by rw [hmm]; split <;> omega
  have each : ∀ i, i < m → ∃ q : Int × Int × Int, w.cell? (a.add (i * 3)) = some (.int .u8 q.1) ∧ w.cell? (a.add (i * 3 + 1)) = some (.int .i64 q.2.1) ∧ w.cell? (a.add (i * 3 + 2)) = some (.int .i64 q.2.2) ∧ 0 ≤ q.1 ∧ q.1 < 256 := by
    intro i hi
    obtain ⟨cs', h1, h2⟩ := hx i hi
    rw [ce] at h1
    obtain ⟨_, hlen, hcell⟩ := World.cells?_some h1
    obtain ⟨xs, k, hk, hxy, _, hxl, hf⟩ := DataW.trod_struct he h2
    match xs, hxl, cs', hlen with
    | [y0, y1, y2], _, [v0, v1, v2], _ =>
      have g0 := hf 0 f0 rfl
      have g1 := hf 1 f1 rfl
      have g2 := hf 2 f2 rfl
      simp [o0, o1, o2, c0, c1, c2] at g0 g1 g2
      obtain ⟨z0, e0, _, wf0⟩ := DataW.trod_int i0 g0
      have hb0 := bounds_u8 wf0
      obtain ⟨z1, e1, _⟩ := DataW.trod_int i1 g1
      obtain ⟨z2, e2, _⟩ := DataW.trod_int i2 g2
      simp at e0 e1 e2
      have k0 := hcell 0 (by omega)
      have k1 := hcell 1 (by omega)
      have k2 := hcell 2 (by omega)
      rw [Deep.add_add] at k0 k1 k2
      refine ⟨(z0, z1, z2), ?_, ?_, ?_, by simpa using hb0.1, by have := hb0.2; simp; omega⟩
      · simpa [e0] using k0
      · simpa [e1] using k1
      · simpa [e2] using k2
  obtain ⟨q, hq⟩ := Deep.choose_lt each
  refine ⟨(List.range len).map q, by simp, fun j hj => ?_, fun t htm => ?_⟩
  · rw [range_getD q tz len j hj]
    obtain ⟨b, off, spot⟩ := a
    have s0 := hq 0 (by omega)
    have hspot : spot = none := by simpa [Addr.add] using World.cell?_spot s0.1
    subst hspot
    have sj := hq j (by omega)
    simp only [Addr.add_lit, ← Nat.add_assoc] at sj
    exact ⟨b, off, rfl, sj.1, sj.2.1, sj.2.2.1⟩
  · obtain ⟨j, hj, rfl⟩ := List.mem_map.1 htm
    have hj' : j < len := by simpa using hj
    have sj := hq j (by omega)
    exact sj.2.2.2

end Go.Proofs.Ytgdodphpomkakaa
