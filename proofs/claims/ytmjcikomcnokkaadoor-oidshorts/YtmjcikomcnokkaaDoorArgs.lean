/- Names, rows of names that came in. -/
import Derived.Test.YtmjcikomcnokkaaDoorWClone
import Derived.OpenShut
import Derived.WideShapes
import Derived.Deep.SlicePairs
namespace Go.Proofs.YtmjcikomcnokkaaDoor
open Go.RowKit

theorem choose_lt {α : Type} [Inhabited α] {P : Nat → α → Prop} (n : Nat) (h : ∀ i, i < n → ∃ a, P i a) : ∃ f : Nat → α, ∀ i, i < n → P i (f i) := by
  classical
  exact ⟨fun i => if hi : i < n then (h i hi).choose else default, fun i hi => by simp only [dif_pos hi]; exact (h i hi).choose_spec⟩

theorem cells23 : Tryd.prog.cellsOf 23 = 20 := by kernel_rfl
theorem cells5 : Tryd.prog.cellsOf 5 = 1 := by kernel_rfl

/-- The name of these numbers. -/
def mkId (f : Nat → Int) : List Int := (List.range 20).map f

theorem mkId_bt (f : Nat → Int) (j : Nat) (hj : j < 20) : bt (mkId f) j = f j := by
  unfold bt mkId
  rw [List.getD, List.getElem?_map, List.getElem?_range hj]
  rfl

theorem mkId_id (f : Nat → Int) (h : ∀ j, j < 20 → 0 ≤ f j ∧ f j < 256) : IsId (mkId f) := by
  refine ⟨by simp [mkId], fun b hb => ?_⟩
  unfold mkId at hb
  obtain ⟨j, hj, rfl⟩ := List.mem_map.1 hb
  exact h j (by simpa using hj)

theorem row_of {H : Type} {enc : TypeId × Value → H} {w : World} {base : Nat} {spare : Nat → Bool} {held : Bool} {fuel : Nat} {cs : List Value} {x : DataW H × List MemPlace}
    (h : DataW.trod enc Tryd.prog w base spare held fuel 23 cs = some x) : ∃ z, IsId z ∧ cs = vals (cl z) 20 := by
  obtain ⟨xs, m, _, _, hl, hxl, hx⟩ := DataW.trod_array Tryd.underlying23 h
  rw [cells23] at hl
  have each : ∀ i, i < 20 → ∃ z : Int, cs[i]? = some (.int .u8 z) ∧ 0 ≤ z ∧ z < 256 := by
    intro i hi
    have hi' := hx i hi
    rw [cells5, Nat.mul_one] at hi'
    have hc : (cs.drop i).take 1 = [cs[i]'(by omega)] := by
      rw [List.drop_eq_getElem_cons (by omega)]
      rfl
    rw [hc, List.getElem?_eq_getElem (by omega : i < xs.length)] at hi'
    obtain ⟨z, e, _, wf⟩ := DataW.trod_int Tryd.underlying5 hi'
    have hb := bounds_u8 wf
    simp at e
    exact ⟨z, by rw [List.getElem?_eq_getElem (by omega), e], by simpa using hb.1, by have := hb.2; omega⟩
  obtain ⟨f, hf⟩ := choose_lt 20 each
  refine ⟨mkId f, mkId_id f (fun j hj => (hf j hj).2), ?_⟩
  apply List.ext_getElem?
  intro i
  by_cases hi : i < 20
  · rw [(hf i hi).1, vals_get _ _ _ hi]
    unfold cl
    rw [mkId_bt f i hi]
  · rw [List.getElem?_eq_none (by omega), List.getElem?_eq_none (by rw [vals_len]; omega)]

set_option maxRecDepth 100000 in
theorem open_id {H : Type} {enc : TypeId × Value → H} {W : World} {r : Reach} {base b0 : Nat} {spare : Nat → Bool} {held : Bool} {v : Value} {d : DataW H} {p : List MemPlace}
    (hv : Value.okWide Tryd.prog W r b0 23 v) (h : DataW.Trod enc Tryd.prog W base spare held 23 v d p) : ∃ z, IsId z ∧ v = idv z := by
  simp only [Value.okWide, Tryd.underlying23] at hv
  obtain ⟨cs, rfl, _, _⟩ := hv
  obtain ⟨fuel, hf⟩ := h
  obtain ⟨z, hz, e⟩ := row_of hf
  refine ⟨z, hz, ?_⟩
  have : cs.toList = vals (cl z) 20 := by simpa [Value.cells] using e
  show Value.agg cs = Value.agg (vals (cl z) 20).toArray
  rw [← this]

theorem open_ids {H : Type} {enc : TypeId × Value → H} {w : World} {base : Nat} {spare : Nat → Bool} {held : Bool} {fuel : Nat} {cs : List Value} {x : DataW H × List MemPlace}
    (h : DataW.trod enc Tryd.prog w base spare held fuel 33 cs = some x) : ∃ a len cap, cs = [.slice a len cap] ∧ len ≤ maxLen ∧ ∃ d : Array (List Int), d.size = len ∧ Is w (.slice a len cap) d := by
  rcases Deep.open_slice Tryd.underlying33 h with ⟨rfl, _⟩ | ⟨a, len, cap, m, n, D, Pl, rfl, hb, hl, hm, hmm, _, hx⟩
  · exact ⟨none, 0, 0, rfl, by unfold maxLen; omega, #[], rfl, ⟨none, 0, rfl, Nat.le_refl _, fun _ => ⟨rfl, rfl⟩, fun ad had => by cases had⟩, fun i hi => absurd hi (by simp)⟩
  refine ⟨some a, len, cap, rfl, by omega, ?_⟩
  have hlm : len ≤ m := by rw [hmm]; split <;> omega
  have each : ∀ i, i < len → ∃ z : List Int, IsId z ∧ ∀ j, j < 20 → w.cell? (a.add (i * 20 + j)) = some (cl z j) := by
    intro i hi
    obtain ⟨cs', h1, h2⟩ := hx i (by omega)
    rw [cells23] at h1
    obtain ⟨_, hlen, hcell⟩ := World.cells?_some h1
    obtain ⟨z, hz, e⟩ := row_of h2
    refine ⟨z, hz, fun j hj => ?_⟩
    have k := hcell j (by omega)
    rw [Deep.add_add] at k
    rw [k]
    have := vals_get (cl z) 20 j hj
    rw [← e] at this
    simpa using this
  obtain ⟨f, hf⟩ := choose_lt len each
  refine ⟨((List.range len).map f).toArray, by simp, ⟨some a, cap, by simp, by simpa using hl, (fun e => by cases e), fun ad had i hi j hj => ?_⟩, fun i hi => ?_⟩
  · cases had
    have hi' : i < len := by simpa using hi
    rw [(hf i hi').2 j hj, getElem!_pos _ i hi]
    simp
  · have hi' : i < len := by simpa using hi
    rw [getElem!_pos _ i hi]
    simpa using (hf i hi').1

end Go.Proofs.YtmjcikomcnokkaaDoor
