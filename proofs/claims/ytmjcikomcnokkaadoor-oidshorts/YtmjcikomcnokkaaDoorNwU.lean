/- Rows that the program has made; what rises. -/
import Derived.Test.YtmjcikomcnokkaaDoorWFn
namespace Go.Proofs.YtmjcikomcnokkaaDoor
open Go.RowKit

theorem Nw.keep {B : Nat} {w w' : World} {v : Value} {d : Array (List Int)} (h : Nw B w v d) (hb : Below w.heap.size w w') : Nw B w' v d := by
  rcases h with ⟨h0, h1⟩ | ⟨h0, b, c, e, h1, h2, hr⟩
  · exact .inl ⟨h0, h1⟩
  · exact .inr ⟨h0, b, c, e, h1, h2, hr.keep hb⟩

theorem Nw.shape {B : Nat} {w : World} {v : Value} {d : Array (List Int)} (h : Nw B w v d) : ∃ ao c, v = .slice ao d.size c := by
  rcases h with ⟨h0, ao, c, rfl⟩ | ⟨h0, b, c, e, h1, h2, hr⟩
  · exact ⟨ao, c, by rw [h0]⟩
  · exact ⟨_, c, e⟩

theorem wh_one {d : Array (List Int)} {z : List Int} {k k' : Nat} (h : wh d z k) (h' : wh d z k') : k = k' := Fst.one h h'

theorem up_list {d : Array (List Int)} : Up d ↔ d.toList.Pairwise (fun x y => ltl x y = true) := by
  rw [List.pairwise_iff_getElem]
  constructor
  · intro h i j hi hj hij
    have := h i j hij (by simpa using hj)
    rw [getElem!_pos d i (by simpa using hi), getElem!_pos d j (by simpa using hj)] at this
    simpa using this
  · intro h i j hij hj
    have := h i j (by simp; omega) (by simpa using hj) hij
    rw [getElem!_pos d i (by omega), getElem!_pos d j hj]
    simpa using this

end Go.Proofs.YtmjcikomcnokkaaDoor
