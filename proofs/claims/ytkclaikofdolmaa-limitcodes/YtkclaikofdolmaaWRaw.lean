/- A writer of bits in memory. -/
import Derived.Test.YtkclaikofdolmaaWLow
namespace Go.Proofs.Ytkclaikofdolmaa
open Go.RowKit

/-- A writer's cells. -/
def wcells (v : Value) (wd hv : Int) : Nat → Value
  | 0 => v
  | 1 => .int .u64 wd
  | _ => .int .i64 hv

/-- Block R is a writer whose slice v holds the lowest q bytes of N; the rest of N waits in its word, said to be hv bits. -/
structure Raw (w : World) (R : Nat) (v : Value) (N : Int) (q : Nat) (hv : Int) : Prop where
  row : w.rowIs R 73 3 (wcells v (N / 2 ^ (8 * q)) hv)
  own : w.ownsRow 0 5 1 v q ((by8 N q).map (Value.int .u8))
  sep : v.ownBlock ≠ some R

/-- The blocks of a writer. -/
def Of (R : Nat) (v : Value) (k : Nat) : Prop := k = R ∨ v.ownBlock = some k

/-- Block R is a writer of the len bits of N. -/
structure IsW (w : World) (R : Nat) (v : Value) (N : Int) (len : Nat) : Prop where
  raw : Raw w R v N (len / 8) ((len % 8 : Nat) : Int)
  nn : 0 ≤ N
  lt : N < 2 ^ len

theorem Raw.fr {P : Nat → Prop} {w w' : World} {R : Nat} {v : Value} {N : Int} {q : Nat} {hv : Int} (h : Raw w R v N q hv) (hf : Fr P w w') (hP : ∀ k, Of R v k → ¬ P k) : Raw w' R v N q hv :=
  ⟨rowIs_fr h.row hf (hP R (.inl rfl)), ownsRow_fr h.own hf (fun k hk => hP k (.inr hk)), h.sep⟩

theorem IsW.fr {P : Nat → Prop} {w w' : World} {R : Nat} {v : Value} {N : Int} {len : Nat} (h : IsW w R v N len) (hf : Fr P w w') (hP : ∀ k, Of R v k → ¬ P k) : IsW w' R v N len :=
  ⟨h.raw.fr hf hP, h.nn, h.lt⟩

theorem Raw.lt {w : World} {R : Nat} {v : Value} {N : Int} {q : Nat} {hv : Int} (h : Raw w R v N q hv) : ∀ k, Of R v k → k < w.heap.size := by
  rintro k (rfl | hk)
  · exact h.row.lt
  · exact (h.own.lt k hk).2

/-- A writer's number and word may be set anew. -/
theorem Raw.set1 {w : World} {R : Nat} {v : Value} {N : Int} {q : Nat} {hv : Int} (h : Raw w R v N q hv) (M : Int) (hM : by8 M q = by8 N q) : Raw (w.setCell ⟨R, 1, none⟩ (.int .u64 (M / 2 ^ (8 * q)))) R v M q hv :=
  ⟨(h.row.set 1 _).congr (fun i hi => by rcases i with _ | _ | _ | i <;> first | rfl | omega), by
    rw [hM]
    exact ownsRow_fr h.own ((Fr.refl (fun k => k = R) w).setCell rfl _) (fun k hk e => h.sep (by rw [hk, e])), h.sep⟩

theorem Raw.set2 {w : World} {R : Nat} {v : Value} {N : Int} {q : Nat} {hv : Int} (h : Raw w R v N q hv) (hv' : Int) : Raw (w.setCell ⟨R, 2, none⟩ (.int .i64 hv')) R v N q hv' :=
  ⟨(h.row.set 2 _).congr (fun i hi => by rcases i with _ | _ | _ | i <;> first | rfl | omega), ownsRow_fr h.own ((Fr.refl (fun k => k = R) w).setCell rfl _) (fun k hk e => h.sep (by rw [hk, e])), h.sep⟩

theorem row_after {wr w5 : World} {R t nc : Nat} {v' : Value} {f : Nat → Value} {O : Obj} (rr : wr.rowIs R t nc f) (sep : v'.ownBlock ≠ some R) (gr : (wr.drew.alloc O).grownBy w5 v'.ownBlock) : w5.rowIs R t nc f :=
  rowIs_fr rr (((Fr.refl (fun k => v'.ownBlock = some k) wr).drew.alloc _).grown gr (fun _ _ hk => hk)) sep

/-- Behind an append onto the slice in cell 0 of block R, and its store. -/
theorem pushed {w wr w5 : World} {R g5 c5 m e t nc : Nat} {v v' : Value} {xs : List Value} {f : Nat → Value} {O : Obj} (rr : wr.rowIs R t nc f) (sep : v'.ownBlock ≠ some R) (fr : Fr (Of R v) w wr)
    (hv : v'.ownBlock = v.ownBlock ∨ ∀ k, v'.ownBlock = some k → w.heap.size ≤ k) (o5 : w5.ownsRow 0 e 1 (.slice (some ⟨g5, 0, none⟩) m c5) m xs) (gr : (wr.drew.alloc O).grownBy w5 v'.ownBlock)
    (l5 : v'.ownBlock = some g5 ∨ g5 = wr.heap.size + 1) :
    (w5.setCell ⟨R, 0, none⟩ (.slice (some ⟨g5, 0, none⟩) m c5)).rowIs R t nc (fun j => if j = 0 then (.slice (some ⟨g5, 0, none⟩) m c5) else f j) ∧
    (w5.setCell ⟨R, 0, none⟩ (.slice (some ⟨g5, 0, none⟩) m c5)).ownsRow 0 e 1 (.slice (some ⟨g5, 0, none⟩) m c5) m xs ∧ g5 ≠ R ∧
    Fr (Of R v) w (w5.setCell ⟨R, 0, none⟩ (.slice (some ⟨g5, 0, none⟩) m c5)) ∧ (some g5 = v.ownBlock ∨ w.heap.size ≤ g5) := by
  have hne : g5 ≠ R := by
    rintro rfl
    rcases l5 with h | h
    · exact sep h
    · have := rr.lt; omega
  have hold : ∀ i, i < w.heap.size → v'.ownBlock = some i → Of R v i := fun i hi hk => by
    rcases hv with h | h
    · exact .inr (h ▸ hk)
    · have := h i hk; omega
  have r5 := row_after rr sep gr
  refine ⟨r5.set 0 _, ownsRow_fr o5 ((Fr.refl (fun k => k = R) w5).setCell rfl _) (fun k hk e => hne (by cases hk; exact e)), hne, ?_, ?_⟩
  · exact ((fr.drew.alloc _).grown gr hold).setCell (.inl rfl) _
  · rcases l5 with h | h
    · rcases hv with h' | h'
      · exact .inl (by rw [← h', h])
      · exact .inr (h' _ h)
    · have := fr.size
      exact .inr (by omega)

end Go.Proofs.Ytkclaikofdolmaa
