/- A thing whose slice may move; bytes.Clone. -/
import Derived.Test.YtjkfmnahmbnbnaaDoorWLow
namespace Go.Proofs.YtjkfmnahmbnbnaaDoor
open Go.RowKit

/-- The blocks of a writer. -/
def Of (R : Nat) (v : Value) (k : Nat) : Prop := k = R ∨ v.ownBlock = some k

theorem row_after {wr w5 : World} {R t nc : Nat} {v' : Value} {f : Nat → Value} {O : Obj} (rr : wr.rowIs R t nc f) (sep : v'.ownBlock ≠ some R) (gr : (wr.drew.alloc O).grownBy w5 v'.ownBlock) : w5.rowIs R t nc f :=
  rowIs_fr rr (((Fr.refl (fun k => v'.ownBlock = some k) wr).drew.alloc _).grown gr (fun _ _ hk => hk)) sep

/-- Behind an append onto the slice in cell 0 of block R, and its store. -/
theorem pushed {w wr w5 : World} {R g5 c5 m e t nc : Nat} {v v' : Value} {xs : List Value} {f : Nat → Value} {O : Obj} (rr : wr.rowIs R t nc f) (sep : v'.ownBlock ≠ some R) (fr : Fr (Of R v) w wr)
    (hv : v'.ownBlock = v.ownBlock ∨ ∀ k, v'.ownBlock = some k → w.heap.size ≤ k) (o5 : w5.ownsRow 0 e 1 (.slice (some ⟨g5, 0, none⟩) m c5) m xs) (gr : (wr.drew.alloc O).grownBy w5 v'.ownBlock)
    (l5 : v'.ownBlock = some g5 ∨ g5 = wr.heap.size + 1) :
    (w5.setCell ⟨R, 0, none⟩ (.slice (some ⟨g5, 0, none⟩) m c5)).rowIs R t nc (fun j => if j = 0 then (.slice (some ⟨g5, 0, none⟩) m c5) else f j) ∧
    (w5.setCell ⟨R, 0, none⟩ (.slice (some ⟨g5, 0, none⟩) m c5)).ownsRow 0 e 1 (.slice (some ⟨g5, 0, none⟩) m c5) m xs ∧ g5 ≠ R ∧
    Fr (Of R v) w (w5.setCell ⟨R, 0, none⟩ (.slice (some ⟨g5, 0, none⟩) m c5)) ∧ (some g5 = v.ownBlock ∨ w.heap.size ≤ g5) := by
  have hne : g5 ≠ R := by
    rintro rfl
    rcases l5 with h | h
    · exact sep h
    · have := rr.lt; omega
  have hold : ∀ i, i < w.heap.size → v'.ownBlock = some i → Of R v i := fun i hi hk => by
    rcases hv with h | h
    · exact .inr (h ▸ hk)
    · have := h i hk; omega
  have r5 := row_after rr sep gr
  refine ⟨r5.set 0 _, ownsRow_fr o5 ((Fr.refl (fun k => k = R) w5).setCell rfl _) (fun k hk e => hne (by cases hk; exact e)), hne, ?_, ?_⟩
  · exact ((fr.drew.alloc _).grown gr hold).setCell (.inl rfl) _
  · rcases l5 with h | h
    · rcases hv with h' | h'
      · exact .inl (by rw [← h', h])
      · exact .inr (h' _ h)
    · have := fr.size
      exact .inr (by omega)

/-- What a call on the thing in block R, whose slice was v and is v', has turned. -/
structure Step (R : Nat) (v v' : Value) (w w' : World) : Prop where
  fr : Fr (Of R v) w w'
  own : v'.ownBlock = v.ownBlock ∨ ∀ k, v'.ownBlock = some k → w.heap.size ≤ k

theorem Step.refl (R : Nat) (v : Value) (w : World) : Step R v v w w := ⟨Fr.refl _ _, .inl rfl⟩

theorem Step.back {R : Nat} {v v' : Value} {w w' : World} (h : Step R v v' w w') : ∀ i, i < w.heap.size → Of R v' i → Of R v i := by
  rintro i hi (rfl | hk)
  · exact .inl rfl
  · rcases h.own with e | e
    · exact .inr (e ▸ hk)
    · have := e i hk; omega

theorem Step.trans {R : Nat} {v v1 v2 : Value} {w w1 w2 : World} (h : Step R v v1 w w1) (k : Step R v1 v2 w1 w2) : Step R v v2 w w2 :=
  ⟨h.fr.trans k.fr h.back, by
    rcases k.own with e | e
    · rw [e]; exact h.own
    · exact .inr (fun i hi => Nat.le_trans h.fr.size (e i hi))⟩

theorem Step.below {R : Nat} {v v' : Value} {w w' : World} (h : Step R v v' w w') (B : Nat) (hB : B ≤ w.heap.size) (hR : ∀ k, Of R v k → B ≤ k) : Below B w w' :=
  h.fr.below B hB (fun i hi hk => by have := hR i hk; omega)

theorem Step.from {R : Nat} {v v' : Value} {w w' : World} (h : Step R v v' w w') (B : Nat) (hB : B ≤ w.heap.size) (hR : ∀ k, Of R v k → B ≤ k) : ∀ k, Of R v' k → B ≤ k := by
  intro k hk
  rcases Nat.lt_or_ge k w.heap.size with hlt | hge
  · exact hR k (h.back k hlt hk)
  · omega

theorem Step.apart {R : Nat} {v v' : Value} {w w' : World} (h : Step R v v' w w') (Q : Nat → Prop) (hQ : ∀ k, Q k → k < w.heap.size) (hR : ∀ k, Of R v k → ¬ Q k) : ∀ k, Of R v' k → ¬ Q k := by
  intro k hk hq
  exact hR k (h.back k (hQ k hq) hk) hq

theorem Step.drew {R : Nat} {v v' : Value} {w w' : World} (h : Step R v v' w w') : Step R v v' w w'.drew := ⟨h.fr.drew, h.own⟩

/-- A row of one's own, as a slice. -/
theorem own_rd {w : World} {base n : Nat} {v : Value} {xs : List Int} (h : w.ownsRow base 5 1 v n (xs.map (Value.int .u8))) (hb : ∀ x ∈ xs, 0 ≤ x ∧ x < 256) :
    ∃ ao c, v = .slice ao n c ∧ Rd w ao n c xs ∧ ∀ ad, ao = some ad → v.ownBlock = some ad.block ∧ base ≤ ad.block := by
  rcases h.2 with ⟨rfl, rfl⟩ | ⟨g, cap, cur, rfl, hg, _⟩
  · have hx : xs = [] := List.eq_nil_of_length_eq_zero (by simpa using h.1)
    subst hx
    exact ⟨none, 0, rfl, Rd.nil _, fun ad had => by cases had⟩
  · exact ⟨_, _, rfl, Rd.ofOwn h hb, fun ad had => by cases had; exact ⟨rfl, hg⟩⟩

set_option maxHeartbeats 400000 in
theorem clone_any (ao : Option Addr) (n c : Nat) (xs : List Int) (w : World) (h : Rd w ao n c xs) (hn : n ≤ 140737488351232) :
    Calls Tryd.prog 30 #[.slice ao n c] w fun e w' => ∃ v', e = .returned v' ∧ w'.ownsRow w.heap.size 5 1 v' n (xs.map (Value.int .u8)) ∧ Below w.heap.size w w' := by
  obtain ⟨i0, hi, hz0, hz1, hz2⟩ := info_parts Tryd.info5
  cases ao with
  | none =>
    obtain ⟨rfl, rfl⟩ := h.nul rfl
    have hx : xs = [] := List.eq_nil_of_length_eq_zero h.len
    subst hx
    have hq := fun w => Lib.run_eql_slice_nil (P := Tryd.prog) w 30 5 none 0 0 0 0 Tryd.underlying30
    go_enter Tryd.func30, Tryd.ntmps30
    go_wp2
    go_ret
    exact ⟨_, rfl, World.ownsRow_nil _ _ _ _, Below.refl _ _⟩
  | some ad =>
    have hcells := h.cellsOf ad rfl
    have hl := h.len
    clear h
    have hq := fun w => Lib.run_eql_slice_nil (P := Tryd.prog) w 30 5 (some ad) n c 0 0 Tryd.underlying30
    go_enter Tryd.func30, Tryd.ntmps30
    go_wp2_with (at_builtin; refine wpList_append_own _ rfl _ _ 30 rfl w.heap.size 5 i0 (.int .u8 0) 1 1 Tryd.underlying30 hi hz0 hz1 hz2 rfl (by decide) _ 0 [] rfl ?_ ad n c (xs.map (Value.int .u8)) rfl ?_ ?_ (ints_oneCell _ _) ?_ ?_ ?_ ?_)
    · exact World.ownsRow_lit (base := w.heap.size) (e := 5) (size := 1) w #[] 0 (Nat.le_refl _) (by unfold maxLen; omega) rfl
    · simpa using hl
    · intro j u hu
      have hc := hcells j u hu
      rw [((Below.refl _ _).alloc (Nat.le_refl _) _ : Below w.heap.size w (w.alloc (.cells #[] 5))).cell (World.block_lt_of_cell? w _ hc)]
      exact hc
    · unfold maxLen; omega
    · omega
    · simp
    · intro v' w2 hown2 hgrow2 hv'
      have hb2 : Below w.heap.size w w2 := ((Below.refl _ _).alloc (Nat.le_refl _) _).grown hgrow2 (by simp) (fun q hq => by cases hq; exact Nat.le_refl _)
      clear hgrow2 hcells hv'
      go_wp2
      go_ret
      exact ⟨_, rfl, by simpa using hown2, hb2⟩

/-- How many bits there are behind Align. -/
def al (len : Nat) : Nat := (len + 7) / 8 * 8

end Go.Proofs.YtjkfmnahmbnbnaaDoor
