/- What is written into a disk's blocks, and what stays. -/
import Derived.Test.YtmpfbemdljfamaaWAdd
namespace Go.Proofs.Ytmpfbemdljfamaa
open Go.RowKit Go.Maps

/-- One more, or another one. -/
def upd {α : Type} (F : Nat → Option α) (k : Nat) (x : α) : Nat → Option α := fun j => if j = k then some x else F j

theorem upd_same {α : Type} (F : Nat → Option α) (k : Nat) (x : α) : upd F k x k = some x := by simp [upd]
theorem upd_other {α : Type} (F : Nat → Option α) {j k : Nat} (x : α) (h : j ≠ k) : upd F k x j = F j := by simp [upd, h]

theorem upd_cases {α : Type} {F : Nat → Option α} {j k : Nat} {x y : α} (h : upd F k x j = some y) : j = k ∧ y = x ∨ j ≠ k ∧ F j = some y := by
  by_cases e : j = k
  · subst e; rw [upd_same] at h; cases h; exact .inl ⟨rfl, rfl⟩
  · rw [upd_other _ _ e] at h; exact .inr ⟨e, h⟩

/-- More blocks. -/
structure More (w w' : World) (O O' : Nat → Prop) : Prop where
  sub : ∀ b, O b → O' b
  new : ∀ b, O' b → O b ∨ w.heap.size ≤ b
  lim : ∀ b, O' b → b < w'.heap.size

theorem More.refl {w w' : World} {O : Nat → Prop} (h : ∀ b, O b → b < w.heap.size) (hs : w.heap.size ≤ w'.heap.size) : More w w' O O := ⟨fun _ h => h, fun _ h => .inl h, fun b hb => Nat.lt_of_lt_of_le (h b hb) hs⟩

theorem More.trans {w w1 w' : World} {O O1 O' : Nat → Prop} (h : More w w1 O O1) (k : More w1 w' O1 O') (hs : w.heap.size ≤ w1.heap.size) : More w w' O O' :=
  ⟨fun b hb => k.sub b (h.sub b hb), fun b hb => (k.new b hb).elim (h.new b) (fun e => .inr (Nat.le_trans hs e)), k.lim⟩

theorem IsF.lt {w : World} {O : Nat → Prop} {f : Nat} {x : Fl} (h : IsF w O f x) : f < w.heap.size := h.row.lt

/-- A file is written. -/
theorem Dk.setF {w w' : World} {O O' : Nat → Prop} {d : Nat} {S : St} {f : Nat} {x x' : Fl} (h : Dk w O d S) (hO : More w w' O O') (hx : S.F f = some x) (hr : IsF w' O' f x') (hf : Fr (fun k => k = f ∨ x.v.ownBlock = some k) w w')
    (hv : ∀ g, x'.v.ownBlock = some g → x.v.ownBlock = some g ∨ w.heap.size ≤ g) : Dk w' O' d { S with F := upd S.F f x' } := by
  have hF := h.fs.is f x hx
  have k1 := kd_row hF.row
  have kP : ∀ k, (k = f ∨ x.v.ownBlock = some k) → kd w k = some 79 ∨ kd w k = some 5 := by
    rintro k (rfl | e)
    · exact .inl k1
    · exact .inr (kd_own hF.dat e)
  have nP : ∀ k t, kd w k = t → t ≠ some 79 → t ≠ some 5 → ¬ (k = f ∨ x.v.ownBlock = some k) := fun k t e h1 h2 hp => by
    rcases kP k hp with e' | e' <;> rw [e] at e'
    · exact h1 e'
    · exact h2 e'
  have nm : ∀ b D, Mp w b D → ¬ (b = f ∨ x.v.ownBlock = some b) := fun b D hm => nP b none (kd_map hm) (by simp) (by simp)
  refine ⟨rowIs_fr h.row hf (nP d _ (kd_row h.row) (by decide) (by decide)), h.now.fr hf (nm _ _ h.now), h.last.fr hf (nm _ _ h.last), h.rws.fr hf (nm _ _ h.rws), h.ne, ?_, ?_, ownsRow_fr h.pic hf (fun g e => nP g _ (kd_own h.pic e) (by decide) (by decide)), ?_, hO.lim⟩
  · constructor
    · intro j y hy
      rcases upd_cases hy with ⟨rfl, rfl⟩ | ⟨hj, hy⟩
      · exact hr
      · have hJ := h.fs.is j y hy
        refine (hJ.fr hf ?_ ?_).mono hO.sub
        · rintro (e | e)
          · exact hj e
          · have := kd_own hF.dat e
            rw [kd_row hJ.row] at this; cases this
        · rintro g hg (rfl | e)
          · have := kd_own hJ.dat hg
            rw [k1] at this; cases this
          · exact h.fs.ap f j x y g (fun e => hj e.symm) hx hy e hg
    · intro j j' y y' g hne hy hy' hg hg'
      rcases upd_cases hy with ⟨rfl, rfl⟩ | ⟨hj, hz1⟩ <;> rcases upd_cases hy' with ⟨rfl, rfl⟩ | ⟨hj', hz2⟩
      · exact hne rfl
      · rcases hv g hg with e | e
        · exact h.fs.ap j j' x y' g hne hx hz2 e hg'
        · have := own_lt (h.fs.is j' y' hz2).dat hg'
          omega
      · rcases hv g hg' with e | e
        · exact h.fs.ap j j' y x g hne hz1 hx hg e
        · have := own_lt (h.fs.is j y hz1).dat hg
          omega
      · exact h.fs.ap j j' y y' g hne hz1 hz2 hg hg'
  · refine (h.rs.fr hf ?_).mono hO.sub
    intro b _ hb
    rcases kP b hb with e | e <;> rw [e] <;> decide
  · exact ⟨hO.sub _ h.own.1, hO.sub _ h.own.2.1, hO.sub _ h.own.2.2.1, hO.sub _ h.own.2.2.2.1, fun g e => hO.sub _ (h.own.2.2.2.2 g e)⟩

/-- A new file. -/
theorem Dk.newF {w w' : World} {O O' : Nat → Prop} {d : Nat} {S : St} {f : Nat} {x : Fl} (h : Dk w O d S) (hO : More w w' O O') (hr : IsF w' O' f x) (hb : Below w.heap.size w w') (hn : w.heap.size ≤ f) (hv : x.v.ownBlock = none) : Dk w' O' d { S with F := upd S.F f x } := by
  have h' := (h.keep hb).mono hO.sub hO.lim
  refine ⟨h'.row, h'.now, h'.last, h'.rws, h'.ne, ⟨?_, ?_⟩, h'.rs, h'.pic, h'.own, h'.lim⟩
  · intro j y hy
    rcases upd_cases hy with ⟨rfl, rfl⟩ | ⟨hj, hy⟩
    · exact hr
    · exact h'.fs.is j y hy
  · intro j j' y y' g hne hy hy' hg hg'
    rcases upd_cases hy with ⟨rfl, rfl⟩ | ⟨hj, hz1⟩ <;> rcases upd_cases hy' with ⟨rfl, rfl⟩ | ⟨hj', hz2⟩
    · exact hne rfl
    · rw [hv] at hg; cases hg
    · rw [hv] at hg'; cases hg'
    · exact h'.fs.ap j j' y y' g hne hz1 hz2 hg hg'

/-- A row of changes is written. -/
theorem Dk.setRw {w w' : World} {O O' : Nat → Prop} {d : Nat} {S : St} {r : Nat} {x x' : Rw} (h : Dk w O d S) (hO : More w w' O O') (hx : S.R r = some x) (hr : IsRw w' O' r x') (hf : Fr (fun k => k = r ∨ x.cv.ownBlock = some k ∨ x.fv.ownBlock = some k) w w')
    (hv : ∀ g, x'.cv.ownBlock = some g → x.cv.ownBlock = some g ∨ w.heap.size ≤ g) (hv2 : ∀ g, x'.fv.ownBlock = some g → x.fv.ownBlock = some g ∨ w.heap.size ≤ g) : Dk w' O' d { S with R := upd S.R r x' } := by
  have hF := h.rs.is r x hx
  obtain ⟨cl, hcl, _⟩ := hF.chs
  have k1 := kd_row hF.row
  have kP : ∀ k, (k = r ∨ x.cv.ownBlock = some k ∨ x.fv.ownBlock = some k) → kd w k = some 67 ∨ kd w k = some 57 ∨ kd w k = some 51 := by
    rintro k (rfl | e | e)
    · exact .inl k1
    · exact .inr (.inl (kd_own hcl e))
    · exact .inr (.inr (kd_own hF.fls e))
  have nP : ∀ k t, kd w k = t → t ≠ some 67 → t ≠ some 57 → t ≠ some 51 → ¬ (k = r ∨ x.cv.ownBlock = some k ∨ x.fv.ownBlock = some k) := fun k t e h1 h2 h3 hp => by
    rcases kP k hp with e' | e' | e' <;> rw [e] at e'
    · exact h1 e'
    · exact h2 e'
    · exact h3 e'
  have nm : ∀ b D, Mp w b D → ¬ (b = r ∨ x.cv.ownBlock = some b ∨ x.fv.ownBlock = some b) := fun b D hm => nP b none (kd_map hm) (by simp) (by simp) (by simp)
  refine ⟨rowIs_fr h.row hf (nP d _ (kd_row h.row) (by decide) (by decide) (by decide)), h.now.fr hf (nm _ _ h.now), h.last.fr hf (nm _ _ h.last), h.rws.fr hf (nm _ _ h.rws), h.ne, ?_, ?_, ownsRow_fr h.pic hf (fun g e => nP g _ (kd_own h.pic e) (by decide) (by decide) (by decide)), ?_, hO.lim⟩
  · refine (h.fs.fr hf ?_).mono hO.sub
    intro b _ hb
    rcases kP b hb with e | e | e <;> rw [e] <;> decide
  · constructor
    · intro j y hy
      rcases upd_cases hy with ⟨rfl, rfl⟩ | ⟨hj, hy⟩
      · exact hr
      · have hJ := h.rs.is j y hy
        obtain ⟨cl', hcl', _⟩ := hJ.chs
        have ap := fun g => h.rs.ap r j x y g (fun e => hj e.symm) hx hy
        refine (hJ.fr hf ?_ ?_ ?_ ?_).mono hO.sub
        · rintro (e | e | e)
          · exact hj e
          · have := kd_own hcl e
            rw [kd_row hJ.row] at this; cases this
          · have := kd_own hF.fls e
            rw [kd_row hJ.row] at this; cases this
        · rintro g hg (rfl | e | e)
          · have := kd_own hcl' hg
            rw [k1] at this; cases this
          · exact (ap g).1 e hg
          · have := kd_own hF.fls e
            rw [kd_own hcl' hg] at this; cases this
        · rintro g hg (rfl | e | e)
          · have := kd_own hJ.fls hg
            rw [k1] at this; cases this
          · have := kd_own hcl e
            rw [kd_own hJ.fls hg] at this; cases this
          · exact (ap g).2 e hg
        · intro b _ hb
          rcases kP b hb with e | e | e <;> rw [e] <;> decide
    · intro j j' y y' g hne hy hy'
      rcases upd_cases hy with ⟨rfl, rfl⟩ | ⟨hj, hz1⟩ <;> rcases upd_cases hy' with ⟨rfl, rfl⟩ | ⟨hj', hz2⟩
      · exact absurd rfl hne
      · have hJ := h.rs.is j' y' hz2
        obtain ⟨cl', hcl', _⟩ := hJ.chs
        have ap := h.rs.ap j j' x y' g hne hx hz2
        constructor
        · intro hg hg'
          rcases hv g hg with e | e
          · exact ap.1 e hg'
          · have := own_lt hcl' hg'
            omega
        · intro hg hg'
          rcases hv2 g hg with e | e
          · exact ap.2 e hg'
          · have := own_lt hJ.fls hg'
            omega
      · have hJ := h.rs.is j y hz1
        obtain ⟨cl', hcl', _⟩ := hJ.chs
        have ap := h.rs.ap j j' y x g hne hz1 hx
        constructor
        · intro hg hg'
          rcases hv g hg' with e | e
          · exact ap.1 hg e
          · have := own_lt hcl' hg
            omega
        · intro hg hg'
          rcases hv2 g hg' with e | e
          · exact ap.2 hg e
          · have := own_lt hJ.fls hg
            omega
      · exact h.rs.ap j j' y y' g hne hz1 hz2
  · exact ⟨hO.sub _ h.own.1, hO.sub _ h.own.2.1, hO.sub _ h.own.2.2.1, hO.sub _ h.own.2.2.2.1, fun g e => hO.sub _ (h.own.2.2.2.2 g e)⟩

/-- A new row of changes. -/
theorem Dk.newRw {w w' : World} {O O' : Nat → Prop} {d : Nat} {S : St} {r : Nat} {x : Rw} (h : Dk w O d S) (hO : More w w' O O') (hr : IsRw w' O' r x) (hb : Below w.heap.size w w') (hv : x.cv.ownBlock = none) (hv2 : x.fv.ownBlock = none) : Dk w' O' d { S with R := upd S.R r x } := by
  have h' := (h.keep hb).mono hO.sub hO.lim
  refine ⟨h'.row, h'.now, h'.last, h'.rws, h'.ne, h'.fs, ⟨?_, ?_⟩, h'.pic, h'.own, h'.lim⟩
  · intro j y hy
    rcases upd_cases hy with ⟨rfl, rfl⟩ | ⟨hj, hy⟩
    · exact hr
    · exact h'.rs.is j y hy
  · intro j j' y y' g hne hy hy'
    rcases upd_cases hy with ⟨rfl, rfl⟩ | ⟨hj, hz1⟩ <;> rcases upd_cases hy' with ⟨rfl, rfl⟩ | ⟨hj', hz2⟩
    · exact absurd rfl hne
    · exact ⟨(fun hg => by rw [hv] at hg; cases hg), (fun hg => by rw [hv2] at hg; cases hg)⟩
    · exact ⟨(fun _ hg => by rw [hv] at hg; cases hg), (fun _ hg => by rw [hv2] at hg; cases hg)⟩
    · exact h'.rs.ap j j' y y' g hne hz1 hz2

/-- One of its maps is written. -/
theorem Dk.setMap {w w' : World} {O : Nat → Prop} {d : Nat} {S S' : St} {b : Nat} {D0 : DataW Unit} (h : Dk w O d S) (hb : Mp w b D0) (hf : Fr (fun k => k = b) w w')
    (e : S' = { S with now := S'.now, last := S'.last, rws := S'.rws }) (h1 : Mp w' S.nb S'.now) (h2 : Mp w' S.lb S'.last) (h3 : Mp w' S.rb S'.rws) : Dk w' O d S' := by
  have kb := kd_map hb
  have nP : ∀ k t, kd w k = some t → ¬ k = b := fun k t e hk => by rw [hk, kb] at e; cases e
  rw [e]
  refine ⟨rowIs_fr h.row hf (nP d _ (kd_row h.row)), h1, h2, h3, h.ne, h.fs.fr hf ?_, h.rs.fr hf ?_, ownsRow_fr h.pic hf (fun g e => nP g _ (kd_own h.pic e)), h.own, fun b hb => Nat.lt_of_lt_of_le (h.lim b hb) hf.size⟩
  · intro k _ hk; subst hk; rw [kb]; simp
  · intro k _ hk; subst hk; rw [kb]; simp

end Go.Proofs.Ytmpfbemdljfamaa
