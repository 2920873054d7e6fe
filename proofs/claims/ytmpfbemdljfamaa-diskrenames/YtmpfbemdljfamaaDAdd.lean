/- A change is added to a row, and done to the names. -/
import Derived.Test.YtmpfbemdljfamaaWMade
namespace Go.Proofs.Ytmpfbemdljfamaa
open Go.RowKit Go.Maps

/-- A row of changes and one of the maps are written. -/
theorem Dk.setRwM {w w' : World} {O O' : Nat → Prop} {d : Nat} {S : St} {r : Nat} {x x' : Rw} {b : Nat} {D0 D1 D2 D3 : DataW Unit} (h : Dk w O d S) (hmb : Mp w b D0) (hm1 : Mp w' S.nb D1) (hm2 : Mp w' S.lb D2) (hm3 : Mp w' S.rb D3) (hO : More w w' O O') (hx : S.R r = some x) (hr : IsRw w' O' r x') (hf : Fr (fun k => k = r ∨ x.cv.ownBlock = some k ∨ x.fv.ownBlock = some k ∨ k = b) w w')
    (hv : ∀ g, x'.cv.ownBlock = some g → x.cv.ownBlock = some g ∨ w.heap.size ≤ g) (hv2 : ∀ g, x'.fv.ownBlock = some g → x.fv.ownBlock = some g ∨ w.heap.size ≤ g) : Dk w' O' d { S with now := D1, last := D2, rws := D3, R := upd S.R r x' } := by
  have kb := kd_map hmb
  have hF := h.rs.is r x hx
  obtain ⟨cl, hcl, _⟩ := hF.chs
  have k1 := kd_row hF.row
  have kP : ∀ k, (k = r ∨ x.cv.ownBlock = some k ∨ x.fv.ownBlock = some k ∨ k = b) → kd w k = some 67 ∨ kd w k = some 57 ∨ kd w k = some 51 ∨ kd w k = none := by
    rintro k (rfl | e | e | rfl)
    · exact .inl k1
    · exact .inr (.inl (kd_own hcl e))
    · exact .inr (.inr (.inl (kd_own hF.fls e)))
    · exact .inr (.inr (.inr kb))
  have nP : ∀ k t, kd w k = t → t ≠ some 67 → t ≠ some 57 → t ≠ some 51 → t ≠ none → ¬ (k = r ∨ x.cv.ownBlock = some k ∨ x.fv.ownBlock = some k ∨ k = b) := fun k t e h1 h2 h3 h4 hp => by
    rcases kP k hp with e' | e' | e' | e' <;> rw [e] at e'
    · exact h1 e'
    · exact h2 e'
    · exact h3 e'
    · exact h4 e'
  refine ⟨rowIs_fr h.row hf (nP d _ (kd_row h.row) (by decide) (by decide) (by decide) (by decide)), hm1, hm2, hm3, h.ne, ?_, ?_, ownsRow_fr h.pic hf (fun g e => nP g _ (kd_own h.pic e) (by decide) (by decide) (by decide) (by decide)), ?_, hO.lim⟩
  · refine (h.fs.fr hf ?_).mono hO.sub
    intro b _ hb
    rcases kP b hb with e | e | e | e <;> rw [e] <;> decide
  · constructor
    · intro j y hy
      rcases upd_cases hy with ⟨rfl, rfl⟩ | ⟨hj, hy⟩
      · exact hr
      · have hJ := h.rs.is j y hy
        obtain ⟨cl', hcl', _⟩ := hJ.chs
        have ap := fun g => h.rs.ap r j x y g (fun e => hj e.symm) hx hy
        refine (hJ.fr hf ?_ ?_ ?_ ?_).mono hO.sub
        · rintro (e | e | e | rfl)
          · exact hj e
          · have := kd_own hcl e
            rw [kd_row hJ.row] at this; cases this
          · have := kd_own hF.fls e
            rw [kd_row hJ.row] at this; cases this
          · rw [kd_row hJ.row] at kb; cases kb
        · rintro g hg (rfl | e | e | rfl)
          · have := kd_own hcl' hg
            rw [k1] at this; cases this
          · exact (ap g).1 e hg
          · have := kd_own hF.fls e
            rw [kd_own hcl' hg] at this; cases this
          · rw [kd_own hcl' hg] at kb; cases kb
        · rintro g hg (rfl | e | e | rfl)
          · have := kd_own hJ.fls hg
            rw [k1] at this; cases this
          · have := kd_own hcl e
            rw [kd_own hJ.fls hg] at this; cases this
          · exact (ap g).2 e hg
          · rw [kd_own hJ.fls hg] at kb; cases kb
        · intro b _ hb
          rcases kP b hb with e | e | e | e <;> rw [e] <;> decide
    · intro j j' y y' g hne hy hy'
      rcases upd_cases hy with ⟨rfl, rfl⟩ | ⟨hj, hz1⟩ <;> rcases upd_cases hy' with ⟨rfl, rfl⟩ | ⟨hj', hz2⟩
      · exact absurd rfl hne
      · have hJ := h.rs.is j' y' hz2
        obtain ⟨cl', hcl', _⟩ := hJ.chs
        have ap := h.rs.ap j j' x y' g hne hx hz2
        constructor
        · intro hg hg'
          rcases hv g hg with e | e
          · exact ap.1 e hg'
          · have := own_lt hcl' hg'
            omega
        · intro hg hg'
          rcases hv2 g hg with e | e
          · exact ap.2 e hg'
          · have := own_lt hJ.fls hg'
            omega
      · have hJ := h.rs.is j y hz1
        obtain ⟨cl', hcl', _⟩ := hJ.chs
        have ap := h.rs.ap j j' y x g hne hz1 hx
        constructor
        · intro hg hg'
          rcases hv g hg' with e | e
          · exact ap.1 hg e
          · have := own_lt hcl' hg
            omega
        · intro hg hg'
          rcases hv2 g hg' with e | e
          · exact ap.2 hg e
          · have := own_lt hJ.fls hg
            omega
      · exact h.rs.ap j j' y y' g hne hz1 hz2
  · exact ⟨hO.sub _ h.own.1, hO.sub _ h.own.2.1, hO.sub _ h.own.2.2.1, hO.sub _ h.own.2.2.2.1, fun g e => hO.sub _ (h.own.2.2.2.2 g e)⟩

/-- The disk behind a change. -/
def changed (S : St) (r : Nat) (x : Rw) (c : Chg) (cv : Value) : St := { S with now := c.on x.fs S.now, R := upd S.R r ⟨cv, x.fv, x.cs ++ [c], x.fs⟩ }

theorem added_dk {w w' : World} {O : Nat → Prop} {d : Nat} {S : St} {r : Nat} {x : Rw} {c : Chg} (h : Dk w O d S) (hx : S.R r = some x) (ha : Added w w' O r x c S.nb S.now) :
    ∃ cv', Dk w' (Ow O w w') d (changed S r x c cv') ∧ Fr O w w' := by
  obtain ⟨cv', hr, hg⟩ := ha.out
  have hR := h.rs.is r x hx
  obtain ⟨cl, hcl, _⟩ := hR.chs
  have k1 := kd_row hR.row
  have nP : ∀ b D, Mp w b D → b ≠ S.nb → ¬ (b = r ∨ x.cv.ownBlock = some b ∨ b = S.nb) := by
    rintro b D hm hne (rfl | e | e)
    · rw [kd_map hm] at k1; cases k1
    · have := kd_own hcl e
      rw [kd_map hm] at this; cases this
    · exact hne e
  have hs := ha.fr.size
  have mm : More w w' O (Ow O w w') := Ow.more h.lim hs
  have hown : ∀ g, cv'.ownBlock = some g → Ow O w w' g := fun g e => by
    obtain ⟨cl', hcl', _⟩ := hr.chs
    rcases hg g e with e' | e'
    · exact .inl (hR.own.2.1 g e')
    · exact .inr ⟨e', own_lt hcl' e⟩
  refine ⟨cv', ?_, ?_⟩
  · exact h.setRwM (D0 := S.now) (x' := ⟨cv', x.fv, x.cs ++ [c], x.fs⟩) h.now ha.mp (h.last.fr ha.fr (nP _ _ h.last (fun e => h.ne.1 e.symm))) (h.rws.fr ha.fr (nP _ _ h.rws (fun e => h.ne.2.1 e.symm))) mm hx
      (hr.mono (fun b hb => hb.elim .inl (hown b))) (ha.fr.weak (fun i e => by
        rcases e with e | e | e
        · exact .inl e
        · exact .inr (.inl e)
        · exact .inr (.inr (.inr e)))) hg (fun g e => .inl e)
  · exact ha.fr.weak (fun i e => by
      rcases e with rfl | e | rfl
      · exact hR.own.1
      · exact hR.own.2.1 _ e
      · exact h.own.2.1)

end Go.Proofs.Ytmpfbemdljfamaa
