/- A disk with at most three files, as DiskQuota has it. -/
import Derived.Test.YtmpfbemdljfamaaWRem
namespace Go.Proofs.Ytmpfbemdljfamaa
open Go.RowKit Go.Maps Go.Sort

/-- The name of the file k. -/
def tq : Nat → ByteArray
  | 0 => { data := #[97, 47, 120] }
  | 1 => { data := #[97, 47, 121] }
  | _ => { data := #[97, 47, 122] }

def tr : Nat → ByteArray
  | 0 => { data := #[120] }
  | 1 => { data := #[121] }
  | _ => { data := #[122] }

theorem nmQ (k : Nat) (hk : k < 3) : Nm (tq k) tA (tr k) := by
  match k, hk with
  | 0, _ => exact nmA _ _ (by decide) (by decide) (by decide) (by decide) (by decide) (by decide) (part_of _ (by decide) (by decide) (by decide) (by decide) (by decide))
  | 1, _ => exact nmA _ _ (by decide) (by decide) (by decide) (by decide) (by decide) (by decide) (part_of _ (by decide) (by decide) (by decide) (by decide) (by decide))
  | 2, _ => exact nmA _ _ (by decide) (by decide) (by decide) (by decide) (by decide) (by decide) (part_of _ (by decide) (by decide) (by decide) (by decide) (by decide))

/-- An entry, if there is one. -/
def ge (s : ByteArray) : Option Nat → List (Lit × DataW Unit)
  | none => []
  | some f => [(nm s, pd f)]

def qe (a b c : Option Nat) : List (Lit × DataW Unit) := ge (tq 0) a ++ (ge (tq 1) b ++ ge (tq 2) c)

/-- A function turned at one place. -/
def st {α : Type} (g : Nat → α) (k : Nat) (v : α) : Nat → α := fun j => if j = k then v else g j

theorem look_q (g : Nat → Option Nat) (k : Nat) (hk : k < 3) : look (.map (qe (g 0) (g 1) (g 2))) (tq k) = g k := by
  generalize h0 : g 0 = a
  generalize h1 : g 1 = b
  generalize h2 : g 2 = c
  match k, hk with
  | 0, _ => rw [h0]; cases a <;> cases b <;> cases c <;> rfl
  | 1, _ => rw [h1]; cases a <;> cases b <;> cases c <;> rfl
  | 2, _ => rw [h2]; cases a <;> cases b <;> cases c <;> rfl

theorem put_q (g : Nat → Option Nat) (k : Nat) (hk : k < 3) (f : Nat) : (DataW.map (qe (g 0) (g 1) (g 2))).put (nm (tq k)) (pd f) = .map (qe (st g k (some f) 0) (st g k (some f) 1) (st g k (some f) 2)) := by
  match k, hk with
  | 0, _ =>
    show _ = DataW.map (qe (some f) (g 1) (g 2))
    generalize g 0 = a
    generalize g 1 = b
    generalize g 2 = c
    cases a <;> cases b <;> cases c <;> rfl
  | 1, _ =>
    show _ = DataW.map (qe (g 0) (some f) (g 2))
    generalize g 0 = a
    generalize g 1 = b
    generalize g 2 = c
    cases a <;> cases b <;> cases c <;> rfl
  | 2, _ =>
    show _ = DataW.map (qe (g 0) (g 1) (some f))
    generalize g 0 = a
    generalize g 1 = b
    generalize g 2 = c
    cases a <;> cases b <;> cases c <;> rfl

theorem del_q (g : Nat → Option Nat) (k : Nat) (hk : k < 3) : (DataW.map (qe (g 0) (g 1) (g 2))).del (nm (tq k)) = .map (qe (st g k none 0) (st g k none 1) (st g k none 2)) := by
  match k, hk with
  | 0, _ =>
    show _ = DataW.map (qe none (g 1) (g 2))
    generalize g 0 = a
    generalize g 1 = b
    generalize g 2 = c
    cases a <;> cases b <;> cases c <;> rfl
  | 1, _ =>
    show _ = DataW.map (qe (g 0) none (g 2))
    generalize g 0 = a
    generalize g 1 = b
    generalize g 2 = c
    cases a <;> cases b <;> cases c <;> rfl
  | 2, _ =>
    show _ = DataW.map (qe (g 0) (g 1) none)
    generalize g 0 = a
    generalize g 1 = b
    generalize g 2 = c
    cases a <;> cases b <;> cases c <;> rfl

theorem qe_len (a b c : Option Nat) : (qe a b c).length ≤ 3 := by cases a <;> cases b <;> cases c <;> simp [qe, ge]

/-- How many bytes a file has, if there is one. -/
def zf (F : Nat → Option Fl) : Option Nat → Int
  | none => 0
  | some f => flen F (pd f)

theorem usum_q (F : Nat → Option Fl) (a b c : Option Nat) : usum F (qe a b c) (fun _ => true) = zf F a + zf F b + zf F c := by
  cases a <;> cases b <;> cases c <;> simp [usum, qe, ge, zf, Int.add_assoc]

theorem fits_q {F : Nat → Option Fl} {a b c : Option Nat} (ha : ∀ f, a = some f → ∃ x, F f = some x) (hb : ∀ f, b = some f → ∃ x, F f = some x) (hc : ∀ f, c = some f → ∃ x, F f = some x) : Fits F (.map (qe a b c)) := by
  have one : ∀ (s : ByteArray) (o : Option Nat), (∀ f, o = some f → ∃ x, F f = some x) → ∀ p ∈ ge s o, ∃ f x, p.2 = pd f ∧ F f = some x := by
    intro s o ho p hp
    cases o with
    | none => cases hp
    | some f =>
      rw [List.mem_singleton.1 hp]
      obtain ⟨x, hx⟩ := ho f rfl
      exact ⟨f, x, rfl, hx⟩
  intro p hp
  rcases List.mem_append.1 hp with h | h
  · exact one _ _ ha p h
  · rcases List.mem_append.1 h with h | h
    · exact one _ _ hb p h
    · exact one _ _ hc p h

/-- The disk of the law: three names, the bytes of each. -/
structure Qs (S : St) (q c : Int) (g : Nat → Option Nat) (z : Nat → Int) : Prop where
  vw : ∃ last rws, Vw S q false c 0 (qe (g 0) (g 1) (g 2)) last rws ∧ ((rws = []) ∨ ∃ r x, rws = [(nm tA, pd r)] ∧ S.R r = some x ∧ (x.fs.length : Int) ≤ c ∧ (x.cs.length : Int) ≤ c)
  fil : ∀ k, k < 3 → ∀ f, g k = some f → ∃ x, S.F f = some x ∧ (x.xs.length : Int) = z k
  non : ∀ k, k < 3 → g k = none → z k = 0
  ap : ∀ j k, j < 3 → k < 3 → ∀ f, g j = some f → g k = some f → j = k
  cn : 0 ≤ c

theorem Qs.zf {S : St} {q c : Int} {g : Nat → Option Nat} {z : Nat → Int} (h : Qs S q c g z) (k : Nat) (hk : k < 3) : zf S.F (g k) = z k := by
  cases hg : g k with
  | none => exact (h.non k hk hg).symm
  | some f =>
    obtain ⟨x, hx, hl⟩ := h.fil k hk f hg
    show flen S.F (pd f) = _
    rw [← hl]
    simp only [flen, pb_pd, hx]

theorem Qs.used {S : St} {q c : Int} {g : Nat → Option Nat} {z : Nat → Int} (h : Qs S q c g z) : used S = z 0 + z 1 + z 2 := by
  obtain ⟨last, rws, V, _⟩ := h.vw
  have e : Go.Proofs.Ytmpfbemdljfamaa.used S = usum S.F (qe (g 0) (g 1) (g 2)) (fun _ => true) := by
    unfold Go.Proofs.Ytmpfbemdljfamaa.used
    rw [V.now]
    rfl
  rw [e, usum_q, h.zf 0 (by omega), h.zf 1 (by omega), h.zf 2 (by omega)]

theorem Qs.fits {S : St} {q c : Int} {g : Nat → Option Nat} {z : Nat → Int} (h : Qs S q c g z) : Fits S.F S.now := by
  obtain ⟨last, rws, V, _⟩ := h.vw
  rw [V.now]
  exact fits_q (fun f e => (h.fil 0 (by omega) f e).imp fun _ e => e.1) (fun f e => (h.fil 1 (by omega) f e).imp fun _ e => e.1) (fun f e => (h.fil 2 (by omega) f e).imp fun _ e => e.1)

theorem Qs.znn {S : St} {q c : Int} {g : Nat → Option Nat} {z : Nat → Int} (h : Qs S q c g z) (k : Nat) (hk : k < 3) : 0 ≤ z k := by
  cases hg : g k with
  | none => rw [h.non k hk hg]; exact Int.le_refl _
  | some f =>
    obtain ⟨x, hx, hl⟩ := h.fil k hk f hg
    omega

theorem qs_fresh (q : Int) (H : Nat) : Qs (fresh q H) q 0 (fun _ => none) (fun _ => 0) :=
  ⟨⟨[], [], vw_fresh q H, .inl rfl⟩, (fun _ _ _ e => by cases e), (fun _ _ _ => rfl), (fun _ _ _ _ _ e => by cases e), Int.le_refl _⟩

end Go.Proofs.Ytmpfbemdljfamaa
