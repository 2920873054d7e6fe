/- Bits in fields; the fixed codes; literals and copies, and what they make. -/
import Derived.Test.YtjkfmnahmbnbnaaDoorWFind
import Derived.Test.YtjkfmnahmbnbnaaDoorWFixed
import Derived.Test.YtjkfmnahmbnbnaaDoorWLen
namespace Go.Proofs.YtjkfmnahmbnbnaaDoor
open Go.RowKit

/-- A field: a number, how many bits. -/
abbrev Fd := Int × Nat

/-- Fields as one number, the first one lowest. -/
def fv : List Fd → Int
  | [] => 0
  | x :: r => x.1 + 2 ^ x.2 * fv r

/-- How many bits. -/
def fb : List Fd → Nat
  | [] => 0
  | x :: r => x.2 + fb r

/-- Each number fits. -/
def Ft (l : List Fd) : Prop := ∀ x ∈ l, 0 ≤ x.1 ∧ x.1 < 2 ^ x.2

theorem Ft.cons {x : Fd} {l : List Fd} (h0 : 0 ≤ x.1) (h1 : x.1 < 2 ^ x.2) (h : Ft l) : Ft (x :: l) := by
  intro y hy
  rcases List.mem_cons.1 hy with rfl | hy
  · exact ⟨h0, h1⟩
  · exact h y hy

theorem Ft.nil : Ft [] := fun _ h => by cases h

theorem Ft.app {a b : List Fd} (h : Ft a) (k : Ft b) : Ft (a ++ b) := by
  intro y hy
  rcases List.mem_append.1 hy with hy | hy
  · exact h y hy
  · exact k y hy

theorem Ft.left {a b : List Fd} (h : Ft (a ++ b)) : Ft a := fun y hy => h y (List.mem_append.2 (.inl hy))
theorem Ft.right {a b : List Fd} (h : Ft (a ++ b)) : Ft b := fun y hy => h y (List.mem_append.2 (.inr hy))

theorem fb_app (a b : List Fd) : fb (a ++ b) = fb a + fb b := by
  induction a with
  | nil => simp [fb]
  | cons x a ih => simp only [List.cons_append, fb, ih]; omega

theorem fv_app (a b : List Fd) : fv (a ++ b) = fv a + 2 ^ fb a * fv b := by
  induction a with
  | nil => simp [fb, fv]
  | cons x a ih => simp only [List.cons_append, fb, fv, ih, Int.mul_add, Int.pow_add, Int.mul_assoc]; omega

theorem fv_bound {l : List Fd} (h : Ft l) : 0 ≤ fv l ∧ fv l < 2 ^ fb l := by
  induction l with
  | nil => simp [fv, fb]
  | cons x l ih =>
    have h1 := h x (by simp)
    obtain ⟨h2, h3⟩ := ih (fun y hy => h y (by simp [hy]))
    simp only [fv, fb]
    exact put_bound _ _ _ _ h1.1 h1.2 h2 h3

/-- From bit p on the fields l stand in the n bytes of X. -/
structure Lay (X : Int) (n p : Nat) (l : List Fd) : Prop where
  ft : Ft l
  le : p + fb l ≤ 8 * n
  is : ∃ Y, X / 2 ^ p = fv l + 2 ^ fb l * Y

theorem Lay.head {X : Int} {n p : Nat} {x : Fd} {l : List Fd} (h : Lay X n p (x :: l)) : X / 2 ^ p % 2 ^ x.2 = x.1 ∧ p + x.2 ≤ 8 * n ∧ Lay X n (p + x.2) l := by
  obtain ⟨ft, le, Y, hY⟩ := h
  have h1 := ft x (by simp)
  simp only [fb] at le
  simp only [fv, fb, Int.pow_add, Int.mul_assoc, Int.add_assoc] at hY
  rw [← Int.mul_add] at hY
  refine ⟨?_, by omega, ⟨fun y hy => ft y (by simp [hy]), by omega, Y, ?_⟩⟩
  · rw [hY, put_mod _ _ _ h1.1 h1.2]
  · rw [← div_div, hY, put_high _ _ _ h1.1 h1.2]

theorem Lay.tail {X : Int} {n : Nat} : ∀ {a b : List Fd} {p : Nat}, Lay X n p (a ++ b) → Lay X n (p + fb a) b := by
  intro a
  induction a with
  | nil => intro b p h; simpa [fb] using h
  | cons x a ih =>
    intro b p h
    have := ih h.head.2.2
    simp only [fb]
    rw [← Nat.add_assoc]
    exact this

theorem Lay.front {X : Int} {n p : Nat} {a b : List Fd} (h : Lay X n p (a ++ b)) : Lay X n p a := by
  obtain ⟨ft, le, Y, hY⟩ := h
  rw [fb_app] at le
  refine ⟨ft.left, by omega, fv b + 2 ^ fb b * Y, ?_⟩
  rw [hY, fv_app, fb_app, Int.mul_add, Int.pow_add, Int.mul_assoc, Int.add_assoc]

theorem Lay.of {n : Nat} {l : List Fd} (h : Ft l) (hn : fb l ≤ 8 * n) : Lay (fv l) n 0 l :=
  ⟨h, by omega, 0, by simp⟩

/-- The code of a symbol, in a field. -/
theorem nx_sym {L : Nat → Int} {m : Nat} {X : Int} {nb p i x : Nat} {s g : Int} {q : Nat} (hf : Fits L m) (hi : i < m) (hx : L i = x) (hx0 : 0 < x) (hx15 : x ≤ 15) (hp : p + x ≤ 8 * nb) (hb : X / 2 ^ p % 2 ^ x = T (cd L m i) x) (hN : Nx L m X nb 15 1 0 p s g q) : s = i ∧ g = 0 ∧ q = p + x := by
  have hbit : ∀ j, j < x → X / 2 ^ (p + j) % 2 = cd L m i / 2 ^ (x - 1 - j) % 2 := fun j hj => by
    have e := Int.emod_add_mul_ediv (X / 2 ^ p) (2 ^ x)
    have h2 : X / 2 ^ p / 2 ^ j % 2 ^ 1 = (X / 2 ^ p % 2 ^ x) / 2 ^ j % 2 ^ 1 := by
      conv => lhs; rw [← e]
      exact put_low _ _ j x 1 (by omega)
    rw [hb, div_div] at h2
    rw [← T_bit (cd L m i) x j hj]
    exact h2
  have h2 := Nx.code (L := L) (m := m) (X := X) (nb := nb) (i := i) (N := x) (p := p) hi hx hp hbit (x - 1) 15 1 (by omega) (by omega) (by omega)
  have hc := cd_lt L m i x hf hi hx hx0 hx15
  rw [show x - 1 + 1 = x by omega, Int.ediv_eq_zero_of_lt hc.1 hc.2, show p + (1 - 1) = p by omega] at h2
  exact Nx.one (by omega) hN h2

/-- The fixed code of a symbol, and its length. -/
def fc (i : Nat) : Int := if i < 144 then 48 + i else if i < 256 then 400 + i - 144 else if i < 280 then i - 256 else 192 + i - 280
def fn (i : Nat) : Nat := if i < 144 then 8 else if i < 256 then 9 else if i < 280 then 7 else 8

theorem fl_cd : ∀ i, i < 288 → cd fl 288 i = fc i ∧ fl i = fn i := by decide +kernel
theorem dl_cd : ∀ i, i < 32 → cd dl 32 i = i := by decide +kernel
theorem fl_nw : nw fl 288 true = 0 := by decide +kernel
theorem dl_nw : nw dl 32 true = 0 := by decide +kernel
theorem fl_fits : Fits fl 288 := by unfold Fits; decide +kernel
theorem dl_fits : Fits dl 32 := by unfold Fits; decide +kernel

theorem fn_le (i : Nat) : 7 ≤ fn i ∧ fn i ≤ 9 := by
  unfold fn
  split
  · omega
  · split
    · omega
    · split <;> omega

/-- A symbol's field, a distance's. -/
def sf (i : Nat) : Fd := (T (fc i) (fn i), fn i)
def df (i : Nat) : Fd := (T (i : Int) 5, 5)

/-- A literal, or a copy by its symbols and what stands behind them. -/
inductive It
  | lit (b : Nat)
  | cpy (s v t u : Nat)

def It.ok : It → Prop
  | .lit b => b < 256
  | .cpy s v t u => 257 ≤ s ∧ s ≤ 285 ∧ v < 2 ^ lx s ∧ t < 30 ∧ u < 2 ^ dx t

def It.enc : It → List Fd
  | .lit b => [sf b]
  | .cpy s v t u => [sf s, ((v : Int), lx s), df t, ((u : Int), dx t)]

/-- All of them. -/
def encs : List It → List Fd
  | [] => []
  | i :: l => i.enc ++ encs l

theorem encs_app (a b : List It) : encs (a ++ b) = encs a ++ encs b := by
  induction a with
  | nil => rfl
  | cons i a ih => simp only [List.cons_append, encs, ih, List.append_assoc]

theorem sf_ft (i : Nat) : 0 ≤ (sf i).1 ∧ (sf i).1 < 2 ^ (sf i).2 := T_bound _ _
theorem df_ft (i : Nat) : 0 ≤ (df i).1 ∧ (df i).1 < 2 ^ (df i).2 := T_bound _ _

theorem p2_cast (a b : Nat) (h : a < 2 ^ b) : (a : Int) < 2 ^ b := by
  have := Int.ofNat_lt.2 h
  simpa using this

theorem It.ft {i : It} (h : i.ok) : Ft i.enc := by
  cases i with
  | lit b => exact Ft.cons (sf_ft b).1 (sf_ft b).2 Ft.nil
  | cpy s v t u =>
    obtain ⟨_, _, hv, _, hu⟩ := h
    exact Ft.cons (sf_ft s).1 (sf_ft s).2 (Ft.cons (by simp) (p2_cast _ _ hv) (Ft.cons (df_ft t).1 (df_ft t).2 (Ft.cons (by simp) (p2_cast _ _ hu) Ft.nil)))

theorem encs_ft {l : List It} (h : ∀ i ∈ l, i.ok) : Ft (encs l) := by
  induction l with
  | nil => exact Ft.nil
  | cons i l ih => exact (It.ft (h i (by simp))).app (ih (fun j hj => h j (by simp [hj])))

theorem It.fb_le {i : It} (h : i.ok) : fb i.enc ≤ 32 := by
  cases i with
  | lit b => have := fn_le b; simp only [It.enc, fb, sf]; omega
  | cpy s v t u =>
    obtain ⟨h1, h2, _, h3, _⟩ := h
    have := fn_le s
    have := (lb_le s (by omega) h1).2.2
    have := (db_le t h3).2.2
    simp only [It.enc, fb, sf, df]
    omega

theorem encs_le {l : List It} (h : ∀ i ∈ l, i.ok) : fb (encs l) ≤ 32 * l.length := by
  induction l with
  | nil => simp [encs, fb]
  | cons i l ih =>
    have h1 := It.fb_le (h i (by simp))
    have h2 := ih (fun j hj => h j (by simp [hj]))
    simp only [encs, fb_app, List.length_cons]
    omega

/-- What is there, and k bytes more, each from d behind. -/
def cps : Nat → Nat → List Int → List Int
  | 0, _, os => os
  | k + 1, d, os => cps k d os ++ [(cps k d os).getD ((cps k d os).length - d) 0]

theorem cps_len (k d : Nat) (os : List Int) : (cps k d os).length = os.length + k := by
  induction k with
  | zero => rfl
  | succ k ih => simp [cps, ih]; omega

/-- What literals and copies make behind os, if at most m may come: an error, or 0; what came. -/
def play (m : Nat) : List It → List Int → Int × List Int
  | [], os => (0, os)
  | .lit b :: l, os => if os.length < m then play m l (os ++ [(b : Int)]) else (5, os)
  | .cpy s v t u :: l, os => if os.length < db t + u then (2, os) else if os.length + (lb s + v) ≤ m then play m l (cps (lb s + v) (db t + u) os) else (5, os)

end Go.Proofs.YtjkfmnahmbnbnaaDoor
