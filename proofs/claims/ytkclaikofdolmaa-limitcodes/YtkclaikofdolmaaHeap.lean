/- A heap in a list of places, as mathematics: down, up. -/
import Derived.Test.YtkclaikofdolmaaPm2
namespace Go.Proofs.Ytkclaikofdolmaa
open Go.RowKit

/-- A part and the block where it lies. -/
abbrev It := Nat × Pt

/-- Two places changed. -/
def swp (f : Nat → It) (i j : Nat) : Nat → It := fun k => if k = i then f j else if k = j then f i else f k

theorem swp_left (f : Nat → It) (i j : Nat) : swp f i j i = f j := by simp [swp]
theorem swp_right (f : Nat → It) (i j : Nat) : swp f i j j = f i := by unfold swp; split <;> simp_all
theorem swp_other (f : Nat → It) (i j k : Nat) (h1 : k ≠ i) (h2 : k ≠ j) : swp f i j k = f k := by simp [swp, h1, h2]

/-- The first m, as a list. -/
def fst (f : Nat → It) (m : Nat) : List It := (List.range m).map f

theorem fst_succ (f : Nat → It) (m : Nat) : fst f (m + 1) = fst f m ++ [f m] := by simp [fst, List.range_succ]
theorem fst_len (f : Nat → It) (m : Nat) : (fst f m).length = m := by simp [fst]
theorem fst_mem (f : Nat → It) (m : Nat) (x : It) : x ∈ fst f m ↔ ∃ k, k < m ∧ f k = x := by simp [fst]
theorem fst_congr (f g : Nat → It) (m : Nat) (h : ∀ k, k < m → f k = g k) : fst f m = fst g m := by
  unfold fst
  exact List.map_congr_left (fun k hk => h k (by simpa using hk))

theorem fst_swp (f : Nat → It) (i j m : Nat) (hi : i < m) (hj : j < m) : (fst (swp f i j) m).Perm (fst f m) := by
  induction m generalizing i j with
  | zero => omega
  | succ m ih =>
    rw [fst_succ, fst_succ]
    by_cases h : i < m ∧ j < m
    · rw [swp_other f i j m (by omega) (by omega)]
      exact (List.perm_append_right_iff _).2 (ih i j h.1 h.2)
    · by_cases e : i = j
      · subst e
        have : swp f i i = f := by funext k; unfold swp; split <;> simp_all
        rw [this]
      · -- one of them is m
        have key : ∀ (f : Nat → It) a, a < m → (fst (swp f a m) m ++ [f a]).Perm (fst f m ++ [f m]) := by
          clear ih h hi hj
          intro f a ha
          induction m generalizing f with
          | zero => omega
          | succ m ih =>
            rw [fst_succ, fst_succ]
            by_cases hm : a = m
            · subst hm
              rw [swp_left]
              have : fst (swp f a (a + 1)) a = fst f a := fst_congr _ _ _ (fun k hk => swp_other _ _ _ _ (by omega) (by omega))
              rw [this, List.append_assoc, List.append_assoc]
              exact (List.perm_append_left_iff _).2 (List.Perm.swap _ _ _)
            · rw [swp_other f a (m + 1) m (by omega) (by omega)]
              have h2 := ih (fun k => if k = m then f (m + 1) else f k) (by omega)
              simp only [if_neg (show a ≠ m by omega), if_true] at h2
              have e1 : fst (swp (fun k => if k = m then f (m + 1) else f k) a m) m = fst (swp f a (m + 1)) m := fst_congr _ _ _ (fun k hk => by
                unfold swp
                by_cases hk1 : k = a
                · subst hk1; rw [if_pos rfl, if_pos rfl]; simp
                · rw [if_neg hk1, if_neg hk1, if_neg (by omega), if_neg (by omega)]
                  have : k ≠ m := by omega
                  simp [this])
              have e2 : fst (fun k => if k = m then f (m + 1) else f k) m = fst f m := fst_congr _ _ _ (fun k hk => by simp only [if_neg (show k ≠ m by omega)])
              rw [e1, e2] at h2
              have h3 : (fst (swp f a (m + 1)) m ++ [f m] ++ [f a]).Perm (fst (swp f a (m + 1)) m ++ [f a] ++ [f m]) := by
                rw [List.append_assoc, List.append_assoc]
                exact (List.perm_append_left_iff _).2 (List.Perm.swap _ _ _)
              refine h3.trans (((List.perm_append_right_iff _).2 h2).trans ?_)
              rw [List.append_assoc, List.append_assoc]
              exact (List.perm_append_left_iff _).2 (List.Perm.swap _ _ _)
        rcases Nat.lt_or_ge i m with hi' | hi'
        · obtain rfl : j = m := by omega
          rw [swp_right]
          exact key f i hi'
        · obtain rfl : i = m := by omega
          rw [swp_left]
          have hs : swp f i j = swp f j i := by
            funext k
            unfold swp
            by_cases h1 : k = i
            · by_cases h2 : k = j
              · omega
              · rw [if_pos h1, if_neg h2, if_pos h1]
            · by_cases h2 : k = j
              · rw [if_neg h1, if_pos h2, if_pos h2]
              · rw [if_neg h1, if_neg h2, if_neg h2, if_neg h1]
          rw [hs]
          exact key f j (by omega)

/-- k is a child of j. -/
abbrev Kid (j k : Nat) : Prop := k = 2 * j + 1 ∨ k = 2 * j + 2

/-- From i on all places are below their children, of the first n. -/
def Hp (f : Nat → It) (i n : Nat) : Prop := ∀ j k, i ≤ j → Kid j k → k < n → Ple (f j).2 (f k).2

/-- The same but for place h, whose children are not below the one above it. -/
def Hq (f : Nat → It) (i n h : Nat) : Prop := (∀ j k, i ≤ j → j ≠ h → Kid j k → k < n → Ple (f j).2 (f k).2) ∧ (∀ j k, i ≤ j → Kid j h → Kid h k → k < n → Ple (f j).2 (f k).2)

theorem Hp.toq {f : Nat → It} {i n : Nat} (h : Hp f (i + 1) n) : Hq f i n i :=
  ⟨fun j k hj hne hk hn => h j k (by omega) hk hn, fun j k hj hk _ _ => by unfold Kid at hk; omega⟩

/-- It sinks by one. -/
theorem Hq.sink {f : Nat → It} {i n h k : Nat} (hq : Hq f i n h) (hi : i ≤ h) (hk : Kid h k) (hn : k < n) (hle : Ple (f k).2 (f h).2) (hmin : ∀ k', Kid h k' → k' < n → Ple (f k).2 (f k').2) : Hq (swp f h k) i n k := by
  have hkh : k ≠ h := by unfold Kid at hk; omega
  refine ⟨fun j l hj hne hl hln => ?_, fun j l hj hjk hkl hln => ?_⟩
  · by_cases e : j = h
    · subst e
      rw [swp_left]
      by_cases e2 : l = k
      · subst e2; rw [swp_right]; exact hle
      · rw [swp_other f j k l (by unfold Kid at hl; omega) e2]
        exact hmin l hl hln
    · rw [swp_other f h k j e hne]
      by_cases e2 : l = h
      · subst e2
        rw [swp_left]
        exact hq.2 j k hj hl hk hn
      · have e3 : l ≠ k := by unfold Kid at hl hk; omega
        rw [swp_other f h k l e2 e3]
        exact hq.1 j l hj e hl hln
  · have e : j = h := by unfold Kid at hjk hk; omega
    subst e
    rw [swp_left, swp_other f j k l (by unfold Kid at hkl hk; omega) (by unfold Kid at hkl; omega)]
    exact hq.1 k l (by unfold Kid at hk; omega) hkh hkl hln

theorem Hq.rest {f : Nat → It} {i n h : Nat} (hq : Hq f i n h) (hmin : ∀ k, Kid h k → k < n → Ple (f h).2 (f k).2) : Hp f i n := by
  intro j k hj hk hn
  by_cases e : j = h
  · subst e; exact hmin k hk hn
  · exact hq.1 j k hj e hk hn

/-- The root is the least. -/
theorem Hp.root {f : Nat → It} {n : Nat} (h : Hp f 0 n) (k : Nat) (hk : k < n) : Ple (f 0).2 (f k).2 := by
  induction k using Nat.strongRecOn with
  | ind k ih =>
    cases k with
    | zero => exact Ple.refl _
    | succ k => exact (ih (k / 2) (by omega) (by omega)).trans (h (k / 2) (k + 1) (by omega) (by unfold Kid; omega) hk)

/-- All places are below their children but that h may be above its own parent; h's children are not below that. -/
def Hr (f : Nat → It) (n h : Nat) : Prop := (∀ j k, k ≠ h → Kid j k → k < n → Ple (f j).2 (f k).2) ∧ (∀ j k, Kid j h → Kid h k → k < n → Ple (f j).2 (f k).2)

theorem Hp.tor {f : Nat → It} {n : Nat} (h : Hp f 0 n) : Hr f (n + 1) n :=
  ⟨fun j k hne hk hn => h j k (by omega) hk (by omega), fun j k _ hk hn => by unfold Kid at hk; omega⟩

theorem Hr.rise {f : Nat → It} {n h j : Nat} (hr : Hr f n h) (hn : h < n) (hj : Kid j h) (hle : Ple (f h).2 (f j).2) : Hr (swp f j h) n j := by
  have hjh : j ≠ h := by unfold Kid at hj; omega
  refine ⟨fun a k hne hk hkn => ?_, fun a k ha hk hkn => ?_⟩
  · by_cases e : a = j
    · subst e
      rw [swp_left]
      by_cases e2 : k = h
      · subst e2; rw [swp_right]; exact hle
      · rw [swp_other f a h k hne e2]
        exact hle.trans (hr.1 a k e2 hk hkn)
    · by_cases e2 : a = h
      · subst e2
        rw [swp_right, swp_other f j a k hne (by unfold Kid at hk; omega)]
        exact hr.2 j k hj hk hkn
      · have e3 : k ≠ h := by unfold Kid at hk hj; omega
        rw [swp_other f j h a e e2, swp_other f j h k hne e3]
        exact hr.1 a k e3 hk hkn
  · have e0 : a ≠ j := by unfold Kid at ha; omega
    have e1 : a ≠ h := by unfold Kid at ha hj; omega
    rw [swp_other f j h a e0 e1]
    have h1 := hr.1 a j hjh ha (by unfold Kid at hj; omega)
    by_cases e2 : k = h
    · subst e2; rw [swp_right]; exact h1
    · rw [swp_other f j h k (by unfold Kid at hk; omega) e2]
      exact h1.trans (hr.1 j k e2 hk hkn)

theorem Hr.rest {f : Nat → It} {n h : Nat} (hr : Hr f n h) (hle : ∀ j, Kid j h → Ple (f j).2 (f h).2) : Hp f 0 n := by
  intro j k _ hk hn
  by_cases e : k = h
  · subst e; exact hle j hk
  · exact hr.1 j k e hk hn

/-- Strictly rarer, or as rare and earlier. -/
def Pls (a b : Pt) : Bool := if a.ct = b.ct then decide (a.pl < b.pl) else decide (a.ct < b.ct)

theorem Pls_yes {a b : Pt} (h : Pls a b = true) : Ple a b := by
  unfold Pls at h
  unfold Ple
  split at h <;> simp at h <;> omega

theorem Pls_no {a b : Pt} (h : Pls a b = false) : Ple b a := by
  unfold Pls at h
  unfold Ple
  split at h <;> simp at h <;> omega

end Go.Proofs.Ytkclaikofdolmaa
