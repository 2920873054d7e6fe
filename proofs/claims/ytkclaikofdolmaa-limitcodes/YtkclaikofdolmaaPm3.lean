/- The lengths that the packages give, as the code's own arithmetic. -/
import Derived.Test.YtkclaikofdolmaaPm2
import Derived.Test.YtkclaikofdolmaaWCost
namespace Go.Proofs.Ytkclaikofdolmaa
open Go.RowKit

/-- Lengths that are a best code's. -/
structure Gd (D : Nat → Int) (n m : Nat) (L : Nat → Int) : Prop where
  pos : ∀ j, j < n → 0 < D j → 1 ≤ L j ∧ L j ≤ m
  zer : ∀ j, j < n → ¬ 0 < D j → L j = 0
  full : 2 ≤ (sy D n).length → ∀ K, m ≤ K → G L K n = 2 ^ K
  one : (sy D n).length < 2 → ∀ j, j < n → 0 < D j → L j = 1
  cost : CS L D n = lc D n m

theorem G_sy (D L : Nat → Int) (K : Nat) : ∀ n, (∀ j, j < n → 0 < D j → 1 ≤ L j ∧ L j ≤ K) → (∀ j, j < n → ¬ 0 < D j → L j = 0) → G L K n = sm (fun s => (2 : Int) ^ (K - (L s).toNat)) (sy D n)
  | 0, _, _ => rfl
  | n + 1, h1, h2 => by
    have ih := G_sy D L K n (fun j hj => h1 j (by omega)) (fun j hj => h2 j (by omega))
    simp only [G, sy]
    by_cases hp : 0 < D n
    · have := h1 n (by omega) hp
      rw [if_pos hp, if_pos (by omega), sm_append, ih]
      simp [sm]
    · have := h2 n (by omega) hp
      rw [if_neg hp, if_neg (by omega), ih, Int.add_zero]

theorem CS_sy (D L : Nat → Int) : ∀ n, (∀ j, j < n → ¬ 0 < D j → L j = 0) → CS L D n = sm (fun s => D s * L s) (sy D n)
  | 0, _ => rfl
  | n + 1, h2 => by
    have ih := CS_sy D L n (fun j hj => h2 j (by omega))
    simp only [CS, sy]
    by_cases hp : 0 < D n
    · rw [if_pos hp, sm_append, ih]
      simp only [sm]
      rw [Int.mul_comm]
      omega
    · rw [if_neg hp, ih, h2 n (by omega) hp]
      omega

/-- The lengths of the first packages. -/
theorem gd_many (D : Nat → Int) (n i : Nat) (hD : ∀ j, j < n → 0 ≤ D j ∧ D j ≤ 16777216) (ys : List Pt) (hr : Rw (lvs D n) i ys) (h2 : 2 ≤ (sy D n).length) (hm : (sy D n).length ≤ 2 ^ (i + 1)) : Gd D n (i + 1) (fun j => (bt ys (sy D n).length j : Int)) := by
  have hS := lvs_sy D n hD
  obtain ⟨p1, p2', p3, p4, _, _⟩ := pm_main hS hr h2 hm
  have hpos : ∀ j, j < n → 0 < D j → 1 ≤ (bt ys (sy D n).length j : Int) ∧ (bt ys (sy D n).length j : Int) ≤ ((i + 1 : Nat) : Int) := fun j hj hp => by
    have := p1 j ((sy_mem D n j).2 ⟨hj, hp⟩)
    omega
  have hzer : ∀ j, j < n → ¬ 0 < D j → (bt ys (sy D n).length j : Int) = 0 := fun j hj hp => by
    have := p2' j (fun h => hp ((sy_mem D n j).1 h).2)
    omega
  refine ⟨hpos, hzer, fun _ K hK => ?_, fun h => by omega, ?_⟩
  · rw [G_sy D _ K n (fun j hj hp => by have := hpos j hj hp; omega) hzer]
    have e1 : sm (fun s => (2 : Int) ^ (K - ((bt ys (sy D n).length s : Nat) : Int).toNat)) (sy D n) = 2 ^ (K - (i + 1)) * sm (fun s => (2 : Int) ^ (i + 1 - bt ys (sy D n).length s)) (sy D n) := by
      have hg : ∀ l : List Nat, (∀ s ∈ l, s ∈ sy D n) → sm (fun s => (2 : Int) ^ (K - ((bt ys (sy D n).length s : Nat) : Int).toNat)) l = 2 ^ (K - (i + 1)) * sm (fun s => (2 : Int) ^ (i + 1 - bt ys (sy D n).length s)) l := by
        intro l hl
        induction l with
        | nil => simp [sm]
        | cons s l ih =>
          have h1 := p1 s (hl s (by simp))
          simp only [sm]
          rw [ih (fun x hx => hl x (by simp [hx])), Int.mul_add, ← Int.pow_add, Int.toNat_natCast, show K - (i + 1) + (i + 1 - bt ys (sy D n).length s) = K - bt ys (sy D n).length s by omega]
      exact hg _ (fun s h => h)
    rw [e1, p3, ← Int.pow_add, show K - (i + 1) + (i + 1) = K by omega]
  · rw [CS_sy D _ n hzer, p4, lc, if_neg (by omega), ← hr.row (so D n) (so_up D n) (lvs_ct D n), ← List.map_take, sm_map]
    rfl

/-- One symbol, or none. -/
theorem gd_few (D : Nat → Int) (n m : Nat) (h2 : (sy D n).length < 2) (hm : 1 ≤ m) (L : Nat → Int) (h1 : ∀ j, j < n → 0 < D j → L j = 1) (h0 : ∀ j, j < n → ¬ 0 < D j → L j = 0) : Gd D n m L := by
  refine ⟨fun j hj hp => by have := h1 j hj hp; omega, h0, fun h => by omega, fun _ => h1, ?_⟩
  rw [CS_sy D L n h0, lc, if_pos h2]
  have hp := so_perm D n
  have hl := so_len D n
  match hq : sy D n, h2 with
  | [], _ =>
    rw [hq] at hl
    have : so D n = [] := List.eq_nil_of_length_eq_zero hl
    rw [this]; rfl
  | [s], _ =>
    rw [hq] at hp
    have e : so D n = [D s] := List.perm_singleton.1 (by simpa using hp)
    have hs := (sy_mem D n s).1 (by rw [hq]; simp)
    rw [e]
    simp only [sm, List.headD_cons]
    rw [h1 s hs.1 hs.2]
    omega
  | a :: b :: r, h => simp at h; omega

theorem p2_nat (m : Nat) : ((2 ^ m : Nat) : Int) = 2 ^ m := by simp

/-- What a best code's lengths are to the code's own tests. -/
theorem Gd.kraft {D L : Nat → Int} {n m : Nat} (h : Gd D n m L) (hm : m ≤ 15) : (2 ≤ (sy D n).length → G L 15 n = 32768) ∧ ((sy D n).length < 2 → G L 15 n = (sy D n).length * 16384) := by
  refine ⟨fun h2 => h.full h2 15 hm, fun h2 => ?_⟩
  rw [G_sy D L 15 n (fun j hj hp => by have := h.one h2 j hj hp; omega) h.zer]
  have hg : ∀ l : List Nat, (∀ s ∈ l, s ∈ sy D n) → sm (fun s => (2 : Int) ^ (15 - (L s).toNat)) l = l.length * 16384 := by
    intro l hl
    induction l with
    | nil => simp [sm]
    | cons s l ih =>
      have hs := (sy_mem D n s).1 (hl s (by simp))
      have h1 := h.one h2 s hs.1 hs.2
      simp only [sm, List.length_cons]
      rw [ih (fun x hx => hl x (by simp [hx])), h1]
      have : (2 : Int) ^ (15 - (1 : Int).toNat) = 16384 := by decide
      rw [this]
      omega
  exact hg _ (fun s h => h)

theorem SM_sy (D L : Nat → Int) : ∀ n, (∀ j, j < n → ¬ 0 < D j → L j = 0) → SM L n = sm L (sy D n)
  | 0, _ => rfl
  | n + 1, h2 => by
    have ih := SM_sy D L n (fun j hj => h2 j (by omega))
    simp only [SM, sy]
    by_cases hp : 0 < D n
    · rw [if_pos hp, sm_append, ih]
      simp [sm]
    · rw [if_neg hp, ih, h2 n (by omega) hp, Int.add_zero]

theorem Gd.lm {D L : Nat → Int} {n m : Nat} (h : Gd D n m L) (hm : m ≤ 15) : ∀ j, j < n → Lm (L j) := fun j hj => by
  by_cases hp : 0 < D j
  · have := h.pos j hj hp
    exact ⟨by omega, by omega⟩
  · have := h.zer j hj hp
    exact ⟨by omega, by omega⟩

theorem Gd.er {D L : Nat → Int} {n m : Nat} (h : Gd D n m L) (hm : m ≤ 15) (hn : n ≤ 288) : er L n = 0 := by
  have hk := h.kraft hm
  have hl : (sy D n).length ≤ n := sy_le D n
  have : G L 15 n ≤ 32768 := by
    by_cases h2 : 2 ≤ (sy D n).length
    · have := hk.1 h2; omega
    · have := hk.2 (by omega); omega
  unfold Ytkclaikofdolmaa.er
  rw [if_pos ((okL_iff L n).2 ⟨hn, h.lm hm⟩), if_neg (by omega)]

theorem Gd.nw {D L : Nat → Int} {n m : Nat} (h : Gd D n m L) (hm : m ≤ 15) (hn : n ≤ 288) : nw L n true = 0 := by
  unfold Ytkclaikofdolmaa.nw
  rw [if_pos (h.er hm hn), if_pos]
  by_cases h2 : 2 ≤ (sy D n).length
  · left
    unfold fu
    rw [(okL_iff L n).2 ⟨hn, h.lm hm⟩, (h.kraft hm).1 h2]
    rfl
  · right
    refine ⟨rfl, ?_⟩
    rw [SM_sy D L n h.zer]
    have hg : ∀ l : List Nat, (∀ s ∈ l, s ∈ sy D n) → sm L l = l.length := by
      intro l hl
      induction l with
      | nil => simp [sm]
      | cons s l ih =>
        have hs := (sy_mem D n s).1 (hl s (by simp))
        have h1 := h.one (by omega) s hs.1 hs.2
        simp only [sm, List.length_cons]
        rw [ih (fun x hx => hl x (by simp [hx])), h1]
        omega
    rw [hg _ (fun s h => h)]
    omega

end Go.Proofs.Ytkclaikofdolmaa
