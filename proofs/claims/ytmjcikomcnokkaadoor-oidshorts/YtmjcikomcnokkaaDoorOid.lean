/- Names of objects as lists of twenty numbers; their signs. -/
import Derived.WalkKit
namespace Go.Proofs.YtmjcikomcnokkaaDoor
open Go.RowKit

/-- A number below sixteen as a sign. -/
def sg (k : Int) : Int := if k < 10 then 48 + k else 87 + k

/-- The signs of some bytes. -/
def hx : List Int → List Int
  | [] => []
  | b :: r => sg (b / 16) :: sg (b % 16) :: hx r

/-- Is it a sign? -/
abbrev isS (c : Int) : Prop := (48 ≤ c ∧ c ≤ 57) ∨ (97 ≤ c ∧ c ≤ 102)

/-- A sign's number. -/
def dg (c : Int) : Int := if c ≤ 57 then c - 48 else c - 87

/-- Signs as bytes, two each. -/
def pr : List Int → List Int
  | a :: b :: r => (16 * dg a + dg b) :: pr r
  | _ => []

/-- A name. -/
def IsId (x : List Int) : Prop := x.length = 20 ∧ ∀ b ∈ x, 0 ≤ b ∧ b < 256


theorem sg_is (k : Int) (h0 : 0 ≤ k) (h1 : k < 16) : isS (sg k) := by unfold isS sg; split <;> omega

theorem dg_sg (k : Int) (h0 : 0 ≤ k) (h1 : k < 16) : dg (sg k) = k := by unfold dg sg; split <;> split <;> omega

theorem sg_dg (c : Int) (h : isS c) : sg (dg c) = c := by unfold isS at h; unfold dg sg; split <;> split <;> omega

theorem dg_b (c : Int) (h : isS c) : 0 ≤ dg c ∧ dg c < 16 := by unfold isS at h; unfold dg; split <;> omega

theorem sg_b (k : Int) (h0 : 0 ≤ k) (h1 : k < 16) : 0 ≤ sg k ∧ sg k < 256 := by unfold sg; split <;> omega

theorem sg_inj (a b : Int) (h0 : 0 ≤ a) (h1 : a < 16) (g0 : 0 ≤ b) (g1 : b < 16) (e : sg a = sg b) : a = b := by rw [← dg_sg a h0 h1, e, dg_sg b g0 g1]

theorem sg_lt (a b : Int) (h1 : a < 16) (g1 : b < 16) (h0 : 0 ≤ a) (g0 : 0 ≤ b) : sg a < sg b ↔ a < b := by unfold sg; split <;> split <;> omega

theorem hx_len (x : List Int) : (hx x).length = 2 * x.length := by
  induction x with
  | nil => rfl
  | cons b r ih => simp [hx, ih]; omega

theorem hx_app (x y : List Int) : hx (x ++ y) = hx x ++ hx y := by
  induction x with
  | nil => rfl
  | cons b r ih => simp [hx, ih]

theorem hx_byt (x : List Int) (h : ∀ b ∈ x, 0 ≤ b ∧ b < 256) : ∀ c ∈ hx x, isS c ∧ 0 ≤ c ∧ c < 256 := by
  induction x with
  | nil => simp [hx]
  | cons b r ih =>
    have hb := h b (by simp)
    have i := ih (fun c hc => h c (by simp [hc]))
    intro c hc
    simp only [hx, List.mem_cons] at hc
    rcases hc with rfl | rfl | hc
    · exact ⟨sg_is _ (by omega) (by omega), sg_b _ (by omega) (by omega)⟩
    · exact ⟨sg_is _ (by omega) (by omega), sg_b _ (by omega) (by omega)⟩
    · exact i c hc

theorem pr_hx (x : List Int) (h : ∀ b ∈ x, 0 ≤ b ∧ b < 256) : pr (hx x) = x := by
  induction x with
  | nil => rfl
  | cons b r ih =>
    have hb := h b (by simp)
    have i := ih (fun c hc => h c (by simp [hc]))
    simp only [hx, pr, i, dg_sg (b / 16) (by omega) (by omega), dg_sg (b % 16) (by omega) (by omega)]
    congr 1
    omega

theorem hx_pr : ∀ (s : List Int), s.length % 2 = 0 → (∀ c ∈ s, isS c) → hx (pr s) = s
  | [], _, _ => rfl
  | [a], h, _ => by simp at h
  | a :: b :: r, h, hs => by
    have ha := hs a (by simp)
    have hb := hs b (by simp)
    have da := dg_b a ha
    have db := dg_b b hb
    have e1 : (16 * dg a + dg b) / 16 = dg a := by omega
    have e2 : (16 * dg a + dg b) % 16 = dg b := by omega
    have i := hx_pr r (by simp at h; omega) (fun c hc => hs c (by simp [hc]))
    simp only [pr, hx, e1, e2, sg_dg a ha, sg_dg b hb, i]

theorem pr_len : ∀ (s : List Int), (pr s).length = s.length / 2
  | [] => rfl
  | [a] => by simp [pr]
  | a :: b :: r => by simp [pr, pr_len r]; omega

theorem pr_byt : ∀ (s : List Int), (∀ c ∈ s, isS c) → ∀ b ∈ pr s, 0 ≤ b ∧ b < 256
  | [], _, b, h => by simp [pr] at h
  | [a], _, b, h => by simp [pr] at h
  | x :: y :: r, hs, b, h => by
    have dx := dg_b x (hs x (by simp))
    have dy := dg_b y (hs y (by simp))
    simp only [pr, List.mem_cons] at h
    rcases h with rfl | h
    · omega
    · exact pr_byt r (fun c hc => hs c (by simp [hc])) b h

theorem pr_id (s : List Int) (hl : s.length = 40) (hs : ∀ c ∈ s, isS c) : IsId (pr s) := ⟨by rw [pr_len, hl], pr_byt s hs⟩

theorem hx_inj (x y : List Int) (hx' : ∀ b ∈ x, 0 ≤ b ∧ b < 256) (hy : ∀ b ∈ y, 0 ≤ b ∧ b < 256) (e : hx x = hx y) : x = y := by
  rw [← pr_hx x hx', e, pr_hx y hy]

/-- A name's byte. -/
def bt (x : List Int) (j : Nat) : Int := x.getD j 0

theorem bt_get {x : List Int} {j : Nat} (h : j < x.length) : bt x j = x[j] := by simp [bt, List.getD, List.getElem?_eq_getElem h]

theorem bt_some {x : List Int} {j : Nat} (h : j < x.length) : x[j]? = some (bt x j) := by rw [bt_get h, List.getElem?_eq_getElem h]

theorem IsId.at {x : List Int} (h : IsId x) (j : Nat) (hj : j < 20) : 0 ≤ bt x j ∧ bt x j < 256 := by
  have hl := h.1
  unfold bt
  apply h.2
  rw [List.getD, List.getElem?_eq_getElem (by omega : j < x.length)]
  simp

/-- One list ahead of another. -/
def ltl : List Int → List Int → Bool
  | [], [] => false
  | [], _ :: _ => true
  | _ :: _, [] => false
  | a :: r, b :: s => if a < b then true else if b < a then false else ltl r s

theorem ltl_irr : ∀ x, ltl x x = false
  | [] => rfl
  | a :: r => by simp [ltl, ltl_irr r]

theorem ltl_total : ∀ x y, ltl x y = false → ltl y x = false → x = y
  | [], [], _, _ => rfl
  | [], _ :: _, h, _ => by simp [ltl] at h
  | _ :: _, [], _, h => by simp [ltl] at h
  | a :: r, b :: s, h, g => by
    by_cases h1 : a < b
    · simp [ltl, h1] at h
    · by_cases h2 : b < a
      · simp [ltl, h2] at g
      · have e : a = b := by omega
        subst e
        simp [ltl] at h g
        rw [ltl_total r s h g]

theorem ltl_asym : ∀ x y, ltl x y = true → ltl y x = false
  | [], [], h => by simp [ltl] at h
  | [], _ :: _, _ => rfl
  | _ :: _, [], h => by simp [ltl] at h
  | a :: r, b :: s, h => by
    by_cases h1 : a < b
    · simp [ltl, h1, show ¬ b < a by omega]
    · by_cases h2 : b < a
      · simp [ltl, h1, h2] at h
      · simp [ltl, h1, h2] at h ⊢
        exact ltl_asym r s h

theorem ltl_trans : ∀ x y z, ltl x y = true → ltl y z = true → ltl x z = true
  | [], [], _, h, _ => by simp [ltl] at h
  | _ :: _, [], _, h, _ => by simp [ltl] at h
  | _, _ :: _, [], _, h => by simp [ltl] at h
  | [], _ :: _, _ :: _, _, _ => rfl
  | a :: r, b :: s, c :: t, h, g => by
    by_cases h1 : a < b
    · by_cases g1 : b < c
      · simp [ltl, show a < c by omega]
      · by_cases g2 : c < b
        · simp [ltl, g1, g2] at g
        · simp [ltl, show a < c by omega]
    · by_cases h2 : b < a
      · simp [ltl, h1, h2] at h
      · have e : a = b := by omega
        subst e
        simp [ltl] at h
        by_cases g1 : a < c
        · simp [ltl, g1]
        · by_cases g2 : c < a
          · simp [ltl, g1, g2] at g
          · simp [ltl, g1, g2] at g ⊢
            exact ltl_trans r s t h g

/-- The order of names is that of their signs. -/
theorem ltl_hx : ∀ x y, (∀ b ∈ x, 0 ≤ b ∧ b < 256) → (∀ b ∈ y, 0 ≤ b ∧ b < 256) → ltl (hx x) (hx y) = ltl x y
  | [], [], _, _ => rfl
  | [], _ :: _, _, _ => rfl
  | _ :: _, [], _, _ => rfl
  | a :: r, b :: s, h, g => by
    have ha := h a (by simp)
    have hb := g b (by simp)
    have i := ltl_hx r s (fun c hc => h c (by simp [hc])) (fun c hc => g c (by simp [hc]))
    have l1 := sg_lt (a / 16) (b / 16) (by omega) (by omega) (by omega) (by omega)
    have l2 := sg_lt (b / 16) (a / 16) (by omega) (by omega) (by omega) (by omega)
    have l3 := sg_lt (a % 16) (b % 16) (by omega) (by omega) (by omega) (by omega)
    have l4 := sg_lt (b % 16) (a % 16) (by omega) (by omega) (by omega) (by omega)
    simp only [hx, ltl, l1, l2, l3, l4, i]
    by_cases h1 : a / 16 < b / 16
    · rw [if_pos h1, if_pos (by omega)]
    · rw [if_neg h1]
      by_cases h2 : b / 16 < a / 16
      · rw [if_pos h2, if_neg (by omega), if_pos (by omega)]
      · rw [if_neg h2]
        by_cases h3 : a % 16 < b % 16
        · rw [if_pos h3, if_pos (by omega)]
        · rw [if_neg h3]
          by_cases h4 : b % 16 < a % 16
          · rw [if_pos h4, if_neg (by omega), if_pos (by omega)]
          · rw [if_neg h4, if_neg (by omega), if_neg (by omega)]

end Go.Proofs.YtmjcikomcnokkaaDoor
