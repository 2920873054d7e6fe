/- Fronts of names. -/
import Derived.Test.YtmjcikomcnokkaaDoorNwU
import Derived.Test.YtmjcikomcnokkaaDoorWFao
import Derived.Test.YtmjcikomcnokkaaDoorWPdq
import Derived.Test.YtmjcikomcnokkaaDoorWKnown
namespace Go.Proofs.YtmjcikomcnokkaaDoor
open Go.RowKit

/-- Does the name x begin with the signs p? -/
def pf (p x : List Int) : Prop := (hx x).take p.length = p

theorem lo_min : ∀ (m : Nat) (X : List Int), X.length = m → (∀ c ∈ X, isS c) → ltl X (List.replicate m 48) = false
  | 0, [], _, _ => rfl
  | m + 1, c :: X, hl, hs => by
    have hc := hs c (by simp)
    have ih := lo_min m X (by simpa using hl) (fun d hd => hs d (by simp [hd]))
    rw [List.replicate_succ]
    unfold isS at hc
    simp only [ltl]
    rw [if_neg (by omega), ih]
    split <;> rfl

theorem hi_max : ∀ (m : Nat) (X : List Int), X.length = m → (∀ c ∈ X, isS c) → ltl (List.replicate m 102) X = false
  | 0, [], _, _ => rfl
  | m + 1, c :: X, hl, hs => by
    have hc := hs c (by simp)
    have ih := hi_max m X (by simpa using hl) (fun d hd => hs d (by simp [hd]))
    rw [List.replicate_succ]
    unfold isS at hc
    simp only [ltl]
    rw [if_neg (by omega), ih]
    split <;> rfl

theorem in_iff : ∀ (p X : List Int) (m : Nat), X.length = p.length + m → (∀ c ∈ X, isS c) → ((ltl X (p ++ List.replicate m 48) = false ∧ ltl (p ++ List.replicate m 102) X = false) ↔ X.take p.length = p)
  | [], X, m, hl, hs => by
    have h1 := lo_min m X (by simpa using hl) hs
    have h2 := hi_max m X (by simpa using hl) hs
    simp [h1, h2]
  | a :: p, [], m, hl, _ => by simp at hl; omega
  | a :: p, c :: X, m, hl, hs => by
    have ih := in_iff p X m (by simp at hl; omega) (fun d hd => hs d (by simp [hd]))
    simp only [List.cons_append, ltl, List.length_cons, List.take_succ_cons, List.cons.injEq]
    by_cases h1 : c < a
    · simp [h1, show ¬ a < c by omega, show ¬ c = a by omega]
    · by_cases h2 : a < c
      · simp [h1, h2, show ¬ c = a by omega]
      · have e : c = a := by omega
        subst e
        simp only [Int.lt_irrefl, if_false, true_and]
        exact ih

/-- A name begins with p just if it is within the two names that p is filled up to. -/
theorem pf_iff {p x : List Int} (hp : p.length ≤ 40) (hs : ∀ c ∈ p, isS c) (hx0 : IsId x) : (ltl x (pr (full p 48)) = false ∧ ltl (pr (full p 102)) x = false) ↔ pf p x := by
  have l1 := full_len p 48 hp
  have l2 := full_len p 102 hp
  have s1 := full_isS p 48 hs (by decide)
  have s2 := full_isS p 102 hs (by decide)
  have b1 := pr_byt (full p 48) s1
  have b2 := pr_byt (full p 102) s2
  rw [← ltl_hx x _ hx0.2 b1, ← ltl_hx _ x b2 hx0.2, hx_pr _ (by rw [l1]) s1, hx_pr _ (by rw [l2]) s2]
  have hl : (hx x).length = p.length + (40 - p.length) := by rw [hx_len, hx0.1]; omega
  exact in_iff p (hx x) (40 - p.length) hl (fun c hc => (hx_byt x hx0.2 c hc).1)

theorem up_mono2 {d : Array (List Int)} {n : Nat} (hn : d.size = n) (h : Up d) (z : List Int) : ∀ i j, i ≤ j → j < n → (fun i : Nat => ltl z d[i]!) i = true → (fun i : Nat => ltl z d[i]!) j = true := by
  intro i j hij hj hi
  by_cases e : i = j
  · subst e; exact hi
  · exact ltl_trans _ _ _ hi (h i j (by omega) (by omega))

/-- The names that begin with p stand side by side. -/
structure Iv (r : Array (List Int)) (p : List Int) (a b : Nat) : Prop where
  le : a ≤ r.size ∧ b ≤ r.size
  iff : ∀ q, q < r.size → (pf p r[q]! ↔ a ≤ q ∧ q < b)

theorem iv_of {r : Array (List Int)} {p : List Int} {a b : Nat} (hp : p.length ≤ 40) (hs : ∀ c ∈ p, isS c) (hids : ∀ i, i < r.size → IsId r[i]!) (ha : Fst r.size (fun i : Nat => !ltl r[i]! (pr (full p 48))) a) (hb : Fst r.size (fun i : Nat => ltl (pr (full p 102)) r[i]!) b) : Iv r p a b := by
  refine ⟨⟨ha.1, hb.1⟩, fun q hq => ?_⟩
  rw [← pf_iff hp hs (hids q hq)]
  constructor
  · rintro ⟨h1, h2⟩
    constructor
    · by_cases h : q < a
      · have : (!ltl r[q]! (pr (full p 48))) = false := ha.2.1 q h
        rw [h1] at this
        cases this
      · omega
    · by_cases h : b ≤ q
      · have : ltl (pr (full p 102)) r[q]! = true := hb.2.2 q h hq
        rw [h2] at this
        cases this
      · omega
  · rintro ⟨h1, h2⟩
    have e1 : (!ltl r[q]! (pr (full p 48))) = true := ha.2.2 q h1 hq
    have e2 : ltl (pr (full p 102)) r[q]! = false := hb.2.1 q h2
    exact ⟨by simpa using e1, e2⟩

/-- What Match answers. -/
inductive Mt (r : Array (List Int)) (p : List Int) : List Int → Int → Prop
  | none : (∀ q, q < r.size → ¬ pf p r[q]!) → Mt r p z20 6
  | many (i j : Nat) : i < j → j < r.size → pf p r[i]! → pf p r[j]! → Mt r p z20 9
  | one (i : Nat) : i < r.size → pf p r[i]! → (∀ q, q < r.size → pf p r[q]! → q = i) → Mt r p r[i]! 0

theorem Mt.uniq {r : Array (List Int)} {p x y : List Int} {e f : Int} (h : Mt r p x e) (g : Mt r p y f) : x = y ∧ e = f := by
  cases h with
  | none h =>
    cases g with
    | none g => exact ⟨rfl, rfl⟩
    | many i j h1 h2 h3 h4 => exact absurd h4 (h j h2)
    | one i h1 h2 h3 => exact absurd h2 (h i h1)
  | many i j h1 h2 h3 h4 =>
    cases g with
    | none g => exact absurd h4 (g j h2)
    | many i j h1 h2 h3 h4 => exact ⟨rfl, rfl⟩
    | one k g1 g2 g3 =>
      have a := g3 i (by omega) h3
      have b := g3 j h2 h4
      omega
  | one k g1 g2 g3 =>
    cases g with
    | none g => exact absurd g2 (g k g1)
    | many i j h1 h2 h3 h4 =>
      have a := g3 i (by omega) h3
      have b := g3 j h2 h4
      omega
    | one i h1 h2 h3 =>
      have := g3 i h1 h2
      subst this
      exact ⟨rfl, rfl⟩

theorem mt_none {r : Array (List Int)} {p : List Int} {a b : Nat} (h : Iv r p a b) (hab : b ≤ a) : Mt r p z20 6 := .none (fun q hq hp => by have := (h.iff q hq).1 hp; omega)
theorem mt_many {r : Array (List Int)} {p : List Int} {a b : Nat} (h : Iv r p a b) (hab : a + 1 < b) : Mt r p z20 9 := by
  have := h.le
  exact .many a (a + 1) (by omega) (by omega) ((h.iff a (by omega)).2 ⟨by omega, by omega⟩) ((h.iff (a + 1) (by omega)).2 ⟨by omega, by omega⟩)
theorem mt_one {r : Array (List Int)} {p : List Int} {a b : Nat} (h : Iv r p a b) (hab : a + 1 = b) : Mt r p r[a]! 0 := by
  have := h.le
  exact .one a (by omega) ((h.iff a (by omega)).2 ⟨by omega, by omega⟩) (fun q hq hp => by have := (h.iff q hq).1 hp; omega)

/-- Signs that two names have both, from the front. -/
structure Cm (x y : List Int) (c : Nat) : Prop where
  le : c ≤ 40
  eq : ∀ j, j < c → bt (hx x) j = bt (hx y) j
  ne : c < 40 → bt (hx x) c ≠ bt (hx y) c

theorem bt_take {x : List Int} {j n : Nat} (h : j < n) : bt (x.take n) j = bt x j := by
  unfold bt
  rw [List.getD, List.getD, List.getElem?_take, if_pos h]

theorem take_eq {X Y : List Int} {n : Nat} (hX : X.length = 40) (hY : Y.length = 40) (hn : n ≤ 40) : X.take n = Y.take n ↔ ∀ j, j < n → bt X j = bt Y j := by
  constructor
  · intro h j hj
    rw [← bt_take hj, h, bt_take hj]
  · intro h
    refine List.ext_getElem (by simp; omega) (fun j h1 h2 => ?_)
    have hj : j < n := by simp at h1; omega
    have e := h j hj
    rw [bt_get (by omega), bt_get (by omega)] at e
    simpa using e

theorem hx40 {x : List Int} (h : IsId x) : (hx x).length = 40 := by rw [hx_len, h.1]

/-- At least n signs are alike just if the fronts of n signs are. -/
theorem Cm.iff {x y : List Int} {c n : Nat} (h : Cm x y c) (hx0 : IsId x) (hy0 : IsId y) (hn : n ≤ 40) : n ≤ c ↔ pf ((hx x).take n) y := by
  unfold pf
  have hl : ((hx x).take n).length = n := by simp [hx40 hx0]; omega
  rw [hl, take_eq (hx40 hy0) (hx40 hx0) hn]
  constructor
  · intro hc j hj
    exact (h.eq j (by omega)).symm
  · intro hj
    by_cases hc : n ≤ c
    · exact hc
    · exact absurd (hj c (by omega)).symm (h.ne (by omega))

theorem cm_all {x y : List Int} (h : Cm x y 40) (hx0 : IsId x) (hy0 : IsId y) : x = y := by
  have := (h.iff hx0 hy0 (Nat.le_refl _)).1 (Nat.le_refl _)
  unfold pf at this
  have e1 : (hx x).take 40 = hx x := List.take_of_length_le (by rw [hx40 hx0]; exact Nat.le_refl _)
  rw [e1, hx40 hx0] at this
  have e2 : (hx y).take 40 = hx y := List.take_of_length_le (by rw [hx40 hy0]; exact Nat.le_refl _)
  rw [e2] at this
  exact hx_inj x y hx0.2 hy0.2 this.symm

/-- How many signs tell the k-th name. -/
structure Sh (r : Array (List Int)) (k n : Nat) : Prop where
  lo : 4 ≤ n
  hi : n ≤ 40
  only : ∀ q, q < r.size → q ≠ k → ¬ pf ((hx r[k]!).take n) r[q]!
  less : 4 < n → ∃ q, q < r.size ∧ q ≠ k ∧ pf ((hx r[k]!).take (n - 1)) r[q]!

theorem pf_short {X y : List Int} {m n : Nat} (h : pf (X.take n) y) (hmn : m ≤ n) (hX : X.length = 40) (hn : n ≤ 40) : pf (X.take m) y := by
  unfold pf at h ⊢
  have l1 : (X.take n).length = n := by simp [hX]; omega
  have l2 : (X.take m).length = m := by simp [hX]; omega
  rw [l1] at h
  rw [l2]
  have := congrArg (List.take m) h
  rw [List.take_take, List.take_take, Nat.min_eq_left hmn] at this
  exact this

theorem Sh.uniq {r : Array (List Int)} {k m n : Nat} (hk : IsId r[k]!) (h : Sh r k m) (g : Sh r k n) : m = n := by
  have one : ∀ {m n}, Sh r k m → Sh r k n → ¬ m < n := by
    intro m n h g hlt
    obtain ⟨q, h1, h2, h3⟩ := g.less (by have := h.lo; omega)
    exact h.only q h1 h2 (pf_short h3 (by omega) (hx40 hk) (by have := g.hi; omega))
  have := one h g
  have := one g h
  omega

/-- alike: the greater of what the two neighbours have. -/
structure Al (r : Array (List Int)) (k a : Nat) : Prop where
  up : ∀ q, q < r.size → (q + 1 = k ∨ q = k + 1) → ∃ c, Cm r[k]! r[q]! c ∧ c ≤ a
  is : a = 0 ∨ ∃ q, q < r.size ∧ (q + 1 = k ∨ q = k + 1) ∧ Cm r[k]! r[q]! a

theorem pf_self {X x : List Int} (n : Nat) (h : hx x = X) (hx0 : IsId x) : pf (X.take n) x := by
  unfold pf
  rw [h]
  have : X.length = 40 := by rw [← h, hx40 hx0]
  simp [this]

theorem sh_of {r : Array (List Int)} {k a : Nat} (hu : Up r) (hids : ∀ i, i < r.size → IsId r[i]!) (hk : k < r.size) (h : Al r k a) (hiv : ∀ p : List Int, p.length ≤ 40 → (∀ c ∈ p, isS c) → ∃ x y, Iv r p x y) : Sh r k (min (max 4 (1 + a)) 40) := by
  have hidk := hids k hk
  have hne : ∀ q, q < r.size → q ≠ k → r[q]! ≠ r[k]! := by
    intro q hq hqk e
    rcases Nat.lt_or_gt_of_ne hqk with hlt | hlt
    · have := hu q k hlt hk
      rw [e, ltl_irr] at this
      cases this
    · have := hu k q hlt hq
      rw [e, ltl_irr] at this
      cases this
  have hsig : ∀ n, ∀ c ∈ (hx r[k]!).take n, isS c := fun n c hc => (hx_byt _ hidk.2 c (List.mem_of_mem_take hc)).1
  -- a neighbour never has the whole front
  have nb : ∀ q, q < r.size → (q + 1 = k ∨ q = k + 1) → ¬ pf ((hx r[k]!).take (min (max 4 (1 + a)) 40)) r[q]! := by
    intro q hq hqk hp
    obtain ⟨c, hc, hca⟩ := h.up q hq hqk
    have := (hc.iff hidk (hids q hq) (n := min (max 4 (1 + a)) 40) (by omega)).2 hp
    have hc40 : c = 40 := by have := hc.le; omega
    subst hc40
    exact hne q hq (by omega) (cm_all hc hidk (hids q hq)).symm
  refine ⟨by omega, by omega, fun q hq hqk hp => ?_, fun h4 => ?_⟩
  · have hlen : ((hx r[k]!).take (min (max 4 (1 + a)) 40)).length ≤ 40 := by simp; omega
    obtain ⟨x, y, iv⟩ := hiv _ hlen (hsig _)
    have hkk := (iv.iff k hk).1 (pf_self _ rfl hidk)
    have hqq := (iv.iff q hq).1 hp
    rcases Nat.lt_or_gt_of_ne hqk with hlt | hlt
    · exact nb (k - 1) (by omega) (by omega) ((iv.iff (k - 1) (by omega)).2 (by omega))
    · exact nb (k + 1) (by omega) (by omega) ((iv.iff (k + 1) (by omega)).2 (by omega))
  · rcases h.is with h0 | ⟨q, hq, hqk, hc⟩
    · omega
    · exact ⟨q, hq, by omega, (hc.iff hidk (hids q hq) (by omega)).1 (by omega)⟩

end Go.Proofs.YtmjcikomcnokkaaDoor
