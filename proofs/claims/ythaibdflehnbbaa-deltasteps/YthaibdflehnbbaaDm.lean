/- Deltas as plain mathematics: what is made. -/
import Derived.Test.YthaibdflehnbbaaDp
namespace Go.Proofs.Ythaibdflehnbbaa

/-- How many bytes both begin with. -/
def lcp : List Int → List Int → Nat
  | x :: a, y :: b => if x = y then lcp a b + 1 else 0
  | _, _ => 0

theorem lcp_le : ∀ (a b : List Int), lcp a b ≤ a.length ∧ lcp a b ≤ b.length := by
  intro a
  induction a with
  | nil => intro b; cases b <;> simp [lcp]
  | cons x a ih =>
    intro b
    cases b with
    | nil => simp [lcp]
    | cons y b =>
      have := ih b
      unfold lcp
      split <;> simp <;> omega

theorem lcp_same : ∀ (a b : List Int), a.take (lcp a b) = b.take (lcp a b) := by
  intro a
  induction a with
  | nil => intro b; cases b <;> simp [lcp]
  | cons x a ih =>
    intro b
    cases b with
    | nil => simp [lcp]
    | cons y b =>
      unfold lcp
      split
      · rename_i h
        simp [h, ih b]
      · simp

theorem lcp_max : ∀ (a b : List Int) (k : Nat), k ≤ a.length → k ≤ b.length → a.take k = b.take k → k ≤ lcp a b := by
  intro a
  induction a with
  | nil => intro b k h1 _ _; simp at h1; omega
  | cons x a ih =>
    intro b k h1 h2 h
    cases b with
    | nil => simp at h2; omega
    | cons y b =>
      cases k with
      | zero => omega
      | succ k =>
        simp at h h1 h2
        have := ih b k h1 h2 h.2
        unfold lcp
        rw [if_pos h.1]
        omega

theorem lcp_is : ∀ (k : Nat) (a b : List Int), k ≤ a.length → k ≤ b.length → (∀ j, j < k → a.getD j 0 = b.getD j 0) → (k = a.length ∨ k = b.length ∨ a.getD k 0 ≠ b.getD k 0) → lcp a b = k := by
  intro k
  induction k with
  | zero =>
    intro a b _ _ _ h
    cases a with
    | nil => cases b <;> rfl
    | cons x a =>
      cases b with
      | nil => rfl
      | cons y b =>
        simp at h
        simp [lcp, h]
  | succ k ih =>
    intro a b h1 h2 h3 h4
    cases a with
    | nil => simp at h1
    | cons x a =>
      cases b with
      | nil => simp at h2
      | cons y b =>
        have hx := h3 0 (by omega)
        simp at hx
        subst hx
        simp only [lcp, if_true]
        rw [ih a b (by simpa using h1) (by simpa using h2) (fun j hj => by simpa using h3 (j + 1) (by omega)) (by simpa using h4)]

/-- How many bytes both end with. -/
def lcs (a b : List Int) : Nat := lcp a.reverse b.reverse

theorem lcs_le (a b : List Int) : lcs a b ≤ a.length ∧ lcs a b ≤ b.length := by
  have := lcp_le a.reverse b.reverse
  rw [List.length_reverse, List.length_reverse] at this
  exact this

theorem rev_take (a : List Int) (k : Nat) (_h : k ≤ a.length) : a.reverse.take k = (a.drop (a.length - k)).reverse := by
  rw [List.take_reverse]

theorem lcs_same (a b : List Int) : a.drop (a.length - lcs a b) = b.drop (b.length - lcs a b) := by
  have h := lcp_same a.reverse b.reverse
  have hl := lcs_le a b
  have e : a.reverse.take (lcs a b) = b.reverse.take (lcs a b) := h
  rw [rev_take a _ hl.1, rev_take b _ hl.2] at e
  have := congrArg List.reverse e
  simpa using this

theorem lcs_max (a b : List Int) (k : Nat) (h1 : k ≤ a.length) (h2 : k ≤ b.length) (h : a.drop (a.length - k) = b.drop (b.length - k)) : k ≤ lcs a b := by
  apply lcp_max a.reverse b.reverse k (by simpa using h1) (by simpa using h2)
  rw [rev_take a k h1, rev_take b k h2, h]

theorem rev_getD (a : List Int) (j : Nat) (h : j < a.length) : a.reverse.getD j 0 = a.getD (a.length - 1 - j) 0 := by
  have h2 : a.length - 1 - j < a.length := by omega
  simp [List.getD, h, List.getElem?_eq_getElem h2]

theorem lcs_is (k : Nat) (a b : List Int) (h1 : k ≤ a.length) (h2 : k ≤ b.length) (h3 : ∀ j, j < k → a.getD (a.length - 1 - j) 0 = b.getD (b.length - 1 - j) 0)
    (h4 : k = a.length ∨ k = b.length ∨ (k < a.length ∧ k < b.length ∧ a.getD (a.length - 1 - k) 0 ≠ b.getD (b.length - 1 - k) 0)) : lcs a b = k := by
  refine lcp_is k a.reverse b.reverse (by simpa using h1) (by simpa using h2) (fun j hj => ?_) ?_
  · rw [rev_getD a j (by omega), rev_getD b j (by omega)]
    exact h3 j hj
  · rcases h4 with h | h | ⟨q1, q2, h⟩
    · exact .inl (by simpa using h)
    · exact .inr (.inl (by simpa using h))
    · refine .inr (.inr ?_)
      rw [rev_getD a k q1, rev_getD b k q2]
      exact h

/-- Steps that make t of the base bs, printable, and of few bytes. -/
structure Gd (bs : List Int) (l : List Op) (t : List Int) : Prop where
  ok : ∀ o ∈ l, okp o
  byt : ∀ o ∈ l, ∀ x ∈ o.da, 0 ≤ x ∧ x < 256
  win : wins bs.length l
  mks : mks bs l = t
  len : l.length ≤ t.length
  cost : (prn l).length ≤ 2 * t.length

theorem Gd.nil (bs : List Int) : Gd bs [] [] := ⟨(fun o ho => by cases ho), (fun o ho => by cases ho), (fun o ho => by cases ho), rfl, Nat.le_refl _, Nat.le_refl _⟩

theorem Gd.app {bs : List Int} {l m : List Op} {t u : List Int} (h : Gd bs l t) (k : Gd bs m u) : Gd bs (l ++ m) (t ++ u) := by
  refine ⟨fun o ho => ?_, fun o ho => ?_, fun o ho => ?_, by rw [mks_app, h.mks, k.mks], ?_, ?_⟩
  · rcases List.mem_append.1 ho with h' | h'
    · exact h.ok o h'
    · exact k.ok o h'
  · rcases List.mem_append.1 ho with h' | h'
    · exact h.byt o h'
    · exact k.byt o h'
  · rcases List.mem_append.1 ho with h' | h'
    · exact h.win o h'
    · exact k.win o h'
  · have := h.len; have := k.len
    simp only [List.length_append]; omega
  · have := h.cost; have := k.cost
    rw [prn_app]
    simp only [List.length_append]; omega

/-- A piece that is put. -/
theorem Gd.put (bs t : List Int) (h1 : 1 ≤ t.length) (h2 : t.length ≤ 127) (hb : ∀ x ∈ t, 0 ≤ x ∧ x < 256) : Gd bs [⟨false, 0, 0, t⟩] t := by
  refine ⟨fun o ho => ?_, fun o ho => ?_, fun o ho => ?_, ?_, by simpa using h1, ?_⟩
  · simp at ho; subst ho; exact .inr ⟨rfl, rfl, rfl, h1, h2⟩
  · simp at ho; subst ho; exact hb
  · simp at ho; subst ho; intro e; cases e
  · rw [mks_one]; rfl
  · rw [prn_one]
    show ((t.length : Int) :: t).length ≤ _
    simp only [List.length_cons]; omega

theorem pr1_copy_len (f n : Int) : (pr1 ⟨true, f, n, []⟩).length ≤ 8 := by
  have hs : ∀ (v : Int) (m k : Nat), (spb v m k).length ≤ m := by
    intro v m
    induction m with
    | zero => intro k; simp [spb]
    | succ m ih =>
      intro k
      have := ih (k + 1)
      unfold spb
      split <;> simp <;> omega
  have h1 := hs f 4 0
  have h2 := hs (n % 65536) 3 0
  show ((128 + spm f 4 0 + 16 * spm (n % 65536) 3 0) :: (spb f 4 0 ++ spb (n % 65536) 3 0)).length ≤ 8
  simp only [List.length_cons, List.length_append]
  omega

/-- A copy; none of nothing. -/
def cop (f n : Nat) : List Op := if n = 0 then [] else [⟨true, f, n, []⟩]

theorem cop_good (bs : List Int) (f n : Nat) (h0 : n = 0 ∨ 8 ≤ n) (h1 : n ≤ 65536) (h2 : f + n ≤ bs.length) (h3 : f ≤ 4294967295) : Gd bs (cop f n) ((bs.drop f).take n) ∧ (prn (cop f n)).length ≤ 8 := by
  unfold cop
  by_cases hn : n = 0
  · subst hn
    rw [if_pos rfl, List.take_zero]
    exact ⟨Gd.nil bs, by simp [prn]⟩
  · rw [if_neg hn]
    have hl : ((bs.drop f).take n).length = n := by simp; omega
    have hp := pr1_copy_len f n
    refine ⟨⟨fun o ho => ?_, fun o ho => ?_, fun o ho => ?_, ?_, by rw [hl]; simp; omega, ?_⟩, by rw [prn_one]; exact hp⟩
    · simp at ho; subst ho; exact .inl ⟨rfl, by show (0 : Int) ≤ f; omega, by show (f : Int) ≤ _; omega, by show (1 : Int) ≤ n; omega, by show (n : Int) ≤ _; omega, rfl⟩
    · simp at ho; subst ho; intro x hx; cases hx
    · simp at ho; subst ho; intro _; show (f : Int) + n ≤ bs.length; omega
    · rw [mks_one]
      show ((bs.drop (f : Int).toNat).take (n : Int).toNat) = _
      simp
    · rw [prn_one, hl]
      omega

theorem mks_front (bs : List Int) (n : Nat) (t : List Int) (h : bs.take n = t.take n) : (bs.drop 0).take n = t.take n := by simpa using h

/-- A length that is worth a copy. -/
def wth (n : Nat) : Nat := if n < 8 then 0 else n

theorem wth_or (n : Nat) : wth n = 0 ∨ 8 ≤ wth n := by unfold wth; split <;> omega
theorem wth_le (n : Nat) : wth n ≤ n := by unfold wth; split <;> omega

/-- What is made of base and target: a copy of the front, what is found between, a copy of the back. -/
structure Made (bs t : List Int) (l : List Op) : Prop where
  good : Gd bs l t
  small : (prn l).length ≤ 16 + 2 * (t.length - wth (lcp bs t) - wth (lcs bs (t.drop (wth (lcp bs t)))))

theorem made_of (bs t : List Int) (l2 : List Op) (hb : bs.length ≤ 65536) (ht : t.length ≤ 65536)
    (h : Gd bs l2 ((t.drop (wth (lcp bs t))).take (t.length - wth (lcs bs (t.drop (wth (lcp bs t)))) - wth (lcp bs t)))) :
    Made bs t (cop 0 (wth (lcp bs t)) ++ l2 ++ cop (bs.length - wth (lcs bs (t.drop (wth (lcp bs t))))) (wth (lcs bs (t.drop (wth (lcp bs t)))))) := by
  have f1 := lcp_le bs t
  have f2 := wth_le (lcp bs t)
  have fo := wth_or (lcp bs t)
  have fs := lcp_same bs t
  have fsame : bs.take (wth (lcp bs t)) = t.take (wth (lcp bs t)) := by
    have := congrArg (List.take (wth (lcp bs t))) fs
    rwa [List.take_take, List.take_take, Nat.min_eq_left f2] at this
  obtain ⟨F, hF⟩ : ∃ F, wth (lcp bs t) = F := ⟨_, rfl⟩
  simp only [hF] at f2 fo fsame h ⊢
  have b1 := lcs_le bs (t.drop F)
  have b2 := wth_le (lcs bs (t.drop F))
  have bo := wth_or (lcs bs (t.drop F))
  have bs' := lcs_same bs (t.drop F)
  have bsame : bs.drop (bs.length - wth (lcs bs (t.drop F))) = (t.drop F).drop ((t.drop F).length - wth (lcs bs (t.drop F))) := by
    have h1 := congrArg (List.drop (lcs bs (t.drop F) - wth (lcs bs (t.drop F)))) bs'
    rw [List.drop_drop, List.drop_drop] at h1
    have e1 : bs.length - lcs bs (t.drop F) + (lcs bs (t.drop F) - wth (lcs bs (t.drop F))) = bs.length - wth (lcs bs (t.drop F)) := by omega
    have e2 : (t.drop F).length - lcs bs (t.drop F) + (lcs bs (t.drop F) - wth (lcs bs (t.drop F))) = (t.drop F).length - wth (lcs bs (t.drop F)) := by omega
    rw [e1, e2] at h1
    exact h1
  simp only [List.length_drop] at b1 bsame
  obtain ⟨G, hG⟩ : ∃ G, wth (lcs bs (t.drop F)) = G := ⟨_, rfl⟩
  simp only [hG] at b2 bo bsame h ⊢
  obtain ⟨g1, c1⟩ := cop_good bs 0 F fo (by omega) (by omega) (by omega)
  obtain ⟨g2, c2⟩ := cop_good bs (bs.length - G) G bo (by omega) (by omega) (by omega)
  have e1 : (bs.drop 0).take F = t.take F := by simpa using fsame
  have e2 : (bs.drop (bs.length - G)).take G = (t.drop F).drop (t.length - F - G) := by
    rw [bsame]
    apply List.take_of_length_le
    simp only [List.length_drop]
    omega
  rw [e1] at g1
  rw [e2] at g2
  have e3 : t.length - G - F = t.length - F - G := by omega
  rw [e3] at h
  have hg := (g1.app h).app g2
  have et : t.take F ++ (t.drop F).take (t.length - F - G) ++ (t.drop F).drop (t.length - F - G) = t := by
    rw [List.append_assoc, List.take_append_drop, List.take_append_drop]
  rw [et] at hg
  refine ⟨hg, ?_⟩
  have hc := h.cost
  have hl : ((t.drop F).take (t.length - F - G)).length = t.length - F - G := by simp
  rw [hl] at hc
  rw [hF, hG, prn_app, prn_app]
  simp only [List.length_append]
  omega

end Go.Proofs.Ythaibdflehnbbaa
