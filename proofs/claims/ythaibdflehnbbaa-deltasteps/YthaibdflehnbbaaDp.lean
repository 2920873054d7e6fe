/- Deltas as plain mathematics: steps printed. -/
import Derived.Test.YthaibdflehnbbaaDl
namespace Go.Proofs.Ythaibdflehnbbaa

/-- The bytes of v that are not 0 (m more of them, from the k-th on), the lowest first. -/
def spb (v : Int) : Nat → Nat → List Int
  | 0, _ => []
  | m + 1, k => (if v / 256 ^ k % 256 = 0 then [] else [v / 256 ^ k % 256]) ++ spb v m (k + 1)

/-- A bit for each of them. -/
def spm (v : Int) : Nat → Nat → Int
  | 0, _ => 0
  | m + 1, k => (if v / 256 ^ k % 256 = 0 then 0 else 2 ^ k) + spm v m (k + 1)

/-- What they say. -/
def spv (v : Int) : Nat → Nat → Int
  | 0, _ => 0
  | m + 1, k => 256 ^ k * (v / 256 ^ k % 256) + spv v m (k + 1)

theorem spl_back (c v : Int) (t : List Int) : ∀ (m k : Nat), (∀ j, k ≤ j → j < k + m → (c / 2 ^ j % 2 = 1 ↔ ¬ v / 256 ^ j % 256 = 0)) → spl c m k (spb v m k ++ t) = some (spv v m k, t) := by
  intro m
  induction m with
  | zero => intro k _; simp [spl, spb, spv]
  | succ m ih =>
    intro k h
    have h0 := h k (Nat.le_refl _) (by omega)
    have hr := ih (k + 1) (fun j h1 h2 => h j (by omega) (by omega))
    by_cases hz : v / 256 ^ k % 256 = 0
    · have hc : ¬ c / 2 ^ k % 2 = 1 := fun e => h0.1 e hz
      unfold spl spb spv
      rw [if_neg hc, if_pos hz, hz, List.nil_append, hr]
      simp
    · have hc : c / 2 ^ k % 2 = 1 := h0.2 hz
      unfold spl spb spv
      rw [if_pos hc, if_neg hz]
      simp only [List.cons_append, List.nil_append]
      rw [hr]
      rfl

theorem spv4 (v : Int) (h0 : 0 ≤ v) (h1 : v ≤ 4294967295) : spv v 4 0 = v := by
  simp only [spv]
  have e1 : (256 : Int) ^ (0 + 1) = 256 := rfl
  have e2 : (256 : Int) ^ (0 + 1 + 1) = 65536 := rfl
  have e3 : (256 : Int) ^ (0 + 1 + 1 + 1) = 16777216 := rfl
  rw [e1, e2, e3, Int.pow_zero]
  omega

theorem spv3 (v : Int) (h0 : 0 ≤ v) (h1 : v < 16777216) : spv v 3 0 = v := by
  simp only [spv]
  have e1 : (256 : Int) ^ (0 + 1) = 256 := rfl
  have e2 : (256 : Int) ^ (0 + 1 + 1) = 65536 := rfl
  rw [e1, e2, Int.pow_zero]
  omega

abbrev isC (o : Op) : Prop := o.cp = true ∧ 0 ≤ o.fr ∧ o.fr ≤ 4294967295 ∧ 1 ≤ o.n ∧ o.n ≤ 65536 ∧ o.da.length = 0
abbrev isD (o : Op) : Prop := o.cp = false ∧ o.fr = 0 ∧ o.n = 0 ∧ 1 ≤ o.da.length ∧ o.da.length ≤ 127
/-- A delta can say the step. -/
abbrev okp (o : Op) : Prop := isC o ∨ isD o

/-- A step as bytes. -/
def pr1 (o : Op) : List Int := if o.cp then (128 + spm o.fr 4 0 + 16 * spm (o.n % 65536) 3 0) :: (spb o.fr 4 0 ++ spb (o.n % 65536) 3 0) else (o.da.length : Int) :: o.da

def prn (l : List Op) : List Int := l.flatMap pr1

theorem prn_app (l m : List Op) : prn (l ++ m) = prn l ++ prn m := by simp [prn]
theorem prn_one (o : Op) : prn [o] = pr1 o := by simp [prn]

/-- The delta of these sizes and steps. -/
def prt (base out : Int) (l : List Op) : List Int := (sz 9 base ++ sz 9 out) ++ prn l

/-- Four bits, then others. -/
theorem four_bits (a b c d S : Int) (ha : a = 0 ∨ a = 1) (hb : b = 0 ∨ b = 1) (hc : c = 0 ∨ c = 1) (hd : d = 0 ∨ d = 1) :
    (16 * S + (a + 2 * b + 4 * c + 8 * d)) % 2 = a ∧ (16 * S + (a + 2 * b + 4 * c + 8 * d)) / 2 % 2 = b ∧ (16 * S + (a + 2 * b + 4 * c + 8 * d)) / 4 % 2 = c ∧ (16 * S + (a + 2 * b + 4 * c + 8 * d)) / 8 % 2 = d := by
  rcases ha with rfl | rfl <;> rcases hb with rfl | rfl <;> rcases hc with rfl | rfl <;> rcases hd with rfl | rfl <;> omega

def nz (x : Int) : Int := if x = 0 then 0 else 1

theorem nz_or (x : Int) : nz x = 0 ∨ nz x = 1 := by unfold nz; split <;> simp
theorem nz_iff (x : Int) : nz x = 1 ↔ ¬ x = 0 := by unfold nz; split <;> simp [*]

theorem spm4 (v : Int) : spm v 4 0 = nz (v % 256) + 2 * nz (v / 256 % 256) + 4 * nz (v / 65536 % 256) + 8 * nz (v / 16777216 % 256) := by
  simp only [spm]
  have e1 : (256 : Int) ^ (0 + 1) = 256 := rfl
  have e2 : (256 : Int) ^ (0 + 1 + 1) = 65536 := rfl
  have e3 : (256 : Int) ^ (0 + 1 + 1 + 1) = 16777216 := rfl
  rw [e1, e2, e3, Int.pow_zero, Int.pow_zero, Int.ediv_one]
  unfold nz
  split <;> split <;> split <;> split <;> simp

theorem spm3 (v : Int) : spm v 3 0 = nz (v % 256) + 2 * nz (v / 256 % 256) + 4 * nz (v / 65536 % 256) := by
  simp only [spm]
  have e1 : (256 : Int) ^ (0 + 1) = 256 := rfl
  have e2 : (256 : Int) ^ (0 + 1 + 1) = 65536 := rfl
  rw [e1, e2, Int.pow_zero, Int.pow_zero, Int.ediv_one]
  unfold nz
  split <;> split <;> split <;> simp

theorem flags (c v : Int) (m : Nat) (hm : m = 3 ∨ m = 4) (S : Int) (hc : c = 16 * S + (nz (v % 256) + 2 * nz (v / 256 % 256) + 4 * nz (v / 65536 % 256) + 8 * nz (v / 16777216 % 256)) ∨ (m = 3 ∧ c = 16 * S + (nz (v % 256) + 2 * nz (v / 256 % 256) + 4 * nz (v / 65536 % 256) + 8 * 1))) :
    ∀ j, 0 ≤ j → j < 0 + m → (c / 2 ^ j % 2 = 1 ↔ ¬ v / 256 ^ j % 256 = 0) := by
  have key : ∀ d : Int, (d = 0 ∨ d = 1) → c = 16 * S + (nz (v % 256) + 2 * nz (v / 256 % 256) + 4 * nz (v / 65536 % 256) + 8 * d) → c % 2 = nz (v % 256) ∧ c / 2 % 2 = nz (v / 256 % 256) ∧ c / 4 % 2 = nz (v / 65536 % 256) ∧ c / 8 % 2 = d := by
    intro d hd e
    rw [e]
    exact four_bits _ _ _ _ S (nz_or _) (nz_or _) (nz_or _) hd
  have h4 : c % 2 = nz (v % 256) ∧ c / 2 % 2 = nz (v / 256 % 256) ∧ c / 4 % 2 = nz (v / 65536 % 256) ∧ (m = 4 → c / 8 % 2 = nz (v / 16777216 % 256)) := by
    rcases hc with e | ⟨rfl, e⟩
    · have := key _ (nz_or _) e
      exact ⟨this.1, this.2.1, this.2.2.1, fun _ => this.2.2.2⟩
    · have := key 1 (.inr rfl) e
      exact ⟨this.1, this.2.1, this.2.2.1, fun h => by omega⟩
  intro j _ hj
  have hj4 : j = 0 ∨ j = 1 ∨ j = 2 ∨ j = 3 := by omega
  rcases hj4 with rfl | rfl | rfl | rfl
  · rw [show (2 : Int) ^ 0 = 1 from rfl, show (256 : Int) ^ 0 = 1 from rfl, Int.ediv_one, Int.ediv_one, h4.1]
    exact nz_iff _
  · rw [show (2 : Int) ^ 1 = 2 from rfl, show (256 : Int) ^ 1 = 256 from rfl, h4.2.1]
    exact nz_iff _
  · rw [show (2 : Int) ^ 2 = 4 from rfl, show (256 : Int) ^ 2 = 65536 from rfl, h4.2.2.1]
    exact nz_iff _
  · have hm4 : m = 4 := by omega
    rw [show (2 : Int) ^ 3 = 8 from rfl, show (256 : Int) ^ 3 = 16777216 from rfl, h4.2.2.2 hm4]
    exact nz_iff _

theorem cpr_back (o : Op) (h : isC o) (t : List Int) : cpr (128 + spm o.fr 4 0 + 16 * spm (o.n % 65536) 3 0) (spb o.fr 4 0 ++ (spb (o.n % 65536) 3 0 ++ t)) = some (o, t) := by
  obtain ⟨h0, h1, h2, h3, h4, h5⟩ := h
  have f3 := spm3 (o.n % 65536)
  have f4 := spm4 o.fr
  have b1 := spl_back (128 + spm o.fr 4 0 + 16 * spm (o.n % 65536) 3 0) o.fr (spb (o.n % 65536) 3 0 ++ t) 4 0 (flags _ _ 4 (.inr rfl) (8 + spm (o.n % 65536) 3 0) (.inl (by rw [← f4]; omega)))
  have q0 := nz_or (o.fr % 256)
  have q1 := nz_or (o.fr / 256 % 256)
  have q2 := nz_or (o.fr / 65536 % 256)
  have q3 := nz_or (o.fr / 16777216 % 256)
  have e16 : (128 + spm o.fr 4 0 + 16 * spm (o.n % 65536) 3 0) / 16 = 8 + spm (o.n % 65536) 3 0 := by rw [f4]; omega
  have b2 := spl_back (8 + spm (o.n % 65536) 3 0) (o.n % 65536) t 3 0 (flags _ _ 3 (.inl rfl) 0 (.inr ⟨rfl, by rw [f3]; omega⟩))
  rw [spv4 _ h1 h2] at b1
  rw [spv3 _ (by omega) (by omega)] at b2
  unfold cpr
  rw [b1, Option.bind_some, e16]
  show Option.map _ (spl _ 3 0 (spb (o.n % 65536) 3 0 ++ t)) = _
  rw [b2, Option.map_some]
  have en : (if o.n % 65536 = 0 then 65536 else o.n % 65536) = o.n := by split <;> omega
  have ed : o.da = [] := List.eq_nil_of_length_eq_zero h5
  obtain ⟨c, f, n, d⟩ := o
  simp only at h0 ed en ⊢
  subst h0 ed
  rw [en]

theorem spm_bound (v : Int) : 0 ≤ spm v 4 0 ∧ spm v 4 0 ≤ 15 ∧ 0 ≤ spm v 3 0 ∧ spm v 3 0 ≤ 7 := by
  have q0 := nz_or (v % 256)
  have q1 := nz_or (v / 256 % 256)
  have q2 := nz_or (v / 65536 % 256)
  have q3 := nz_or (v / 16777216 % 256)
  rw [spm4, spm3]
  omega

theorem psl_pr1 (o : Op) (h : okp o) (t : List Int) : psl (pr1 o ++ t) = if (psl t).1 = 0 then (0, o :: (psl t).2) else ((psl t).1, []) := by
  unfold pr1
  rcases h with h | h
  · rw [if_pos h.1, List.cons_append]
    have hb := spm_bound o.fr
    have hb2 := spm_bound (o.n % 65536)
    refine psl_some _ _ (by omega) (o, t) ?_
    unfold st1
    rw [if_neg (by omega), List.append_assoc]
    exact cpr_back o h t
  · rw [if_neg (by rw [h.1]; simp), List.cons_append]
    refine psl_some _ _ (by omega) (o, t) ?_
    unfold st1
    rw [if_pos (by omega), if_neg (by simp), Int.toNat_natCast, List.take_left, List.drop_left]
    obtain ⟨h0, h1, h2, _⟩ := h
    obtain ⟨c, f, n, d⟩ := o
    simp only at h0 h1 h2 ⊢
    subst h0 h1 h2
    rfl

theorem psl_prn (l : List Op) (h : ∀ o ∈ l, okp o) : psl (prn l) = (0, l) := by
  induction l with
  | nil => rfl
  | cons o l ih =>
    show psl (pr1 o ++ prn l) = _
    rw [psl_pr1 o (h o (by simp)), ih (fun x hx => h x (by simp [hx]))]
    simp

theorem sizeAns_sz (v : Int) (t : List Int) (h0 : 0 ≤ v) (h1 : v ≤ 9223372036854775807) : sizeAns (sz 9 v ++ t) = (v, ((sz 9 v).length : Int), 0) := by
  have h9 : (128 : Int) ^ 9 = 9223372036854775808 := rfl
  have hl := sz_len_le 9 v
  have e : (sz 9 v ++ t).take 9 = sz 9 v ++ t.take (9 - (sz 9 v).length) := by rw [List.take_append, List.take_of_length_le hl]
  unfold sizeAns
  rw [e, sz_back _ 9 v h0 (by omega) (by omega)]

theorem prs_prt (base out : Int) (l : List Op) (hb0 : 0 ≤ base) (hb1 : base ≤ 9223372036854775807) (ho0 : 0 ≤ out) (ho1 : out ≤ 9223372036854775807) (h : ∀ o ∈ l, okp o) : prs (prt base out l) = (base, out, l, 0) := by
  have e : prt base out l = sz 9 base ++ (sz 9 out ++ prn l) := by unfold prt; rw [List.append_assoc]
  have s1 := sizeAns_sz base (sz 9 out ++ prn l) hb0 hb1
  have s2 := sizeAns_sz out (prn l) ho0 ho1
  have hz : szs (prt base out l) = (base, out, (sz 9 base).length + (sz 9 out).length, 0) := by
    unfold szs
    rw [e, s1]
    simp only [Int.toNat_natCast, List.drop_left]
    rw [s2]
    simp
  have hd : (prt base out l).drop ((sz 9 base).length + (sz 9 out).length) = prn l := by
    unfold prt
    rw [← List.length_append, List.drop_left]
  unfold prs
  rw [hz]
  simp only
  rw [hd, psl_prn l h]
  simp

theorem pr1_len (o : Op) (h : okp o) : (pr1 o).length ≤ 128 := by
  have hs : ∀ (v : Int) (m k : Nat), (spb v m k).length ≤ m := by
    intro v m
    induction m with
    | zero => intro k; simp [spb]
    | succ m ih =>
      intro k
      have := ih (k + 1)
      unfold spb
      split <;> simp <;> omega
  unfold pr1
  rcases h with h | h
  · rw [if_pos h.1]
    have h1 := hs o.fr 4 0
    have h2 := hs (o.n % 65536) 3 0
    simp only [List.length_cons, List.length_append]
    omega
  · rw [if_neg (by rw [h.1]; simp)]
    simp only [List.length_cons]
    omega

theorem prn_len (l : List Op) (h : ∀ o ∈ l, okp o) : (prn l).length ≤ 128 * l.length := by
  induction l with
  | nil => simp [prn]
  | cons o l ih =>
    have h1 := pr1_len o (h o (by simp))
    have h2 := ih (fun x hx => h x (by simp [hx]))
    show (pr1 o ++ prn l).length ≤ _
    simp only [List.length_append, List.length_cons]
    omega

theorem spb_byt (v : Int) : ∀ (m k : Nat), ∀ x ∈ spb v m k, 0 ≤ x ∧ x < 256 := by
  intro m
  induction m with
  | zero => intro k x hx; cases hx
  | succ m ih =>
    intro k x hx
    unfold spb at hx
    rcases List.mem_append.1 hx with h | h
    · split at h
      · cases h
      · simp at h; omega
    · exact ih _ x h

theorem pr1_byt (o : Op) (h : okp o) (hb : ∀ x ∈ o.da, 0 ≤ x ∧ x < 256) : ∀ x ∈ pr1 o, 0 ≤ x ∧ x < 256 := by
  intro x hx
  unfold pr1 at hx
  rcases h with h | h
  · rw [if_pos h.1] at hx
    rcases List.mem_cons.1 hx with rfl | hx
    · have := spm_bound o.fr
      have := spm_bound (o.n % 65536)
      omega
    · rcases List.mem_append.1 hx with hx | hx
      · exact spb_byt _ _ _ x hx
      · exact spb_byt _ _ _ x hx
  · rw [if_neg (by rw [h.1]; simp)] at hx
    rcases List.mem_cons.1 hx with rfl | hx
    · omega
    · exact hb x hx

theorem prt_byt (base out : Int) (l : List Op) (hb0 : 0 ≤ base) (ho0 : 0 ≤ out) (h : ∀ o ∈ l, okp o) (hb : ∀ o ∈ l, ∀ x ∈ o.da, 0 ≤ x ∧ x < 256) : ∀ x ∈ prt base out l, 0 ≤ x ∧ x < 256 := by
  intro x hx
  unfold prt at hx
  rcases List.mem_append.1 hx with hx | hx
  · rcases List.mem_append.1 hx with hx | hx
    · exact sz_byt 9 base hb0 x hx
    · exact sz_byt 9 out ho0 x hx
  · obtain ⟨o, ho, hxo⟩ := List.mem_flatMap.1 hx
    exact pr1_byt o (h o ho) (hb o ho) x hxo

theorem prt_len (base out : Int) (l : List Op) (h : ∀ o ∈ l, okp o) : (prt base out l).length ≤ 18 + 128 * l.length := by
  have := prn_len l h
  have := sz_len_le 9 base
  have := sz_len_le 9 out
  unfold prt
  simp only [List.length_append]
  omega

end Go.Proofs.Ythaibdflehnbbaa
