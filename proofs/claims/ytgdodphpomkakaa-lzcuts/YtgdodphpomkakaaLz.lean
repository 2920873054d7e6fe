/- Tokens as plain mathematics. -/
import Derived.WalkKit
namespace Go.Proofs.Ytgdodphpomkakaa
open Go.RowKit

/-- A token: the literal, the length, the distance. -/
abbrev Tok := Int × Int × Int

/-- The token of noughts. -/
def tz : Tok := (0, 0, 0)

abbrev isL (t : Tok) : Prop := t.2.1 = 0 ∧ t.2.2 = 0

abbrev isC (t : Tok) (n : Nat) : Prop := t.1 = 0 ∧ 3 ≤ t.2.1 ∧ t.2.1 ≤ 258 ∧ 1 ≤ t.2.2 ∧ t.2.2 ≤ n

/-- A token that may stand behind n bytes. -/
abbrev okT (n : Nat) (t : Tok) : Prop := isL t ∨ isC t (min n 32768)

/-- How many bytes a token makes. -/
def sz (t : Tok) : Nat := if t.2.1 = 0 then 1 else if t.2.1 < 0 ∨ 258 < t.2.1 then 0 else t.2.1.toNat

theorem sz_le (t : Tok) : sz t ≤ 258 := by unfold sz; split <;> (try split) <;> omega

theorem sz_L {t : Tok} (h : isL t) : sz t = 1 := by unfold sz; rw [if_pos h.1]

theorem sz_C {t : Tok} {n : Nat} (h : isC t n) : (sz t : Int) = t.2.1 := by
  obtain ⟨_, h1, h2, _⟩ := h
  unfold sz
  rw [if_neg (by omega), if_neg (by omega)]
  omega

theorem okT.pos {t : Tok} {n : Nat} (h : okT n t) : 1 ≤ sz t := by
  rcases h with h | h
  · rw [sz_L h]; omega
  · have := sz_C h
    have := h.2.1
    omega

theorem okT.zero {t : Tok} {n : Nat} (h : okT n t) : t.2.1 = 0 ↔ isL t := by
  rcases h with h | h
  · exact ⟨fun _ => h, fun _ => h.1⟩
  · have := h.2.1
    exact ⟨fun e => by omega, fun e => by have := e.1; omega⟩

/-- How many bytes tokens make. -/
def tot (ts : List Tok) : Nat := (ts.map sz).sum

theorem tot_nil : tot [] = 0 := rfl

theorem tot_app (a b : List Tok) : tot (a ++ b) = tot a + tot b := by simp [tot]

theorem tot_one (t : Tok) : tot [t] = sz t := by simp [tot]

theorem take_one {α : Type} (l : List α) (z : α) (k : Nat) (h : k < l.length) : l.take (k + 1) = l.take k ++ [l.getD k z] := by
  rw [List.take_add_one, List.getElem?_eq_getElem h]
  simp [List.getD, h]

theorem tot_take (ts : List Tok) (k : Nat) (h : k < ts.length) : tot (ts.take (k + 1)) = tot (ts.take k) + sz (ts.getD k tz) := by
  rw [take_one ts tz k h, tot_app, tot_one]

theorem tot_le (ts : List Tok) (k : Nat) : tot (ts.take k) ≤ tot ts := by
  have := tot_app (ts.take k) (ts.drop k)
  rw [List.take_append_drop] at this
  omega

theorem tot_max (ts : List Tok) : tot ts ≤ 258 * ts.length := by
  induction ts with
  | nil => simp [tot]
  | cons t ts ih =>
    have h1 := sz_le t
    have h2 := tot_app [t] ts
    rw [tot_one] at h2
    simp only [List.singleton_append] at h2
    simp only [List.length_cons]
    omega

/-- The first k tokens may be. -/
def Ok (ts : List Tok) (k : Nat) : Prop := ∀ j, j < k → okT (tot (ts.take j)) (ts.getD j tz)

theorem Ok.zero (ts : List Tok) : Ok ts 0 := fun j h => by omega

theorem Ok.step {ts : List Tok} {k : Nat} (h : Ok ts k) (ht : okT (tot (ts.take k)) (ts.getD k tz)) : Ok ts (k + 1) := fun j hj => by
  rcases Nat.lt_or_ge j k with h' | h'
  · exact h j h'
  · obtain rfl : j = k := by omega
    exact ht

theorem Ok.mono {ts : List Tok} {k m : Nat} (h : Ok ts k) (hm : m ≤ k) : Ok ts m := fun j hj => h j (by omega)

theorem getD_app {α : Type} (a b : List α) (z : α) (j : Nat) (h : j < a.length) : (a ++ b).getD j z = a.getD j z := by
  simp [List.getD, List.getElem?_append_left h]

theorem getD_last {α : Type} (a : List α) (x z : α) : (a ++ [x]).getD a.length z = x := by
  simp [List.getD]

theorem getD_take {α : Type} (l : List α) (z : α) (j k : Nat) (h : j < k) : (l.take k).getD j z = l.getD j z := by
  simp [List.getD, h]

theorem Ok.app {ts : List Tok} (h : Ok ts ts.length) {t : Tok} (ht : okT (tot ts) t) : Ok (ts ++ [t]) (ts.length + 1) := fun j hj => by
  rcases Nat.lt_or_ge j ts.length with h' | h'
  · rw [List.take_append_of_le_length (by omega), getD_app _ _ _ _ h']
    exact h j h'
  · obtain rfl : j = ts.length := by omega
    rw [List.take_append_of_le_length (by omega), List.take_length, getD_last]
    exact ht

theorem Ok.take {ts : List Tok} (h : Ok ts ts.length) (k : Nat) (hk : k ≤ ts.length) : Ok (ts.take k) k := fun j hj => by
  rw [List.take_take, Nat.min_eq_left (by omega), getD_take _ _ _ _ hj]
  exact h j (by omega)

/-- k bytes more, each that from d behind. -/
def cps : Nat → Nat → List Int → List Int
  | 0, _, os => os
  | k + 1, d, os => cps k d os ++ [(cps k d os).getD ((cps k d os).length - d) 0]

theorem cps_len (k d : Nat) (os : List Int) : (cps k d os).length = os.length + k := by
  induction k with
  | zero => simp [cps]
  | succ k ih => simp [cps, ih]; omega

theorem cps_pre (k d : Nat) (os : List Int) : ∃ r, cps k d os = os ++ r := by
  induction k with
  | zero => exact ⟨[], by simp [cps]⟩
  | succ k ih =>
    obtain ⟨r, hr⟩ := ih
    refine ⟨r ++ [(cps k d os).getD ((cps k d os).length - d) 0], ?_⟩
    show cps k d os ++ _ = _
    rw [← List.append_assoc, ← hr]

/-- What a token makes behind bytes. -/
def mk1 (os : List Int) (t : Tok) : List Int := if isL t then os ++ [t.1] else cps t.2.1.toNat t.2.2.toNat os

theorem mk1_L {t : Tok} (h : isL t) (os : List Int) : mk1 os t = os ++ [t.1] := by unfold mk1; rw [if_pos h]

theorem mk1_C {t : Tok} (h : ¬ isL t) (os : List Int) : mk1 os t = cps t.2.1.toNat t.2.2.toNat os := by unfold mk1; rw [if_neg h]

theorem mk1_len {t : Tok} {n : Nat} (h : okT n t) (os : List Int) : (mk1 os t).length = os.length + sz t := by
  by_cases hL : isL t
  · rw [mk1_L hL, sz_L hL]; simp
  · rcases h with h | h
    · exact absurd h hL
    · rw [mk1_C hL, cps_len]
      have := sz_C h
      omega

theorem mk1_pre (os : List Int) (t : Tok) : ∃ r, mk1 os t = os ++ r := by
  unfold mk1
  split
  · exact ⟨_, rfl⟩
  · exact cps_pre _ _ _

/-- What tokens make. -/
def mks (ts : List Tok) : List Int := ts.foldl mk1 []

theorem mks_app (ts : List Tok) (t : Tok) : mks (ts ++ [t]) = mk1 (mks ts) t := by simp [mks, List.foldl_append]

theorem mks_take (ts : List Tok) (k : Nat) (h : k < ts.length) : mks (ts.take (k + 1)) = mk1 (mks (ts.take k)) (ts.getD k tz) := by
  rw [take_one ts tz k h, mks_app]

theorem mks_len (ts : List Tok) (k : Nat) (hk : k ≤ ts.length) (h : Ok ts k) : (mks (ts.take k)).length = tot (ts.take k) := by
  induction k with
  | zero => simp [mks, tot]
  | succ k ih =>
    rw [mks_take ts k (by omega), mk1_len (h k (by omega)), ih (by omega) (h.mono (by omega)), tot_take ts k (by omega)]

theorem mks_all (ts : List Tok) (h : Ok ts ts.length) : (mks ts).length = tot ts := by
  have := mks_len ts ts.length (Nat.le_refl _) h
  rwa [List.take_length] at this

theorem foldl_pre (us : List Tok) : ∀ os, ∃ r, us.foldl mk1 os = os ++ r := by
  induction us with
  | nil => exact fun os => ⟨[], by simp⟩
  | cons u us ih =>
    intro os
    obtain ⟨r, hr⟩ := mk1_pre os u
    obtain ⟨r', hr'⟩ := ih (mk1 os u)
    exact ⟨r ++ r', by rw [List.foldl_cons, hr', hr, List.append_assoc]⟩

/-- Tokens cut make a front of what all make. -/
theorem mks_cut (ts : List Tok) (h : Ok ts ts.length) (k : Nat) (hk : k ≤ ts.length) : mks (ts.take k) = (mks ts).take (tot (ts.take k)) := by
  obtain ⟨r, hr⟩ := foldl_pre (ts.drop k) (mks (ts.take k))
  have e : mks ts = mks (ts.take k) ++ r := by
    rw [← hr]
    unfold mks
    rw [← List.foldl_append, List.take_append_drop]
  rw [e, ← mks_len ts k hk (h.mono hk), List.take_left']
  rfl

theorem cps_byt (k d : Nat) (os : List Int) (h : ∀ x ∈ os, 0 ≤ x ∧ x < 256) : ∀ x ∈ cps k d os, 0 ≤ x ∧ x < 256 := by
  induction k with
  | zero => exact h
  | succ k ih =>
    intro x hx
    rcases List.mem_append.1 hx with h' | h'
    · exact ih x h'
    · obtain rfl : x = _ := by simpa using h'
      cases hg : (cps k d os)[(cps k d os).length - d]? with
      | none => simp
      | some y => exact ih y (List.mem_of_getElem? hg)

theorem mk1_byt {t : Tok} {os : List Int} (ht : 0 ≤ t.1 ∧ t.1 < 256) (h : ∀ x ∈ os, 0 ≤ x ∧ x < 256) : ∀ x ∈ mk1 os t, 0 ≤ x ∧ x < 256 := by
  unfold mk1
  split
  · intro x hx
    rcases List.mem_append.1 hx with h' | h'
    · exact h x h'
    · obtain rfl : x = t.1 := by simpa using h'
      exact ht
  · exact cps_byt _ _ _ h

theorem mks_byt (ts : List Tok) (h : ∀ t ∈ ts, 0 ≤ t.1 ∧ t.1 < 256) : ∀ x ∈ mks ts, 0 ≤ x ∧ x < 256 := by
  have key : ∀ (us : List Tok) (os : List Int), (∀ t ∈ us, 0 ≤ t.1 ∧ t.1 < 256) → (∀ x ∈ os, 0 ≤ x ∧ x < 256) → ∀ x ∈ us.foldl mk1 os, 0 ≤ x ∧ x < 256 := by
    intro us
    induction us with
    | nil => exact fun os _ h => h
    | cons u us ih => exact fun os hu ho => ih _ (fun t ht => hu t (by simp [ht])) (mk1_byt (hu u (by simp)) ho)
  exact key ts [] h (fun x hx => by cases hx)

/-- What Expand answers. -/
def Ex (ts : List Tok) (most : Int) (g : Int) (os : List Int) : Prop :=
  (¬ Ok ts ts.length ∧ g = 2 ∧ os = []) ∨ (Ok ts ts.length ∧ most < tot ts ∧ g = 5 ∧ os = []) ∨ (Ok ts ts.length ∧ (tot ts : Int) ≤ most ∧ g = 0 ∧ os = mks ts)

theorem Ex.det {ts : List Tok} {most g g' : Int} {os os' : List Int} (h : Ex ts most g os) (h' : Ex ts most g' os') : g = g' ∧ os = os' := by
  rcases h with ⟨a, rfl, rfl⟩ | ⟨a, b, rfl, rfl⟩ | ⟨a, b, rfl, rfl⟩ <;> rcases h' with ⟨a', rfl, rfl⟩ | ⟨a', b', rfl, rfl⟩ | ⟨a', b', rfl, rfl⟩ <;> first | exact ⟨rfl, rfl⟩ | contradiction | omega

theorem Ex.yes {ts : List Tok} {most g : Int} {os : List Int} (h : Ex ts most g os) (hk : Ok ts ts.length) (hm : (tot ts : Int) ≤ most) : g = 0 ∧ os = mks ts := by
  rcases h with ⟨a, _⟩ | ⟨a, b, _⟩ | ⟨_, _, h⟩
  · exact absurd hk a
  · omega
  · exact h

theorem Ex.byt {ts : List Tok} {most g : Int} {os : List Int} (h : Ex ts most g os) (hb : ∀ t ∈ ts, 0 ≤ t.1 ∧ t.1 < 256) : ∀ x ∈ os, 0 ≤ x ∧ x < 256 := by
  rcases h with ⟨_, _, rfl⟩ | ⟨_, _, _, rfl⟩ | ⟨_, _, _, rfl⟩
  · intro x hx; cases hx
  · intro x hx; cases hx
  · exact mks_byt ts hb

/-- A token that makes the bytes of b from p on. -/
def Good (b : List Int) (p : Nat) (t : Tok) : Prop :=
  (t = (b.getD p 0, 0, 0)) ∨ ∃ n d : Nat, t = (0, (n : Int), (d : Int)) ∧ 3 ≤ n ∧ n ≤ 258 ∧ 1 ≤ d ∧ d ≤ 32768 ∧ d ≤ p ∧ p + n ≤ b.length ∧ ∀ i, i < n → b.getD (p + i) 0 = b.getD (p + i - d) 0

theorem cps_good (b : List Int) (p d n : Nat) (hd : 1 ≤ d) (hdp : d ≤ p) (hn : p + n ≤ b.length) (h : ∀ i, i < n → b.getD (p + i) 0 = b.getD (p + i - d) 0) : cps n d (b.take p) = b.take (p + n) := by
  induction n with
  | zero => rfl
  | succ n ih =>
    have e := ih (by omega) (fun i hi => h i (by omega))
    show cps n d (b.take p) ++ _ = _
    rw [e]
    have hl : (b.take (p + n)).length = p + n := by simp; omega
    rw [hl, getD_take _ _ _ _ (by omega), ← h n (by omega), ← Nat.add_assoc, take_one b 0 (p + n) (by omega)]

/-- Tokens that make the first p bytes of b. -/
structure Fnd (b : List Int) (p : Nat) (ts : List Tok) : Prop where
  ok : Ok ts ts.length
  out : mks ts = b.take p
  all : tot ts = p
  cnt : ts.length ≤ p
  byt : ∀ t ∈ ts, 0 ≤ t.1 ∧ t.1 < 256

theorem Fnd.nil (b : List Int) : Fnd b 0 [] := ⟨Ok.zero _, by simp [mks], rfl, by simp, fun t h => by cases h⟩

theorem Good.pos {b : List Int} {p : Nat} {t : Tok} (h : Good b p t) (hp : p < b.length) : 1 ≤ sz t ∧ p + sz t ≤ b.length := by
  rcases h with rfl | ⟨n, d, rfl, h1, h2, _, _, _, h3, _⟩
  · exact ⟨by simp [sz], by simp [sz]; omega⟩
  · have e : sz (0, (n : Int), (d : Int)) = n := by
      have := sz_C (t := (0, (n : Int), (d : Int))) (n := d) ⟨rfl, by simp; omega, by simp; omega, by simp; omega, by simp⟩
      exact Int.ofNat.inj this
    rw [e]
    omega

theorem Fnd.step {b : List Int} {p : Nat} {ts : List Tok} {t : Tok} (h : Fnd b p ts) (hb : ∀ x ∈ b, 0 ≤ x ∧ x < 256) (hp : p < b.length) (ht : Good b p t) : Fnd b (p + sz t) (ts ++ [t]) := by
  have hpos := ht.pos hp
  have hbp : 0 ≤ b.getD p 0 ∧ b.getD p 0 < 256 := by
    rw [List.getD, List.getElem?_eq_getElem hp]
    exact hb _ (by simp)
  have hok : okT (tot ts) t := by
    rw [h.all]
    rcases ht with rfl | ⟨n, d, rfl, h1, h2, h3, h4, h5, h6, _⟩
    · exact .inl ⟨rfl, rfl⟩
    · exact .inr ⟨rfl, by simp; omega, by simp; omega, by simp; omega, by simp only []; omega⟩
  refine ⟨?_, ?_, ?_, ?_, ?_⟩
  · rw [List.length_append]; exact h.ok.app hok
  · rw [mks_app, h.out]
    rcases ht with rfl | ⟨n, d, rfl, h1, h2, h3, h4, h5, h6, h7⟩
    · rw [mk1_L ⟨rfl, rfl⟩, sz_L ⟨rfl, rfl⟩, take_one b 0 p hp]
    · have hc : isC (0, (n : Int), (d : Int)) d := ⟨rfl, by simp; omega, by simp; omega, by simp; omega, by simp⟩
      have e := sz_C hc
      have e : sz (0, (n : Int), (d : Int)) = n := Int.ofNat.inj e
      rw [mk1_C (fun hh => by have := hh.1; simp at this; omega), e]
      simpa using cps_good b p d n h3 h5 h6 h7
  · rw [tot_app, tot_one, h.all]
  · rw [List.length_append]; have := h.cnt; simp; omega
  · intro u hu
    rcases List.mem_append.1 hu with h' | h'
    · exact h.byt u h'
    · obtain rfl : u = t := by simpa using h'
      rcases ht with rfl | ⟨n, d, rfl, _⟩
      · exact hbp
      · exact ⟨by simp, by simp⟩

/-- b comes again each q bytes. -/
def Per (b : List Int) (q : Nat) : Prop := ∀ i, q ≤ i → i < b.length → b.getD i 0 = b.getD (i - q) 0

/-- How many tokens there are at most, of bytes that come again. -/
def Few (N q p c : Nat) : Prop := c ≤ q + (p - q) / 258 + 1 + (p + 3 - N)

theorem Few.step {N q p c s : Nat} (h : Few N q p c) (hc : c ≤ p) (hp : p < N) (hs : 1 ≤ s) (hsn : p + s ≤ N) (hl : q ≤ p → p + 3 ≤ N → s = min 258 (N - p)) : Few N q (p + s) (c + 1) := by
  unfold Few at *
  by_cases h1 : p < q
  · omega
  · by_cases h2 : p + 3 ≤ N
    · have hs := hl (by omega) h2
      by_cases h3 : 258 ≤ N - p
      · have e : (p + s - q) / 258 = (p - q) / 258 + 1 := by
          rw [show p + s - q = (p - q) + 258 by omega, Nat.add_div_right _ (by decide)]
        omega
      · have e : (p - q) / 258 ≤ (p + s - q) / 258 := Nat.div_le_div_right (by omega)
        omega
    · have e : (p - q) / 258 ≤ (p + s - q) / 258 := Nat.div_le_div_right (by omega)
      omega

theorem Few.fin {N q c : Nat} (h : Few N q N c) (hq : q ≤ 100) : c ≤ 110 + N / 200 := by
  unfold Few at h
  have h1 : (N - q) / 258 ≤ N / 200 := by omega
  omega

end Go.Proofs.Ytgdodphpomkakaa
