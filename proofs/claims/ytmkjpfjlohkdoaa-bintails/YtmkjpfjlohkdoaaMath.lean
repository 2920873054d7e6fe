/- The numbers of seven bits a byte, there and back: plain arithmetic. -/
import Derived.Test.YtmkjpfjlohkdoaaWSize
import Derived.Test.YtmkjpfjlohkdoaaWOffset
import Derived.Test.YtmkjpfjlohkdoaaWRdOfs
namespace Go.Proofs.Ytmkjpfjlohkdoaa

theorem sz_back (t : List Int) : ∀ (f : Nat) (v : Int), 0 ≤ v → v < 128 ^ f → 1 ≤ f → rdSize (sz f v ++ t) = some (v, (sz f v).length) := by
  intro f
  induction f with
  | zero => intro v _ _ h; omega
  | succ f ih =>
    intro v h0 h1 _
    by_cases h : v ≤ 127
    · rw [sz_last (f + 1) v h (by omega)]
      simp [rdSize, show v < 128 from by omega]
    · have ⟨h2, h3, h4⟩ := sz_step (f + 1) v (by omega) h1 (by omega)
      simp only [Nat.add_sub_cancel] at h3 h4
      rw [h4, List.cons_append, rdSize, if_neg (by omega), ih (v / 128) (by omega) h3 (by omega)]
      simp
      omega

theorem sz_byt : ∀ (f : Nat) (v : Int), 0 ≤ v → ∀ x ∈ sz f v, 0 ≤ x ∧ x < 256 := by
  intro f
  induction f with
  | zero => intro v _ x hx; cases hx
  | succ f ih =>
    intro v h0 x hx
    by_cases h : v ≤ 127
    · simp only [sz, if_pos h, List.mem_singleton] at hx
      omega
    · simp only [sz, if_neg h, List.mem_cons] at hx
      rcases hx with rfl | hx
      · omega
      · exact ih (v / 128) (by omega) x hx

theorem sz_len : ∀ (f : Nat) (v w : Int), 0 ≤ v → v ≤ w → (sz f v).length ≤ (sz f w).length := by
  intro f
  induction f with
  | zero => intro v w _ _; simp [sz]
  | succ f ih =>
    intro v w h0 h
    by_cases h1 : v ≤ 127
    · by_cases h2 : w ≤ 127
      · simp [sz, h1, h2]
      · simp [sz, h1, h2]
    · have h2 : ¬ w ≤ 127 := by omega
      have := ih (v / 128) (w / 128) (by omega) (by omega)
      simp only [sz, if_neg h1, if_neg h2, List.length_cons]
      omega

theorem sz_len_le (f : Nat) : ∀ v, (sz f v).length ≤ f := by
  induction f with
  | zero => intro v; simp [sz]
  | succ f ih =>
    intro v
    by_cases h : v ≤ 127
    · simp [sz, h]
    · simp [sz, h]; exact ih _

theorem sz_pos (f : Nat) (v : Int) : 1 ≤ (sz (f + 1) v).length := by
  by_cases h : v ≤ 127 <;> simp [sz, h]

theorem ob_len : ∀ (f : Nat) (x y : Int), x ≤ y → (ob f x).length ≤ (ob f y).length := by
  intro f
  induction f with
  | zero => intro x y _; simp [ob]
  | succ f ih =>
    intro x y h
    by_cases h1 : x ≤ 0
    · simp [ob, h1]
    · have h2 : ¬ y ≤ 0 := by omega
      have := ih ((x - 1) / 128) ((y - 1) / 128) (by omega)
      simp only [ob, if_neg h1, if_neg h2, List.length_cons]
      omega

theorem ofs_len (v w : Int) (h : v ≤ w) : (ofsBack v).length ≤ (ofsBack w).length := by
  have := ob_len 8 (v / 128) (w / 128) (by omega)
  simp only [ofsBack, List.length_cons]
  omega

theorem ob_back : ∀ (f : Nat) (x : Int) (t : List Int), 0 ≤ x → x < 128 ^ f → rdOfs 0 0 ((ob f x).reverse ++ t) = rdOfs (ob f x).length (if x = 0 then 0 else x - 1) t := by
  intro f
  induction f with
  | zero =>
    intro x t h0 h1
    have : x = 0 := by simp at h1; omega
    subst this
    simp [ob]
  | succ f ih =>
    intro x t h0 h1
    by_cases h : x ≤ 0
    · have : x = 0 := by omega
      subst this
      simp [ob]
    · have ⟨_, h3, h4⟩ := ob_step (f + 1) x (by omega) h1
      simp only [Nat.add_sub_cancel] at h3 h4
      rw [h4, List.reverse_cons, List.append_assoc, ih _ _ (by omega) h3, List.singleton_append, rdOfs, if_neg (show ¬ (x - 1) % 128 + 128 < 128 by omega), List.length_cons, if_neg (show ¬ x = 0 by omega)]
      congr 1
      unfold ofsStep
      by_cases hz : (x - 1) / 128 = 0
      · have : ob f ((x - 1) / 128) = [] := ob_last f _ (by omega)
        rw [this, if_pos (show ([] : List Int).length = 0 from rfl)]
        omega
      · have : (ob f ((x - 1) / 128)).length ≠ 0 := by
          cases f with
          | zero => simp at h3; omega
          | succ f => simp [ob, show ¬ (x - 1) / 128 ≤ 0 from by omega]
        rw [if_neg this, if_neg hz]
        omega

theorem ofs_back (v : Int) (t : List Int) (h0 : 0 ≤ v) (h1 : v ≤ 9223372036854775807) : rdOfs 0 0 ((ofsBack v).reverse ++ t) = some (v, (ofsBack v).length) := by
  have hb : v / 128 < 128 ^ 8 := by
    have : (128 : Int) ^ 8 = 72057594037927936 := rfl
    omega
  rw [ofsBack, List.reverse_cons, List.append_assoc, ob_back 8 (v / 128) _ (by omega) hb, List.singleton_append, rdOfs, if_pos (by omega)]
  unfold ofsStep
  by_cases hz : v / 128 = 0
  · have : ob 8 (v / 128) = [] := ob_last 8 _ (by omega)
    rw [this]
    simp
    omega
  · have : (ob 8 (v / 128)).length ≠ 0 := by simp [ob, show ¬ v / 128 ≤ 0 from by omega]
    rw [if_neg this, if_neg hz, List.length_cons]
    simp
    omega

theorem sz_front (v w : Int) (h0 : 0 ≤ v) (h1 : v ≤ 9223372036854775807) (k0 : 0 ≤ w) (k1 : w ≤ 9223372036854775807) (hne : v ≠ w) : ¬ sz 9 v <+: sz 9 w := by
  rintro ⟨t, ht⟩
  have h9 : (128 : Int) ^ 9 = 9223372036854775808 := rfl
  have a := sz_back t 9 v h0 (by omega) (by omega)
  have b := sz_back [] 9 w k0 (by omega) (by omega)
  rw [List.append_nil, ← ht, a] at b
  simp at b
  exact hne b.1

theorem ofs_front (v w : Int) (h0 : 0 ≤ v) (h1 : v ≤ 9223372036854775807) (k0 : 0 ≤ w) (k1 : w ≤ 9223372036854775807) (hne : v ≠ w) : ¬ (ofsBack v).reverse <+: (ofsBack w).reverse := by
  rintro ⟨t, ht⟩
  have a := ofs_back v t h0 h1
  have b := ofs_back w [] k0 k1
  rw [List.append_nil, ← ht, a] at b
  simp at b
  exact hne b.1

end Go.Proofs.Ytmkjpfjlohkdoaa
