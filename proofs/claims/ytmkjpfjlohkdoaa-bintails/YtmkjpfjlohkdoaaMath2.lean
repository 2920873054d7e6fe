/- What stands behind a number turns nothing of it; a front of it is too short. -/
import Derived.Test.YtmkjpfjlohkdoaaMath
namespace Go.Proofs.Ytmkjpfjlohkdoaa

theorem size_tail (v : Int) (t : List Int) (h0 : 0 ≤ v) (h1 : v ≤ 9223372036854775807) : sizeAns (sz 9 v ++ t) = (v, ((sz 9 v).length : Int), 0) := by
  have h9 : (128 : Int) ^ 9 = 9223372036854775808 := rfl
  have hl := sz_len_le 9 v
  have e : (sz 9 v ++ t).take 9 = sz 9 v ++ t.take (9 - (sz 9 v).length) := by rw [List.take_append, List.take_of_length_le hl]
  simp only [sizeAns, e, sz_back _ 9 v h0 (by omega) (by omega)]

theorem ob_short : ∀ (f g : Nat) (x : Int), x < 128 ^ g → (ob f x).length ≤ g := by
  intro f
  induction f with
  | zero => intro g x _; simp [ob]
  | succ f ih =>
    intro g x h
    by_cases hx : x ≤ 0
    · simp [ob, hx]
    · cases g with
      | zero => simp at h; omega
      | succ g =>
        have := ih g ((x - 1) / 128) (by rw [Int.pow_succ] at h; omega)
        simp only [ob, if_neg hx, List.length_cons]
        omega

theorem ofs_short (v : Int) (h1 : v ≤ 36028797018963968) : (ofsBack v).length ≤ 8 := by
  have h := ob_short 8 7 (v / 128) (by have : (128 : Int) ^ 7 = 562949953421312 := rfl; omega)
  simp only [ofsBack, List.length_cons]
  omega

theorem ofs_tail (v : Int) (t : List Int) (h0 : 0 ≤ v) (h1 : v ≤ 36028797018963968) : ofsAns ((ofsBack v).reverse ++ t) = (v, ((ofsBack v).length : Int), 0) := by
  have hl := ofs_short v h1
  have e : ((ofsBack v).reverse ++ t).take 8 = (ofsBack v).reverse ++ t.take (8 - (ofsBack v).length) := by
    rw [List.take_append, List.take_of_length_le (by simpa using hl)]
    simp
  simp only [ofsAns, e, ofs_back v _ h0 (by omega)]

theorem rdSize_none : ∀ xs : List Int, (∀ x ∈ xs, ¬ x < 128) → rdSize xs = none := by
  intro xs
  induction xs with
  | nil => intro _; rfl
  | cons x xs ih =>
    intro h
    rw [rdSize, if_neg (h x (by simp)), ih (fun y hy => h y (by simp [hy]))]
    rfl

theorem rdOfs_none : ∀ (xs : List Int) (k : Nat) (a : Int), (∀ x ∈ xs, ¬ x < 128) → rdOfs k a xs = none := by
  intro xs
  induction xs with
  | nil => intro k a _; rfl
  | cons x xs ih =>
    intro k a h
    rw [rdOfs, if_neg (h x (by simp)), ih _ _ (fun y hy => h y (by simp [hy]))]

theorem sz_fronts : ∀ (f k : Nat) (v : Int), k < (sz f v).length → ∀ x ∈ (sz f v).take k, ¬ x < 128 := by
  intro f
  induction f with
  | zero => intro k v h; simp [sz] at h
  | succ f ih =>
    intro k v h x hx
    by_cases hv : v ≤ 127
    · simp only [sz, if_pos hv, List.length_singleton] at h
      obtain rfl : k = 0 := by omega
      cases hx
    · simp only [sz, if_neg hv, List.length_cons] at h hx
      cases k with
      | zero => cases hx
      | succ k =>
        simp only [List.take_succ_cons, List.mem_cons] at hx
        rcases hx with rfl | hx
        · omega
        · exact ih k (v / 128) (by omega) x hx

theorem ob_high : ∀ (f : Nat) (x : Int), ∀ y ∈ ob f x, ¬ y < 128 := by
  intro f
  induction f with
  | zero => intro x y hy; cases hy
  | succ f ih =>
    intro x y hy
    by_cases hx : x ≤ 0
    · simp [ob, hx] at hy
    · simp only [ob, if_neg hx, List.mem_cons] at hy
      rcases hy with rfl | hy
      · omega
      · exact ih _ y hy

theorem size_cut (v : Int) (k : Nat) (hk : k < (sz 9 v).length) : sizeAns ((sz 9 v).take k) = (0, 0, 3) := by
  have hl := sz_len_le 9 v
  have e : ((sz 9 v).take k).take 9 = (sz 9 v).take k := List.take_of_length_le (by simp; omega)
  simp only [sizeAns, e, rdSize_none _ (sz_fronts 9 k v hk)]
  rw [if_pos (by simp; omega)]

theorem ofs_cut (v : Int) (k : Nat) (h1 : v ≤ 36028797018963968) (hk : k < (ofsBack v).length) : ofsAns ((ofsBack v).reverse.take k) = (0, 0, 3) := by
  have hl := ofs_short v h1
  have e : ((ofsBack v).reverse.take k).take 8 = (ofsBack v).reverse.take k := List.take_of_length_le (by simp; omega)
  have hn : ∀ x ∈ (ofsBack v).reverse.take k, ¬ x < 128 := by
    intro x hx
    simp only [ofsBack, List.reverse_cons] at hx
    simp only [ofsBack, List.length_cons] at hk
    rw [List.take_append_of_le_length (by simp; omega)] at hx
    exact ob_high 8 (v / 128) x (by simpa using List.mem_of_mem_take hx)
  simp only [ofsAns, e, rdOfs_none _ 0 0 hn]
  rw [if_pos (by simp; omega)]

end Go.Proofs.Ytmkjpfjlohkdoaa
