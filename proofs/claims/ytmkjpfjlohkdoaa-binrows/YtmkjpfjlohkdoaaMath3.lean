/- Numbers of all widths one behind the other: plain arithmetic. -/
import Derived.Test.YtmkjpfjlohkdoaaWPut
import Derived.Test.YtmkjpfjlohkdoaaWNums
namespace Go.Proofs.Ytmkjpfjlohkdoaa

theorem i64_and16 (n : Int) : bits .and .i64 n 65535 = n % 65536 := by
  have h127 : (BitVec.ofInt 64 65535).toNat = 2 ^ 16 - 1 := by decide
  have key : (BitVec.ofInt 64 n &&& BitVec.ofInt 64 65535).toNat = (n % ((2 ^ 64 : Nat) : Int)).toNat % 2 ^ 16 := by
    rw [BitVec.toNat_and, BitVec.toNat_ofInt, h127, Nat.and_two_pow_sub_one_eq_mod]
  show IntKind.i64.wrap ((BitVec.ofInt 64 n &&& BitVec.ofInt 64 65535).toNat : Nat) = n % 65536
  rw [key, IntKind.wrap_i64]
  omega

theorem i64_and32 (n : Int) : bits .and .i64 n 4294967295 = n % 4294967296 := by
  have h127 : (BitVec.ofInt 64 4294967295).toNat = 2 ^ 32 - 1 := by decide
  have key : (BitVec.ofInt 64 n &&& BitVec.ofInt 64 4294967295).toNat = (n % ((2 ^ 64 : Nat) : Int)).toNat % 2 ^ 32 := by
    rw [BitVec.toNat_and, BitVec.toNat_ofInt, h127, Nat.and_two_pow_sub_one_eq_mod]
  show IntKind.i64.wrap ((BitVec.ofInt 64 n &&& BitVec.ofInt 64 4294967295).toNat : Nat) = n % 4294967296
  rw [key, IntKind.wrap_i64]
  omega

theorem pow256 (k : Nat) : (2 : Int) ^ (8 * k) = 256 ^ k := by rw [Int.pow_mul]; rfl

theorem emod_mul (z M : Int) (hM : 0 < M) : z % (M * 256) = M * (z / M % 256) + z % M := by
  rw [Int.emod_def z (M * 256), Int.emod_def (z / M) 256, Int.emod_def z M, ← Int.ediv_ediv_of_nonneg (Int.le_of_lt hM)]
  rw [Int.mul_sub, Int.mul_assoc]
  omega

theorem num_be (z : Int) : ∀ (s : Nat) (a : Int), num a (be z s) = a * 256 ^ s + z % 256 ^ s := by
  intro s
  induction s with
  | zero => intro a; simp [be, num]
  | succ s ih =>
    intro a
    have hp : (0 : Int) < 256 ^ s := Int.pow_pos (by decide)
    rw [be, num, ih, pow256, Int.pow_succ, emod_mul z _ hp, Int.add_mul]
    rw [Int.mul_comm (z / 256 ^ s % 256), Int.mul_comm (256 ^ s) (256 : Int), ← Int.mul_assoc, Int.mul_comm a 256]
    omega

/-- How many bytes the number at place i takes. -/
def wd (i : Nat) : Nat := if i % 3 = 0 then 2 else if i % 3 = 1 then 4 else 8

theorem wd_le (i : Nat) : 1 ≤ wd i ∧ wd i ≤ 8 := by unfold wd; split <;> (try split) <;> omega

/-- All the numbers' bytes (i: the first one's place). -/
def rows : Nat → List Int → List Int
  | _, [] => []
  | i, z :: zs => be z (wd i) ++ rows (i + 1) zs

theorem rows_snoc (z : Int) : ∀ (xs : List Int) (i : Nat), rows i (xs ++ [z]) = rows i xs ++ be z (wd (i + xs.length)) := by
  intro xs
  induction xs with
  | nil => intro i; simp [rows]
  | cons x xs ih => intro i; simp [rows, ih, Nat.add_comm 1, Nat.add_assoc]

theorem rows_byt : ∀ (xs : List Int) (i : Nat), ∀ x ∈ rows i xs, 0 ≤ x ∧ x < 256 := by
  intro xs
  induction xs with
  | nil => intro i x hx; cases hx
  | cons y xs ih =>
    intro i x hx
    rcases List.mem_append.1 hx with h | h
    · exact be_byt _ _ x h
    · exact ih _ x h

theorem rows_len : ∀ (xs : List Int) (i : Nat), (rows i xs).length ≤ 8 * xs.length := by
  intro xs
  induction xs with
  | nil => intro i; simp [rows]
  | cons y xs ih =>
    intro i
    have := ih (i + 1)
    have h := wd_le i
    simp only [rows, List.length_append, be_length, List.length_cons]
    omega

theorem take_snoc_L (L : List Int) (k : Nat) (h : k < L.length) : L.take (k + 1) = L.take k ++ [L.getD k 0] := by
  rw [List.take_succ_eq_append_getElem h]
  simp [List.getD, List.getElem?_eq_getElem h]

theorem rows_take (L : List Int) (k : Nat) (h : k < L.length) : rows 0 (L.take (k + 1)) = rows 0 (L.take k) ++ be (L.getD k 0) (wd k) := by
  rw [take_snoc_L L k h, rows_snoc]
  simp [Nat.min_eq_left (Nat.le_of_lt h)]

/-- The next number of so many bytes is there. -/
theorem rows_at {X L : List Int} {k p : Nat} (hk : k < L.length) (hd : X.drop p = rows k (L.drop k)) :
    (X.drop p).take (wd k) = be (L.getD k 0) (wd k) ∧ X.drop (p + wd k) = rows (k + 1) (L.drop (k + 1)) ∧ p + wd k ≤ X.length := by
  have e : X.drop p = be (L.getD k 0) (wd k) ++ rows (k + 1) (L.drop (k + 1)) := by
    rw [hd, drop_cons k L hk]
    rfl
  have hl := congrArg List.length e
  simp only [List.length_drop, List.length_append, be_length] at hl
  refine ⟨?_, ?_, ?_⟩
  · rw [e, List.take_append_of_le_length (by rw [be_length]; exact Nat.le_refl _), List.take_of_length_le (by rw [be_length]; exact Nat.le_refl _)]
  · rw [← List.drop_drop, e, List.drop_append_of_le_length (by rw [be_length]; exact Nat.le_refl _), List.drop_of_length_le (by rw [be_length]; exact Nat.le_refl _)]
    rfl
  · have := (wd_le k).1
    omega

theorem tk_in {X : List Int} {p s : Nat} (h : p + s ≤ X.length) : tk X p 0 s = ((X.drop p).take s, p + s, 0) := by
  have h1 : ¬ ((s : Int) < 0 ∨ (X.length : Int) - p < s) := by omega
  simp only [tk, ne_eq, not_true, if_false, if_neg h1, Int.toNat_natCast]

theorem tk_end {X : List Int} {p : Nat} (h : X.length ≤ p) : tk X p 0 1 = ([], p, 3) := by
  have h1 : ((1 : Int) < 0 ∨ (X.length : Int) - p < 1) := by omega
  simp only [tk, ne_eq, not_true, if_false, if_pos h1]

theorem rows_16 {X L : List Int} {k p : Nat} (hk : k < L.length) (hd : X.drop p = rows k (L.drop k)) (h3 : k % 3 = 0) :
    num 0 (tk X p 0 2).1 = L.getD k 0 % 65536 ∧ (tk X p 0 2).2.1 = p + 2 ∧ (tk X p 0 2).2.2 = 0 ∧ X.drop (p + 2) = rows (k + 1) (L.drop (k + 1)) ∧ p + 2 ≤ X.length := by
  have ⟨h1, h2, h4⟩ := rows_at hk hd
  have hw : wd k = 2 := by simp [wd, h3]
  rw [hw] at h1 h2 h4
  have e : tk X p 0 2 = (be (L.getD k 0) 2, p + 2, 0) := by rw [← h1]; exact tk_in h4
  rw [e]
  refine ⟨?_, rfl, rfl, h2, h4⟩
  rw [num_be]
  simp

theorem rows_32 {X L : List Int} {k p : Nat} (hk : k < L.length) (hd : X.drop p = rows k (L.drop k)) (h3 : k % 3 = 1) :
    num 0 (tk X p 0 4).1 = L.getD k 0 % 4294967296 ∧ (tk X p 0 4).2.1 = p + 4 ∧ (tk X p 0 4).2.2 = 0 ∧ X.drop (p + 4) = rows (k + 1) (L.drop (k + 1)) ∧ p + 4 ≤ X.length := by
  have ⟨h1, h2, h4⟩ := rows_at hk hd
  have hw : wd k = 4 := by simp [wd, h3]
  rw [hw] at h1 h2 h4
  have e : tk X p 0 4 = (be (L.getD k 0) 4, p + 4, 0) := by rw [← h1]; exact tk_in h4
  rw [e]
  refine ⟨?_, rfl, rfl, h2, h4⟩
  rw [num_be]
  simp

theorem rows_64 {X L : List Int} {k p : Nat} (hk : k < L.length) (hd : X.drop p = rows k (L.drop k)) (h3 : k % 3 = 2) (hz0 : 0 ≤ L.getD k 0) (hz1 : L.getD k 0 ≤ 9223372036854775807) :
    (u64r X p 0).1 = L.getD k 0 ∧ (u64r X p 0).2.1 = p + 8 ∧ (u64r X p 0).2.2 = 0 ∧ X.drop (p + 8) = rows (k + 1) (L.drop (k + 1)) ∧ p + 8 ≤ X.length := by
  have ⟨h1, h2, h4⟩ := rows_at hk hd
  have hw : wd k = 8 := by simp [wd, h3]
  rw [hw] at h1 h2 h4
  have e : tk X p 0 8 = (be (L.getD k 0) 8, p + 8, 0) := by rw [← h1]; exact tk_in h4
  have hn : num 0 (be (L.getD k 0) 8) = L.getD k 0 := by
    rw [num_be]
    have : (256 : Int) ^ 8 = 18446744073709551616 := rfl
    omega
  have hu : u64r X p 0 = (L.getD k 0, p + 8, 0) := by
    simp only [u64r, e, hn]
    rw [if_neg (by omega)]
  rw [hu]
  exact ⟨rfl, rfl, rfl, h2, h4⟩

theorem rows_64n {X L : List Int} {k p : Nat} (hk : k < L.length) (hd : X.drop p = rows k (L.drop k)) (h3 : k % 3 = 2) (hz0 : L.getD k 0 < 0) (hz1 : -9223372036854775808 ≤ L.getD k 0) :
    (u64r X p 0).1 = 0 ∧ (u64r X p 0).2.1 = p ∧ (u64r X p 0).2.2 = 5 := by
  have ⟨h1, h2, h4⟩ := rows_at hk hd
  have hw : wd k = 8 := by simp [wd, h3]
  rw [hw] at h1 h2 h4
  have e : tk X p 0 8 = (be (L.getD k 0) 8, p + 8, 0) := by rw [← h1]; exact tk_in h4
  have hn : num 0 (be (L.getD k 0) 8) = L.getD k 0 + 18446744073709551616 := by
    rw [num_be]
    have : (256 : Int) ^ 8 = 18446744073709551616 := rfl
    omega
  have hu : u64r X p 0 = (0, p, 5) := by
    simp only [u64r, e, hn]
    rw [if_pos (by omega)]
  rw [hu]
  exact ⟨rfl, rfl, rfl⟩

end Go.Proofs.Ytmkjpfjlohkdoaa
