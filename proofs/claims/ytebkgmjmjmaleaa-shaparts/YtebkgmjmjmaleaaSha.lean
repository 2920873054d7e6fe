/- The sum of bytes, as plain mathematics. -/
import Derived.Test.YtebkgmjmjmaleaaBits
namespace Go.Proofs.Ytebkgmjmjmaleaa
open Go.RowKit

/-- v turned left by n bits. -/
def rotl (v : Int) (n : Nat) : Int := bits .or .u32 (v * 2 ^ n % 4294967296) (v / 2 ^ (32 - n))

def x3 (a b c : Int) : Int := bits .xor .u32 (bits .xor .u32 a b) c

def x4 (a b c d : Int) : Int := bits .xor .u32 (x3 a b c) d

/-- What step t makes of three words. -/
def fF (t : Nat) (b c d : Int) : Int :=
  if t < 20 then bits .or .u32 (bits .and .u32 b c) (bits .and .u32 (bits .xor .u32 IntKind.u32.max b) d)
  else if t < 40 then x3 b c d
  else if t < 60 then bits .or .u32 (bits .or .u32 (bits .and .u32 b c) (bits .and .u32 b d)) (bits .and .u32 c d)
  else x3 b c d

/-- The number of step t. -/
def kK (t : Nat) : Int := if t < 20 then 1518500249 else if t < 40 then 1859775393 else if t < 60 then 2400959708 else 3395469782

structure St where
  a : Int
  b : Int
  c : Int
  d : Int
  e : Int

def St.nth (s : St) : Nat → Int
  | 0 => s.a
  | 1 => s.b
  | 2 => s.c
  | 3 => s.d
  | _ => s.e

def ad (x y : Int) : Int := (x + y) % 4294967296

def tmp (x : Int) (t : Nat) (s : St) : Int := ad (ad (ad (ad (rotl s.a 5) (fF t s.b s.c s.d)) s.e) (kK t)) x

def step (x : Int) (t : Nat) (s : St) : St := ⟨tmp x t s, s.a, rotl s.b 30, s.c, s.d⟩

/-- The steps from t on, by the words of a list. -/
def fwd : List Int → Nat → St → St
  | [], _, s => s
  | x :: l, t, s => fwd l (t + 1) (step x t s)

theorem fwd_snoc (l : List Int) (x : Int) (t : Nat) (s : St) : fwd (l ++ [x]) t s = step x (t + l.length) (fwd l t s) := by
  induction l generalizing t s with
  | nil => rfl
  | cons y l ih => simp only [List.cons_append, fwd, ih, List.length_cons]; congr 1; omega

/-- The words of a block, from the last to the first, and n more ahead of them. -/
def ex (l : List Int) : Nat → List Int
  | 0 => l
  | n + 1 => rotl (x4 ((ex l n).getD 2 0) ((ex l n).getD 7 0) ((ex l n).getD 13 0) ((ex l n).getD 15 0)) 1 :: ex l n

def wd (bs : List Int) (j : Nat) : Int := bs.getD (4 * j) 0 * 16777216 + bs.getD (4 * j + 1) 0 * 65536 + bs.getD (4 * j + 2) 0 * 256 + bs.getD (4 * j + 3) 0

def w16 (bs : List Int) : List Int := ((List.range 16).map (wd bs)).reverse

/-- The eighty words. -/
def sched (bs : List Int) : List Int := (ex (w16 bs) 64).reverse

/-- The word of step t. -/
def sw (bs : List Int) (t : Nat) : Int := (sched bs).getD t 0

theorem ex_len (l : List Int) (n : Nat) : (ex l n).length = l.length + n := by
  induction n with
  | zero => rfl
  | succ n ih => simp only [ex, List.length_cons, ih]; omega

theorem ex_drop (l : List Int) (n j : Nat) : ex l n = (ex l (n + j)).drop j := by
  induction j with
  | zero => rfl
  | succ j ih => rw [← Nat.add_assoc]; simp only [ex, List.drop_succ_cons]; exact ih

theorem w16_len (bs : List Int) : (w16 bs).length = 16 := by simp [w16]

theorem sched_len (bs : List Int) : (sched bs).length = 80 := by simp [sched, ex_len, w16_len]

theorem getD_rev (l : List Int) (i : Nat) (h : i < l.length) : l.reverse.getD i 0 = l.getD (l.length - 1 - i) 0 := by
  simp [List.getD, List.getElem?_reverse h]

theorem sw_eq (bs : List Int) (n j : Nat) (hn : n ≤ 64) (hj : j < 16 + n) : sw bs j = (ex (w16 bs) n).getD (15 + n - j) 0 := by
  have h := ex_drop (w16 bs) n (64 - n)
  rw [show n + (64 - n) = 64 by omega] at h
  unfold sw sched
  rw [getD_rev _ _ (by rw [ex_len, w16_len]; omega), ex_len, w16_len, h]
  simp only [List.getD, List.getElem?_drop]
  congr 2
  omega

theorem sw_low (bs : List Int) (j : Nat) (hj : j < 16) : sw bs j = wd bs j := by
  rw [sw_eq bs 0 j (by omega) (by omega)]
  simp only [ex, w16]
  rw [getD_rev _ _ (by simp; omega)]
  simp only [List.length_map, List.length_range, List.getD, List.getElem?_map]
  rw [List.getElem?_range (by omega)]
  simp only [Option.map_some, Option.getD_some]
  congr 1
  omega

theorem sw_high (bs : List Int) (t : Nat) (h : 16 ≤ t) (ht : t < 80) : sw bs t = rotl (x4 (sw bs (t - 3)) (sw bs (t - 8)) (sw bs (t - 14)) (sw bs (t - 16))) 1 := by
  rw [sw_eq bs (t - 15) t (by omega) (by omega)]
  have hs := fun j (hj : j < t) => sw_eq bs (t - 16) j (by omega) (by omega)
  rw [hs (t - 3) (by omega), hs (t - 8) (by omega), hs (t - 14) (by omega), hs (t - 16) (by omega)]
  rw [show 15 + (t - 15) - t = 0 by omega, show t - 15 = t - 16 + 1 by omega, show 15 + (t - 16) - (t - 3) = 2 by omega, show 15 + (t - 16) - (t - 8) = 7 by omega, show 15 + (t - 16) - (t - 14) = 13 by omega, show 15 + (t - 16) - (t - 16) = 15 by omega]
  rfl

/-- The state behind k steps. -/
def run (bs : List Int) (h : St) (k : Nat) : St := fwd ((sched bs).take k) 0 h

theorem run_zero (bs : List Int) (h : St) : run bs h 0 = h := rfl

theorem run_succ (bs : List Int) (h : St) (k : Nat) (hk : k < 80) : run bs h (k + 1) = step (sw bs k) k (run bs h k) := by
  have hl := sched_len bs
  unfold run
  rw [List.take_add_one, List.getElem?_eq_getElem (by omega)]
  simp only [Option.toList_some]
  rw [fwd_snoc]
  simp only [List.length_take, hl, Nat.zero_add]
  rw [Nat.min_eq_left (by omega)]
  congr 1
  simp [sw, List.getD, List.getElem?_eq_getElem (show k < (sched bs).length by omega)]

def St.plus (h r : St) : St := ⟨ad h.a r.a, ad h.b r.b, ad h.c r.c, ad h.d r.d, ad h.e r.e⟩

theorem St.plus_nth (h r : St) (i : Nat) : (h.plus r).nth i = ad (h.nth i) (r.nth i) := by
  rcases i with _ | _ | _ | _ | i <;> rfl

/-- The words behind a block. -/
def mix (h : St) (bs : List Int) : St := h.plus (run bs h 80)

def H0 : St := ⟨1732584193, 4023233417, 2562383102, 271733878, 3285377520⟩

def blk (xs : List Int) (n : Nat) : List Int := (xs.drop (64 * n)).take 64

/-- The words behind n blocks. -/
def absb (xs : List Int) : Nat → St
  | 0 => H0
  | n + 1 => mix (absb xs n) (blk xs n)

theorem absb_app (xs ys : List Int) (n : Nat) (h : 64 * n ≤ xs.length) : absb (xs ++ ys) n = absb xs n := by
  induction n with
  | zero => rfl
  | succ n ih =>
    simp only [absb]
    rw [ih (by omega)]
    congr 1
    unfold blk
    rw [List.drop_append_of_le_length (by omega), List.take_append_of_le_length (by simp; omega)]

/-- The lowest n bytes of v, the highest first. -/
def be (v : Int) : Nat → List Int
  | 0 => []
  | n + 1 => v / 2 ^ (8 * n) % 256 :: be v n

def zs (n : Nat) : Nat := (119 - n % 64) % 64

/-- What ends the last block behind n bytes. -/
def fin (n : Nat) : List Int := 128 :: List.replicate (zs n) 0 ++ be (8 * (n : Int)) 8

def pad (xs : List Int) : List Int := xs ++ fin xs.length

/-- Byte i of the words. -/
def byt (s : St) (i : Nat) : Int := s.nth (i / 4) / 2 ^ (24 - 8 * (i % 4)) % 256

def bytes20 (s : St) : List Int := (List.range 20).map (byt s)

/-- The sum. -/
def dig (xs : List Int) : List Int := bytes20 (absb (pad xs) ((pad xs).length / 64))

/-! Reckoned step by step. -/
def frc {α : Type} (n : Nat) (f : Nat → α) : α :=
  match n with
  | 0 => f 0
  | k + 1 => f (k + 1)

theorem frc_eq {α : Type} (n : Nat) (f : Nat → α) : frc n f = f n := by cases n <;> rfl

def frcI {α : Type} (x : Int) (f : Int → α) : α :=
  match x with
  | .ofNat n => frc n fun n => f (Int.ofNat n)
  | .negSucc n => frc n fun n => f (Int.negSucc n)

theorem frcI_eq {α : Type} (x : Int) (f : Int → α) : frcI x f = f x := by
  cases x with
  | ofNat n => exact frc_eq n fun n => f (Int.ofNat n)
  | negSucc n => exact frc_eq n fun n => f (Int.negSucc n)

def frcL {α : Type} : List Int → (List Int → α) → α
  | [], f => f []
  | x :: l, f => frcI x fun y => frcL l fun r => f (y :: r)

theorem frcL_eq {α : Type} (l : List Int) (f : List Int → α) : frcL l f = f l := by
  induction l generalizing f with
  | nil => rfl
  | cons x l ih => rw [frcL, frcI_eq, ih]

def exK {α : Type} : Nat → List Int → (List Int → α) → α
  | 0, l, k => k l
  | n + 1, l, k => frcI (rotl (x4 (l.getD 2 0) (l.getD 7 0) (l.getD 13 0) (l.getD 15 0)) 1) fun x => exK n (x :: l) k

theorem ex_succ' (l : List Int) (n : Nat) : ex l (n + 1) = ex (rotl (x4 (l.getD 2 0) (l.getD 7 0) (l.getD 13 0) (l.getD 15 0)) 1 :: l) n := by
  induction n with
  | zero => rfl
  | succ n ih => rw [ex, ih]; rfl

theorem exK_eq {α : Type} (n : Nat) (l : List Int) (k : List Int → α) : exK n l k = k (ex l n) := by
  induction n generalizing l with
  | zero => rfl
  | succ n ih => rw [ex_succ', exK, frcI_eq, ih]

def fwdK {α : Type} : List Int → Nat → Int → Int → Int → Int → Int → (St → α) → α
  | [], _, a, b, c, d, e, k => k ⟨a, b, c, d, e⟩
  | x :: l, t, a, b, c, d, e, k => frcI (tmp x t ⟨a, b, c, d, e⟩) fun y => frcI (rotl b 30) fun z => fwdK l (t + 1) y a z c d k

theorem fwdK_eq {α : Type} (l : List Int) (t : Nat) (s : St) (k : St → α) : fwdK l t s.a s.b s.c s.d s.e k = k (fwd l t s) := by
  induction l generalizing t s with
  | nil => rfl
  | cons x l ih =>
    rw [fwdK, frcI_eq, frcI_eq]
    exact ih (t + 1) (step x t s)

/-- The sum of bytes that with their ending are one block. -/
def digK (xs : List Int) : List Int := frcL (pad xs) fun p => frcL (w16 p) fun l => exK 64 l fun r => fwdK r.reverse 0 H0.a H0.b H0.c H0.d H0.e fun s => bytes20 (H0.plus s)

theorem dig_one (xs : List Int) (h : (pad xs).length = 64) : dig xs = digK xs := by
  unfold digK
  rw [frcL_eq, frcL_eq, exK_eq, fwdK_eq]
  have hb : blk (pad xs) 0 = pad xs := by unfold blk; rw [Nat.mul_zero, List.drop_zero, List.take_of_length_le (by omega)]
  have hs := sched_len (pad xs)
  unfold dig
  rw [h]
  show bytes20 (mix H0 (blk (pad xs) 0)) = _
  rw [hb]
  unfold mix run
  rw [List.take_of_length_le (by omega)]
  rfl

def sumNil : List Int := [218, 57, 163, 238, 94, 107, 75, 13, 50, 85, 191, 239, 149, 96, 24, 144, 175, 216, 7, 9]

def sumAbc : List Int := [169, 153, 62, 54, 71, 6, 129, 106, 186, 62, 37, 113, 120, 80, 194, 108, 156, 208, 216, 157]

theorem dig_nil : dig [] = sumNil := by
  rw [dig_one _ (by decide +kernel)]
  decide +kernel

theorem dig_abc : dig [97, 98, 99] = sumAbc := by
  rw [dig_one _ (by decide +kernel)]
  decide +kernel

end Go.Proofs.Ytebkgmjmjmaleaa
