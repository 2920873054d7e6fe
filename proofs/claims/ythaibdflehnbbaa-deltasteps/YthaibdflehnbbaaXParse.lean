/- The document's Parse. -/
import Derived.Test.YthaibdflehnbbaaXSize
namespace Go.Proofs.Ythaibdflehnbbaa
open Go.RowKit

theorem Try.info53 : (Try.prog.info? 53).map (fun i => (i.zero, i.size, i.bytes)) = some (some (.agg #[.bool false, .int .i64 0, .int .i64 0, .slice none 0 0]), 4, 48) := by kernel_rfl
theorem Try.size53 : (Try.prog.info? 53).map (·.size) = some 4 := by kernel_rfl

/-- What is left of a copy's numbers at bit i. -/
def rem7 (c : Int) (i : Nat) (fr nn : Int) (ys : List Int) : Option (Int × Int × List Int) :=
  if i < 4 then (spl c (4 - i) i ys).bind fun p => (spl (c / 16) 3 0 p.2).map fun q => (fr + p.1, q.1, q.2)
  else (spl (c / 16) (7 - i) (i - 4) ys).map fun q => (fr, nn + q.1, q.2)

theorem rem7_cpr (c : Int) (ys : List Int) : cpr c ys = (rem7 c 0 0 0 ys).map fun q => (⟨true, q.1, if q.2.1 = 0 then 65536 else q.2.1, []⟩, q.2.2) := by
  unfold cpr rem7
  rw [if_pos (by omega)]
  cases h : spl c 4 0 ys with
  | none => rfl
  | some p =>
    show Option.map _ _ = Option.map _ (Option.map _ _)
    rw [Option.map_map]
    congr 1
    funext q
    simp only [Function.comp, Int.zero_add]

theorem spl_no1 (c : Int) (m k : Nat) (ys : List Int) (hc : ¬ c / 2 ^ k % 2 = 1) : spl c (m + 1) k ys = spl c m (k + 1) ys := by
  unfold spl; rw [if_neg hc]; cases m <;> rfl

theorem spl_yes1 (c : Int) (m k : Nat) (b : Int) (r : List Int) (hc : c / 2 ^ k % 2 = 1) : spl c (m + 1) k (b :: r) = (spl c m (k + 1) r).map fun p => (256 ^ k * b + p.1, p.2) := by
  conv => lhs; unfold spl
  rw [if_pos hc]

theorem spl_nil1 (c : Int) (m k : Nat) (hc : c / 2 ^ k % 2 = 1) : spl c (m + 1) k [] = none := by
  unfold spl; rw [if_pos hc]

theorem div16 (c : Int) (i : Nat) (h : 4 ≤ i) : c / 16 / 2 ^ (i - 4) = c / 2 ^ i := by
  have := div_div c 4 (i - 4)
  rw [show 4 + (i - 4) = i by omega] at this
  exact this

/-- The numbers at four bits in. -/
theorem rem7_four (c fr : Int) (ys : List Int) : rem7 c 4 fr 0 ys = (spl (c / 16) 3 0 ys).map fun q => (fr, 0 + q.1, q.2) := rfl

theorem rem7_low (c : Int) (i : Nat) (fr : Int) (ys : List Int) (h : i ≤ 4) : rem7 c i fr 0 ys = (spl c (4 - i) i ys).bind fun p => (spl (c / 16) 3 0 p.2).map fun q => (fr + p.1, q.1, q.2) := by
  rcases Nat.lt_or_ge i 4 with h4 | h4
  · unfold rem7; rw [if_pos h4]
  · obtain rfl : i = 4 := by omega
    rw [rem7_four]
    show _ = (some ((0 : Int), ys)).bind _
    simp

theorem rem7_no (c : Int) (i : Nat) (fr nn : Int) (ys : List Int) (hi : i < 7) (hn : i ≤ 4 → nn = 0) (hc : ¬ c / 2 ^ i % 2 = 1) : rem7 c i fr nn ys = rem7 c (i + 1) fr nn ys := by
  rcases Nat.lt_or_ge i 4 with h4 | h4
  · obtain rfl := hn (by omega)
    rw [rem7_low c i fr ys (by omega), rem7_low c (i + 1) fr ys (by omega), show 4 - i = (4 - (i + 1)) + 1 by omega, spl_no1 c _ i ys hc]
  · unfold rem7
    rw [if_neg (by omega), if_neg (by omega), show 7 - i = (7 - (i + 1)) + 1 by omega, spl_no1 _ _ _ ys (by rw [div16 c i h4]; exact hc), show i - 4 + 1 = i + 1 - 4 by omega]

theorem rem7_yes1 (c : Int) (i : Nat) (fr : Int) (b : Int) (r : List Int) (h4 : i < 4) (hc : c / 2 ^ i % 2 = 1) : rem7 c i fr 0 (b :: r) = rem7 c (i + 1) (fr + 256 ^ i * b) 0 r := by
  rw [rem7_low c i fr _ (by omega), rem7_low c (i + 1) _ r (by omega), show 4 - i = (4 - (i + 1)) + 1 by omega, spl_yes1 c _ i b r hc]
  cases h : spl c (4 - (i + 1)) (i + 1) r with
  | none => rfl
  | some p =>
    simp only [Option.map_some, Option.bind_some]
    congr 1
    funext q
    simp only [Int.add_assoc]

theorem rem7_yes2 (c : Int) (i : Nat) (fr nn : Int) (b : Int) (r : List Int) (h4 : 4 ≤ i) (h7 : i < 7) (hc : c / 2 ^ i % 2 = 1) : rem7 c i fr nn (b :: r) = rem7 c (i + 1) fr (nn + 256 ^ (i - 4) * b) r := by
  unfold rem7
  rw [if_neg (by omega), if_neg (by omega), show 7 - i = (7 - (i + 1)) + 1 by omega, spl_yes1 _ _ _ b r (by rw [div16 c i h4]; exact hc), Option.map_map, show i - 4 + 1 = i + 1 - 4 by omega]
  congr 1
  funext q
  simp only [Function.comp, Int.add_assoc]

theorem rem7_nil (c : Int) (i : Nat) (fr nn : Int) (hi : i < 7) (hn : i ≤ 4 → nn = 0) (hc : c / 2 ^ i % 2 = 1) : rem7 c i fr nn [] = none := by
  rcases Nat.lt_or_ge i 4 with h4 | h4
  · obtain rfl := hn (by omega)
    rw [rem7_low c i fr _ (by omega), show 4 - i = (4 - (i + 1)) + 1 by omega, spl_nil1 c _ i hc]
    rfl
  · unfold rem7
    rw [if_neg (by omega), show 7 - i = (7 - (i + 1)) + 1 by omega, spl_nil1 _ _ _ (by rw [div16 c i h4]; exact hc)]
    rfl

theorem rem7_end (c fr nn : Int) (ys : List Int) : rem7 c 7 fr nn ys = some (fr, nn, ys) := by
  unfold rem7
  rw [if_neg (by omega)]
  simp [spl]

/-- The way of Parse: p bytes are read, the steps l are told. -/
structure Rp (w wr : World) (d : List Int) (p0 : Nat) (n : Nat) (lv : Value) (m : Nat) (ms : List MO) (l : List Op) (p : Nat) : Prop where
  own : OwO wr 53 w.heap.size lv m ms l
  bel : Below w.heap.size w wr
  ans : psl (d.drop p0) = cat l (psl (d.drop p))
  mle : m ≤ p
  le : p ≤ n

theorem drop_one (d : List Int) (p : Nat) (h : p < d.length) : d.drop p = d.getD p 0 :: d.drop (p + 1) := drop_cons p d h

end Go.Proofs.Ythaibdflehnbbaa
