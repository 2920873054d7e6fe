/- Names: Cut, isPart, Name, dirOf. -/
import Derived.Test.YtmpfbemdljfamaaWRow
import Derived.Lib.Strings
import Derived.Lib.Slices
import Derived.Lib.Walk
import Derived.Lib.Bytealg
import Derived.Laws.RangeString
import Derived.Deep.LoopGhost
namespace Go.Proofs.Ytmpfbemdljfamaa
open Go.RowKit Go.Maps

set_option maxHeartbeats 1000000 in
set_option maxRecDepth 100000 in
theorem idxByte (s : ByteArray) (c : Int) (w : World) :
    Calls Try.prog 89 #[.string s, .int .u8 c] w fun e w' => e = .returned (.int .i64 (Lib.indexByte s.data.toList c.toNat.toUInt8)) ∧ w' = w := by
  go_enter Try.func89, Try.ntmps89
  go_wp2
  rw [run_callFunc_extern Try.func94 (by kernel_rfl) (by kernel_rfl) (by kernel_rfl) (e := Extern.BytealgIndexByte.indexByte) (by kernel_rfl), Lib.run_indexByteString]
  simp only [Result.andThen]
  rw [Oper.upon_value]
  go_wp2
  go_ret
  exact ⟨rfl, rfl⟩

/-- The text of one stroke. -/
abbrev slash : ByteArray := { data := #[47] }

set_option maxHeartbeats 1000000 in
set_option maxRecDepth 100000 in
theorem idx_any (s : ByteArray) (w : World) (i : Int) (hne : ([47] == s.toList) = false) (hi : Lib.indexByte s.data.toList 47 = i) :
    Calls Try.prog 82 #[.string s, .string slash] w fun e w' => e = .returned (.int .i64 i) ∧ w' = w := by
  have hib := idxByte s 47 w
  rw [show ((47 : Int).toNat.toUInt8) = 47 from rfl, hi] at hib
  clear hi
  go_enter Try.func82, Try.ntmps82
  go_wp2_with (go_at_call 89; refine hib.mono ?_; rintro e w1 ⟨rfl, rfl⟩)
  go_ret
  exact ⟨rfl, rfl⟩

set_option maxRecDepth 100000 in
theorem cut_yes (s : ByteArray) (i : Nat) (w : World) (hne : ([47] == s.toList) = false) (hi : Lib.indexByte s.data.toList 47 = i) (hs : i < s.size) (hz : s.size ≤ 1000000) :
    Calls Try.prog 51 #[.string s, .string slash] w fun e w' => e = .returned (.tuple #[.string (s.extract 0 i), .string (s.extract (i + 1) s.size), .bool true]) ∧ Below w.heap.size w w' := by
  have q1 : decide ((0 : Int) ≤ (i : Int)) = true := by simp
  have q2 : IntKind.i64.wrap ((i : Int) + 1) = ((i + 1 : Nat) : Int) := by rw [IntKind.wrap_i64]; omega
  have q3 : wrap64 ((i : Int) + 1) = ((i + 1 : Nat) : Int) := by rw [IntWalk.wrap64_in _ (by omega)]; omega
  have q4 : i ≤ s.size := by omega
  have q5 : i + 1 ≤ s.size := by omega
  have h1 : Calls Try.prog 67 #[.string s, .string slash] w fun e w' => e = .returned (.tuple #[.string (s.extract 0 i), .string (s.extract (i + 1) s.size), .bool true]) ∧ Below w.heap.size w w' := by
    go_enter Try.func67, Try.ntmps67
    go_wp2_with (go_at_call 82; refine (idx_any s _ i hne hi).mono ?_; rintro e w1 ⟨rfl, rfl⟩)
    go_region
    go_wp2
    go_ret3
    exact ⟨rfl, drew_keep _⟩
  go_enter Try.func51, Try.ntmps51
  go_wp2_with (go_at_call 67; refine h1.mono ?_; rintro e w1 ⟨rfl, hb⟩)
  go_ret3
  exact ⟨rfl, hb⟩

/-- May a byte be in a name? -/
def okb (c : Nat) : Bool := (97 ≤ c && c ≤ 122) || (65 ≤ c && c ≤ 90) || (48 ≤ c && c ≤ 57) || c == 46 || c == 95 || c == 45

theorem isOther_no (c : Nat) (w : World) (h : okb c = true) : Calls Try.prog 56 #[.int .i32 c] w fun e w' => e = .returned (.bool false) ∧ w' = w := by
  simp only [okb, Bool.or_eq_true, Bool.and_eq_true, decide_eq_true_eq, beq_iff_eq] at h
  go_enter Try.func56, Try.ntmps56
  go_wp2
  all_goals first
    | (go_ret; exact ⟨rfl, rfl⟩)
    | (exfalso; omega)
    | trace_state

end Go.Proofs.Ytmpfbemdljfamaa
