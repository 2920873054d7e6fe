/- Names: isPart, Name, dirOf. -/
import Derived.Test.YtmpfbemdljfamaaWStr
namespace Go.Proofs.Ytmpfbemdljfamaa
open Go.RowKit Go.Maps

theorem cut_no (s : ByteArray) (w : World) (hne : ([47] == s.toList) = false) (hi : Lib.indexByte s.data.toList 47 = -1) :
    Calls Try.prog 51 #[.string s, .string slash] w fun e w' => e = .returned (.tuple #[.string s, .string { data := #[] }, .bool false]) ∧ Below w.heap.size w w' := by
  have h1 : Calls Try.prog 67 #[.string s, .string slash] w fun e w' => e = .returned (.tuple #[.string s, .string { data := #[] }, .bool false]) ∧ Below w.heap.size w w' := by
    go_enter Try.func67, Try.ntmps67
    go_wp2_with (go_at_call 82; refine (idx_any s _ (-1) hne hi).mono ?_; rintro e w1 ⟨rfl, rfl⟩)
    go_ret3
    exact ⟨rfl, Below.refl _ _⟩
  go_enter Try.func51, Try.ntmps51
  go_wp2_with (go_at_call 67; refine h1.mono ?_; rintro e w1 ⟨rfl, hb⟩)
  go_ret3
  exact ⟨rfl, hb⟩

/-- A text of such bytes. -/
def okAll (s : ByteArray) : Prop := ∀ i (h : i < s.size), okb (s[i]'h).toNat = true

theorem okb_lt {c : Nat} (h : okb c = true) : c < 128 := by
  simp only [okb, Bool.or_eq_true, Bool.and_eq_true, decide_eq_true_eq, beq_iff_eq] at h
  omega

set_option maxHeartbeats 1000000 in
set_option maxRecDepth 100000 in
theorem idxFunc (s : ByteArray) (w : World) (hok : okAll s) :
    Calls Try.prog 68 #[.string s, .func (.func 56) #[] #[], .bool true] w fun e w' => e = .returned (.int .i64 (-1)) ∧ w' = w.iter s s.size := by
  have HA : Hid (okAll s) := hok
  clear hok
  go_enter Try.func68, Try.ntmps68
  go_wp2
  go_loopg [7, 8, 11, 12, 13, 14, 15, 16, 17, 18, 19] s.size (fun g s7 s8 s11 s12 s13 s14 s15 s16 s17 s18 s19 wx => ∃ i : Nat, i + g = s.size ∧ wx = w.iter s i)
  case atStart => exact ⟨0, by omega, rfl⟩
  case round =>
    obtain ⟨i, hig, rfl⟩ := hrel
    cases gk with
    | zero =>
      obtain rfl : i = s.size := by omega
      have hnx := fun ty => run_next_end (P := Try.prog) w s s.size ty (by omega)
      go_wp2
      go_ret
      exact ⟨rfl, rfl⟩
    | succ g =>
      have hi : i < s.size := by omega
      have ho := HA.out i hi
      have hnx := fun ty => run_next_ascii (P := Try.prog) w s i ty hi (okb_lt ho)
      generalize (s[i]'hi).toNat = c at *
      go_wp2_with (go_at_call 56; refine (isOther_no c _ ho).mono ?_; rintro e w1 ⟨rfl, rfl⟩)
      go_roundg g
      case measure => omega
      case rel => exact ⟨i + 1, by omega, rfl⟩

theorem iter_below (w : World) (s : ByteArray) (i : Nat) : Below w.heap.size w (w.iter s i) := new_below w _

/-- May a text be a name's part? -/
structure Part (s : ByteArray) : Prop where
  lo : 1 ≤ s.size
  hi : s.size ≤ 100
  n1 : (s.toList == [46]) = false
  n2 : (s.toList == [46, 46]) = false
  ok : okAll s

set_option maxRecDepth 100000 in
theorem isPart_yes (s : ByteArray) (w : World) (h : Part s) :
    Calls Try.prog 35 #[.string s] w fun e w' => e = .returned (.bool true) ∧ Below w.heap.size w w' := by
  have q1 : decide ((1 : Int) ≤ (s.size : Int)) = true := by have := h.lo; simp; omega
  have q2 : decide ((s.size : Int) ≤ 100) = true := by have := h.hi; simp; omega
  have q3 : 1 ≤ s.size := h.lo
  have m1 := h.n1
  have m2 := h.n2
  have q4 : s.size ≤ 100 := h.hi
  have hf := fun w => idxFunc s w h.ok
  have h55 : ∀ w, Calls Try.prog 55 #[.string s, .func (.func 56) #[] #[]] w fun e w' => e = .returned (.int .i64 (-1)) ∧ w' = w.iter s s.size := by
    intro w
    go_enter Try.func55, Try.ntmps55
    go_wp2_with (go_at_call 68; refine (hf _).mono ?_; rintro e w1 ⟨rfl, rfl⟩)
    go_ret
    exact ⟨rfl, rfl⟩
  clear hf h
  go_enter Try.func35, Try.ntmps35
  go_wp2_with (go_at_call 55; refine (h55 _).mono ?_; rintro e w1 ⟨rfl, rfl⟩)
  go_ret
  exact ⟨rfl, iter_below _ _ _⟩

/-- A file's name, its directory, and the rest. -/
structure Nm (s a f : ByteArray) : Prop where
  ne : ([47] == s.toList) = false
  ix : ∃ i : Nat, Lib.indexByte s.data.toList 47 = i ∧ i < s.size ∧ s.extract 0 i = a ∧ s.extract (i + 1) s.size = f
  sz : s.size ≤ 1000
  pa : Part a
  pf : Part f

theorem Nm.le {s a f : ByteArray} (h : Nm s a f) : s.size ≤ maxLen := by have := h.sz; unfold maxLen; omega

theorem Part.le {s : ByteArray} (h : Part s) : s.size ≤ maxLen := by have := h.hi; unfold maxLen; omega

theorem Nm.cut {s a f : ByteArray} (h : Nm s a f) (w : World) : Calls Try.prog 51 #[.string s, .string slash] w fun e w' => e = .returned (.tuple #[.string a, .string f, .bool true]) ∧ Below w.heap.size w w' := by
  obtain ⟨i, hi, hs, rfl, rfl⟩ := h.ix
  exact cut_yes s i w h.ne hi hs (by have := h.sz; omega)

theorem dirOf_any (s a f : ByteArray) (w : World) (h : Nm s a f) : Calls Try.prog 27 #[.string s] w fun e w' => e = .returned (.string a) ∧ Below w.heap.size w w' := by
  go_enter Try.func27, Try.ntmps27
  go_wp2_with (go_at_call 51; refine (h.cut _).mono ?_; rintro e w1 ⟨rfl, hb⟩)
  go_ret
  exact ⟨rfl, hb⟩

theorem name_yes (s a f : ByteArray) (w : World) (h : Nm s a f) : Calls Try.prog 22 #[.string s] w fun e w' => e = .returned (.bool true) ∧ Below w.heap.size w w' := by
  have hc := h.cut
  have ha := fun w => isPart_yes a w h.pa
  have hf := fun w => isPart_yes f w h.pf
  clear h
  go_enter Try.func22, Try.ntmps22
  go_wp2_with fail
  refine (hc _).mono ?_
  rintro e w1 ⟨rfl, h1⟩
  go_wp2_with fail
  refine (ha _).mono ?_
  rintro e w2 ⟨rfl, h2⟩
  go_wp2_with fail
  refine (hf _).mono ?_
  rintro e w3 ⟨rfl, h3⟩
  go_wp2
  go_ret
  exact ⟨rfl, (h1.trans (h2.mono h1.size)).trans (h3.mono (Nat.le_trans h1.size h2.size))⟩

theorem name_no (s : ByteArray) (w : World) (hne : ([47] == s.toList) = false) (hi : Lib.indexByte s.data.toList 47 = -1) : Calls Try.prog 22 #[.string s] w fun e w' => e = .returned (.bool false) ∧ Below w.heap.size w w' := by
  have hc := fun w => cut_no s w hne hi
  go_enter Try.func22, Try.ntmps22
  go_wp2_with (go_at_call 51; refine (hc _).mono ?_; rintro e w1 ⟨rfl, h1⟩)
  go_ret
  exact ⟨rfl, h1⟩

end Go.Proofs.Ytmpfbemdljfamaa
