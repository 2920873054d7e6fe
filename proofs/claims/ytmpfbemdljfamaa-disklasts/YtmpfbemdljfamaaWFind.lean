/- find, Size, Off, Calls. -/
import Derived.Test.YtmpfbemdljfamaaDSt
namespace Go.Proofs.Ytmpfbemdljfamaa
open Go.RowKit Go.Maps

theorem drew_keep (w : World) : Below w.heap.size w w.drew := ⟨rfl, rfl, rfl, Nat.le_refl _, fun _ _ => rfl⟩

theorem eql51 (x : Option Nat) (w : World) : (binOp .eql 51 (pv x) (.pointer none)).run Try.prog w = .ok (.bool x.isNone) w := by
  cases x <;> kernel_rfl

theorem eql52 (x : Option Nat) (w : World) : (binOp .eql 52 (pv x) (.pointer none)).run Try.prog w = .ok (.bool x.isNone) w := by
  cases x <;> kernel_rfl

theorem find_off (d : Nat) (S : St) (s : ByteArray) (w : World) (hr : w.rowIs d 48 8 (dc S)) (ho : S.off = true) :
    Calls Try.prog 31 #[.pointer (some ⟨d, 0, none⟩), .string s] w fun e w' => e = .returned (.tuple #[.pointer none, .int .i64 8]) ∧ w' = w := by
  have c4 := hr.cell (i := 4) (by omega)
  simp only [dc, ho] at c4
  clear hr
  go_enter Try.func31, Try.ntmps31
  go_wp2
  go_ret2
  exact ⟨rfl, rfl⟩

theorem find_none (d : Nat) (S : St) (s : ByteArray) (w : World) (hr : w.rowIs d 48 8 (dc S)) (hm : Mp w S.nb S.now) (hs : s.size ≤ maxLen) (ho : S.off = false) (hl : look S.now s = none) :
    Calls Try.prog 31 #[.pointer (some ⟨d, 0, none⟩), .string s] w fun e w' => e = .returned (.tuple #[.pointer none, .int .i64 6]) ∧ w' = w := by
  have c4 := hr.cell (i := 4) (by omega)
  have c1 := hr.cell (i := 1) (by omega)
  simp only [dc, ho] at c4 c1
  have hk := look45 hm s hs
  rw [hl] at hk
  simp only [pv, Option.map_none] at hk
  clear hr hm
  go_enter Try.func31, Try.ntmps31
  go_wp2
  go_ret2
  exact ⟨rfl, rfl⟩

theorem find_yes (d : Nat) (S : St) (s : ByteArray) (f : Nat) (w : World) (hr : w.rowIs d 48 8 (dc S)) (hm : Mp w S.nb S.now) (hs : s.size ≤ maxLen) (ho : S.off = false) (hl : look S.now s = some f) :
    Calls Try.prog 31 #[.pointer (some ⟨d, 0, none⟩), .string s] w fun e w' => e = .returned (.tuple #[.pointer (some ⟨f, 0, none⟩), .int .i64 0]) ∧ w' = w := by
  have c4 := hr.cell (i := 4) (by omega)
  have c1 := hr.cell (i := 1) (by omega)
  simp only [dc, ho] at c4 c1
  have hk := look45 hm s hs
  rw [hl] at hk
  simp only [pv, Option.map_some] at hk
  clear hr hm
  go_enter Try.func31, Try.ntmps31
  go_wp2
  go_ret2
  exact ⟨rfl, rfl⟩

theorem size_off (d : Nat) (S : St) (s : ByteArray) (w : World) (hr : w.rowIs d 48 8 (dc S)) (ho : S.off = true) :
    Calls Try.prog 52 #[.pointer (some ⟨d, 0, none⟩), .string s] w fun e w' => e = .returned (.tuple #[.int .i64 0, .int .i64 8]) ∧ w' = w := by
  go_enter Try.func52, Try.ntmps52
  go_wp2_with (go_at_call 31; refine (find_off d S s _ hr ho).mono ?_; rintro e w1 ⟨rfl, rfl⟩)
  go_ret2
  exact ⟨rfl, rfl⟩

theorem size_none (d : Nat) (S : St) (s : ByteArray) (w : World) (hr : w.rowIs d 48 8 (dc S)) (hm : Mp w S.nb S.now) (hs : s.size ≤ maxLen) (ho : S.off = false) (hl : look S.now s = none) :
    Calls Try.prog 52 #[.pointer (some ⟨d, 0, none⟩), .string s] w fun e w' => e = .returned (.tuple #[.int .i64 0, .int .i64 6]) ∧ w' = w := by
  go_enter Try.func52, Try.ntmps52
  go_wp2_with (go_at_call 31; refine (find_none d S s _ hr hm hs ho hl).mono ?_; rintro e w1 ⟨rfl, rfl⟩)
  go_ret2
  exact ⟨rfl, rfl⟩

theorem own_shape {w : World} {base e s n : Nat} {v : Value} {xs : List Value} (h : w.ownsRow base e s v n xs) : ∃ ao c, v = .slice ao n c := by
  rcases h.2 with ⟨rfl, rfl⟩ | ⟨g, cap, cur, rfl, _⟩
  · exact ⟨none, 0, rfl⟩
  · exact ⟨_, _, rfl⟩

theorem size_yes (d : Nat) (S : St) (s : ByteArray) (f : Nat) (x : Fl) (w : World) (hr : w.rowIs d 48 8 (dc S)) (hm : Mp w S.nb S.now) (hs : s.size ≤ maxLen) (ho : S.off = false) (hl : look S.now s = some f)
    (hf : w.rowIs f 79 2 (fc x)) (hd : w.ownsRow 0 5 1 x.v x.xs.length (x.xs.map (Value.int .u8))) :
    Calls Try.prog 52 #[.pointer (some ⟨d, 0, none⟩), .string s] w fun e w' => e = .returned (.tuple #[.int .i64 x.xs.length, .int .i64 0]) ∧ w' = w := by
  have c0 := hf.cell (i := 0) (by omega)
  simp only [fc] at c0
  obtain ⟨ao, c, hv⟩ := own_shape hd
  rw [hv] at c0
  generalize x.xs.length = n at *
  go_enter Try.func52, Try.ntmps52
  go_wp2_with (go_at_call 31; refine (find_yes d S s f _ hr hm hs ho hl).mono ?_; rintro e w1 ⟨rfl, rfl⟩)
  go_ret2
  exact ⟨rfl, rfl⟩

theorem off_any (d : Nat) (S : St) (w : World) (hr : w.rowIs d 48 8 (dc S)) :
    Calls Try.prog 21 #[.pointer (some ⟨d, 0, none⟩)] w fun e w' => e = .returned (.bool S.off) ∧ w' = w := by
  have c4 := hr.cell (i := 4) (by omega)
  simp only [dc] at c4
  clear hr
  go_enter Try.func21, Try.ntmps21
  go_wp2
  go_ret
  exact ⟨rfl, rfl⟩

theorem calls_any (d : Nat) (S : St) (w : World) (hr : w.rowIs d 48 8 (dc S)) :
    Calls Try.prog 19 #[.pointer (some ⟨d, 0, none⟩)] w fun e w' => e = .returned (.int .i64 S.calls) ∧ w' = w := by
  have c4 := hr.cell (i := 5) (by omega)
  simp only [dc] at c4
  clear hr
  go_enter Try.func19, Try.ntmps19
  go_wp2
  go_ret
  exact ⟨rfl, rfl⟩

end Go.Proofs.Ytmpfbemdljfamaa
