/- ObB, Shelf. -/
import Derived.Test.YtojgablpjdlegabGreatDoorM05
import Derived.WalkKit
import Derived.Shelf.Strings.SlTrimAscii
import Derived.Shelf.Strconv.Atoi
import Derived.Shelf.Strconv.Itoa3
import Derived.Shelf.Strings.FieldsFuncAny
import Derived.Ground.SlbtProg
import Derived.Shelf.Bytes.SlCut
import Derived.Test.YtojgablpjdlegabGreatDoorM01
/- The object's reader: what is cut off its front. -/
namespace Go.Proofs.YtojgablpjdlegabGreatDoor
open Go.RowKit

/-- A text. -/
abbrev sv (l : List UInt8) : Value := .string ⟨l.toArray⟩

theorem cat_sv (a b : List UInt8) : (⟨a.toArray⟩ ++ ⟨b.toArray⟩ : ByteArray) = ⟨(a ++ b).toArray⟩ := by
  apply ByteArray.ext
  simp

theorem size_sv (a : List UInt8) : (⟨a.toArray⟩ : ByteArray).size = a.length := rfl

theorem drewN_b (w : World) (n : Nat) : Below w.heap.size w (w.drewN n) := ⟨rfl, rfl, rfl, Nat.le_refl _, fun _ _ => rfl⟩

set_option maxRecDepth 100000 in
theorem until1_any (l sep : List UInt8) (p : Addr) (w : World) (hg : Gs w) (hc : w.cell? p = some (sv sep)) (hs : l.length ≤ 1000000) :
    Calls Tryz.prog 156 #[sv l, .pointer (some p)] w fun e w' => e = .returned (.tuple #[sv (Lib.cut l sep).1, sv (Lib.cut l sep).2.1, .bool (Lib.cut l sep).2.2]) ∧ Below w.heap.size w w' := by
  obtain ⟨m, hm⟩ := hg.most
  have hcut : Calls Tryz.prog 29 #[sv l, sv sep] w fun e w' => e = .returned (.tuple #[sv (Lib.cut l sep).1, sv (Lib.cut l sep).2.1, .bool (Lib.cut l sep).2.2]) ∧ ∃ n, w' = w.drewN n := Any.strings_Cut Tryz.scut ⟨l.toArray⟩ ⟨sep.toArray⟩ m w (by rw [size_sv]; omega) hm
  have HB : Hid (∀ n, Below w.heap.size w (w.drewN n)) := fun n => drewN_b w n
  generalize (Lib.cut l sep).1 = a at *
  generalize (Lib.cut l sep).2.1 = b at *
  generalize (Lib.cut l sep).2.2 = c at *
  clear hm hg
  go_enter Tryz.func156, Tryz.ntmps156
  go_wp2_with (go_at_call 29; refine hcut.mono ?_; rintro e w1 ⟨rfl, n, hw1⟩; subst hw1)
  go_ret3
  exact ⟨rfl, HB.out n⟩

set_option maxRecDepth 100000 in
theorem until_any (sep : List UInt8) (w : World) : Calls Tryz.prog 129 #[sv sep] w fun e w' => e = .returned (.func (.func 156) #[] #[.pointer (some ⟨w.heap.size, 0, none⟩)]) ∧ w' = w.alloc (.cells #[sv sep] 9) := by
  go_enter Tryz.func129, Tryz.ntmps129
  go_wp2
  go_ret
  exact ⟨rfl, rfl⟩

/-- The reader's cells. -/
def rf (l : List UInt8) (e : Int) (j : Nat) : Value := if j = 0 then sv l else .int .i64 e

/-- A fault, if something does not hold. -/
def nd (b : Bool) (e k : Int) : Int := if b = false ∧ e = 0 then k else e

set_option maxRecDepth 100000 in
theorem need_any (R : Nat) (l : List UInt8) (e k : Int) (b : Bool) (w : World) (h : w.rowIs R 89 2 (rf l e)) : Calls Tryz.prog 96 #[.pointer (some ⟨R, 0, none⟩), .bool b, .int .i64 k] w fun ex w' => ex = .returned (.tuple #[]) ∧ w'.rowIs R 89 2 (rf l (nd b e k)) ∧ Fr (fun i => i = R) w w' := by
  have c1 : w.cell? ⟨R, 1, none⟩ = some (.int .i64 e) := h.cell (i := 1) (by omega)
  have H : Hid (w.rowIs R 89 2 (rf l e)) := h
  clear h
  cases b with
  | true =>
    go_enter Tryz.func96, Tryz.ntmps96
    go_wp2
    go_end0
    exact ⟨rfl, H.out, Fr.refl _ _⟩
  | false =>
    by_cases he : e = 0
    · subst he
      have fz := World.rowIs.frozen H.out 1
      go_enter Tryz.func96, Tryz.ntmps96
      go_wp2
      go_end0
      refine ⟨rfl, set_row H.out 1 (.int .i64 k) (fun j hj => ?_), set_fr w R 1 _⟩
      rcases (show j = 0 ∨ j = 1 by omega) with rfl | rfl <;> simp [rf, nd]
    · have d : (e == 0) = false := by simp; omega
      go_enter Tryz.func96, Tryz.ntmps96
      go_wp2
      go_end0
      exact ⟨rfl, by rw [show nd false e k = e by unfold nd; rw [if_neg (by simp [he])]]; exact H.out, Fr.refl _ _⟩

/-- A piece and what is left; where there is none, nothing. -/
def cu (x : List UInt8 × List UInt8 × Bool) : List UInt8 × List UInt8 := if x.2.2 = true then (x.1, x.2.1) else ([], [])

set_option maxRecDepth 100000 in
theorem cutU_any (R : Nat) (l : List UInt8) (e : Int) (x : List UInt8 × List UInt8 × Bool) (fv : Value) (w : World) (h : w.rowIs R 89 2 (rf l e)) (hcut : Calls Tryz.prog 156 #[sv l, fv] w fun e w' => e = .returned (.tuple #[sv x.1, sv x.2.1, .bool x.2.2]) ∧ Below w.heap.size w w') :
    Calls Tryz.prog 93 #[.pointer (some ⟨R, 0, none⟩), .func (.func 156) #[] #[fv]] w fun ex w' => ex = .returned (sv (cu x).1) ∧ w'.rowIs R 89 2 (rf (cu x).2 (nd x.2.2 e 2)) ∧ Fr (fun i => i = R) w w' := by
  have c0 : w.cell? ⟨R, 0, none⟩ = some (sv l) := h.cell (i := 0) (by omega)
  have H : Hid (w.rowIs R 89 2 (rf l e)) := h
  obtain ⟨x1, x2, x3⟩ := x
  clear h
  cases x3 with
  | true =>
    go_enter Tryz.func93, Tryz.ntmps93
    go_wp2_with fail
    refine hcut.mono ?_
    rintro ex w1 ⟨rfl, b1⟩
    have r1 : w1.rowIs R 89 2 (rf l e) := rowIs_fr (P := fun _ => False) H.out (Fr.ofBelow b1) (fun h => h)
    have hnd := need_any R l e 2 true w1 r1
    have HF : Hid (Fr (fun i => i = R) w w1) := Fr.ofBelow b1
    clear hcut c0 r1 b1 H
    go_wp2_with fail
    refine hnd.mono ?_
    rintro ex w2 ⟨rfl, r2, f2⟩
    have fz := World.rowIs.frozen r2 0
    have c2 : w2.cell? ⟨R, 0, none⟩ = some (sv l) := r2.cell (i := 0) (by omega)
    have H2 : Hid (w2.rowIs R 89 2 (rf l (nd true e 2))) := r2
    have HF2 : Hid (Fr (fun i => i = R) w w2) := HF.out.trans f2 (fun _ _ h => h)
    clear hnd r2 f2
    go_wp2
    go_ret
    refine ⟨rfl, set_row H2.out 0 (sv x2) (fun j hj => ?_), HF2.out.trans (set_fr w2 R 0 _) (fun _ _ h => h)⟩
    rcases (show j = 0 ∨ j = 1 by omega) with rfl | rfl <;> simp [rf, cu]
  | false =>
    go_enter Tryz.func93, Tryz.ntmps93
    go_wp2_with fail
    refine hcut.mono ?_
    rintro ex w1 ⟨rfl, b1⟩
    have r1 : w1.rowIs R 89 2 (rf l e) := rowIs_fr (P := fun _ => False) H.out (Fr.ofBelow b1) (fun h => h)
    have hnd := need_any R l e 2 false w1 r1
    have HF : Hid (Fr (fun i => i = R) w w1) := Fr.ofBelow b1
    clear hcut c0 r1 b1 H
    go_wp2_with fail
    refine hnd.mono ?_
    rintro ex w2 ⟨rfl, r2, f2⟩
    have fz := World.rowIs.frozen r2 0
    have c2 : w2.cell? ⟨R, 0, none⟩ = some (sv l) := r2.cell (i := 0) (by omega)
    have H2 : Hid (w2.rowIs R 89 2 (rf l (nd false e 2))) := r2
    have HF2 : Hid (Fr (fun i => i = R) w w2) := HF.out.trans f2 (fun _ _ h => h)
    clear hnd r2 f2
    go_wp2
    go_ret
    refine ⟨rfl, set_row H2.out 0 (sv []) (fun j hj => ?_), HF2.out.trans (set_fr w2 R 0 _) (fun _ _ h => h)⟩
    rcases (show j = 0 ∨ j = 1 by omega) with rfl | rfl <;> simp [rf, cu]

set_option maxRecDepth 100000 in
theorem cutS_any (R : Nat) (l : List UInt8) (e : Int) (x : List UInt8 × List UInt8 × Bool) (fv : Value) (w : World) (h : w.rowIs R 89 2 (rf l e)) (hcut : Calls Tryz.prog 158 #[sv l, fv] w fun e w' => e = .returned (.tuple #[sv x.1, sv x.2.1, .bool x.2.2]) ∧ Below w.heap.size w w') :
    Calls Tryz.prog 93 #[.pointer (some ⟨R, 0, none⟩), .func (.func 158) #[] #[fv]] w fun ex w' => ex = .returned (sv (cu x).1) ∧ w'.rowIs R 89 2 (rf (cu x).2 (nd x.2.2 e 2)) ∧ Fr (fun i => i = R) w w' := by
  have c0 : w.cell? ⟨R, 0, none⟩ = some (sv l) := h.cell (i := 0) (by omega)
  have H : Hid (w.rowIs R 89 2 (rf l e)) := h
  obtain ⟨x1, x2, x3⟩ := x
  clear h
  cases x3 with
  | true =>
    go_enter Tryz.func93, Tryz.ntmps93
    go_wp2_with fail
    refine hcut.mono ?_
    rintro ex w1 ⟨rfl, b1⟩
    have r1 : w1.rowIs R 89 2 (rf l e) := rowIs_fr (P := fun _ => False) H.out (Fr.ofBelow b1) (fun h => h)
    have hnd := need_any R l e 2 true w1 r1
    have HF : Hid (Fr (fun i => i = R) w w1) := Fr.ofBelow b1
    clear hcut c0 r1 b1 H
    go_wp2_with fail
    refine hnd.mono ?_
    rintro ex w2 ⟨rfl, r2, f2⟩
    have fz := World.rowIs.frozen r2 0
    have c2 : w2.cell? ⟨R, 0, none⟩ = some (sv l) := r2.cell (i := 0) (by omega)
    have H2 : Hid (w2.rowIs R 89 2 (rf l (nd true e 2))) := r2
    have HF2 : Hid (Fr (fun i => i = R) w w2) := HF.out.trans f2 (fun _ _ h => h)
    clear hnd r2 f2
    go_wp2
    go_ret
    refine ⟨rfl, set_row H2.out 0 (sv x2) (fun j hj => ?_), HF2.out.trans (set_fr w2 R 0 _) (fun _ _ h => h)⟩
    rcases (show j = 0 ∨ j = 1 by omega) with rfl | rfl <;> simp [rf, cu]
  | false =>
    go_enter Tryz.func93, Tryz.ntmps93
    go_wp2_with fail
    refine hcut.mono ?_
    rintro ex w1 ⟨rfl, b1⟩
    have r1 : w1.rowIs R 89 2 (rf l e) := rowIs_fr (P := fun _ => False) H.out (Fr.ofBelow b1) (fun h => h)
    have hnd := need_any R l e 2 false w1 r1
    have HF : Hid (Fr (fun i => i = R) w w1) := Fr.ofBelow b1
    clear hcut c0 r1 b1 H
    go_wp2_with fail
    refine hnd.mono ?_
    rintro ex w2 ⟨rfl, r2, f2⟩
    have fz := World.rowIs.frozen r2 0
    have c2 : w2.cell? ⟨R, 0, none⟩ = some (sv l) := r2.cell (i := 0) (by omega)
    have H2 : Hid (w2.rowIs R 89 2 (rf l (nd false e 2))) := r2
    have HF2 : Hid (Fr (fun i => i = R) w w2) := HF.out.trans f2 (fun _ _ h => h)
    clear hnd r2 f2
    go_wp2
    go_ret
    refine ⟨rfl, set_row H2.out 0 (sv []) (fun j hj => ?_), HF2.out.trans (set_fr w2 R 0 _) (fun _ _ h => h)⟩
    rcases (show j = 0 ∨ j = 1 by omega) with rfl | rfl <;> simp [rf, cu]

set_option maxRecDepth 100000 in
theorem cutL_any (R : Nat) (l : List UInt8) (e : Int) (x : List UInt8 × List UInt8 × Bool) (fv : Value) (fv2 : Value) (w : World) (h : w.rowIs R 89 2 (rf l e)) (hcut : Calls Tryz.prog 130 #[sv l, fv, fv2] w fun e w' => e = .returned (.tuple #[sv x.1, sv x.2.1, .bool x.2.2]) ∧ Below w.heap.size w w') :
    Calls Tryz.prog 93 #[.pointer (some ⟨R, 0, none⟩), .func (.func 130) #[] #[fv, fv2]] w fun ex w' => ex = .returned (sv (cu x).1) ∧ w'.rowIs R 89 2 (rf (cu x).2 (nd x.2.2 e 2)) ∧ Fr (fun i => i = R) w w' := by
  have c0 : w.cell? ⟨R, 0, none⟩ = some (sv l) := h.cell (i := 0) (by omega)
  have H : Hid (w.rowIs R 89 2 (rf l e)) := h
  obtain ⟨x1, x2, x3⟩ := x
  clear h
  cases x3 with
  | true =>
    go_enter Tryz.func93, Tryz.ntmps93
    go_wp2_with fail
    refine hcut.mono ?_
    rintro ex w1 ⟨rfl, b1⟩
    have r1 : w1.rowIs R 89 2 (rf l e) := rowIs_fr (P := fun _ => False) H.out (Fr.ofBelow b1) (fun h => h)
    have hnd := need_any R l e 2 true w1 r1
    have HF : Hid (Fr (fun i => i = R) w w1) := Fr.ofBelow b1
    clear hcut c0 r1 b1 H
    go_wp2_with fail
    refine hnd.mono ?_
    rintro ex w2 ⟨rfl, r2, f2⟩
    have fz := World.rowIs.frozen r2 0
    have c2 : w2.cell? ⟨R, 0, none⟩ = some (sv l) := r2.cell (i := 0) (by omega)
    have H2 : Hid (w2.rowIs R 89 2 (rf l (nd true e 2))) := r2
    have HF2 : Hid (Fr (fun i => i = R) w w2) := HF.out.trans f2 (fun _ _ h => h)
    clear hnd r2 f2
    go_wp2
    go_ret
    refine ⟨rfl, set_row H2.out 0 (sv x2) (fun j hj => ?_), HF2.out.trans (set_fr w2 R 0 _) (fun _ _ h => h)⟩
    rcases (show j = 0 ∨ j = 1 by omega) with rfl | rfl <;> simp [rf, cu]
  | false =>
    go_enter Tryz.func93, Tryz.ntmps93
    go_wp2_with fail
    refine hcut.mono ?_
    rintro ex w1 ⟨rfl, b1⟩
    have r1 : w1.rowIs R 89 2 (rf l e) := rowIs_fr (P := fun _ => False) H.out (Fr.ofBelow b1) (fun h => h)
    have hnd := need_any R l e 2 false w1 r1
    have HF : Hid (Fr (fun i => i = R) w w1) := Fr.ofBelow b1
    clear hcut c0 r1 b1 H
    go_wp2_with fail
    refine hnd.mono ?_
    rintro ex w2 ⟨rfl, r2, f2⟩
    have fz := World.rowIs.frozen r2 0
    have c2 : w2.cell? ⟨R, 0, none⟩ = some (sv l) := r2.cell (i := 0) (by omega)
    have H2 : Hid (w2.rowIs R 89 2 (rf l (nd false e 2))) := r2
    have HF2 : Hid (Fr (fun i => i = R) w w2) := HF.out.trans f2 (fun _ _ h => h)
    clear hnd r2 f2
    go_wp2
    go_ret
    refine ⟨rfl, set_row H2.out 0 (sv []) (fun j hj => ?_), HF2.out.trans (set_fr w2 R 0 _) (fun _ _ h => h)⟩
    rcases (show j = 0 ∨ j = 1 by omega) with rfl | rfl <;> simp [rf, cu]

/-- Behind n bytes. -/
def szd (n : Nat) (l : List UInt8) : List UInt8 × List UInt8 × Bool := if l.length < n then ([], [], false) else (l.take n, l.drop n, true)

/-- A whole line that begins with a word. -/
def lnF (word l : List UInt8) : List UInt8 × List UInt8 × Bool := if Lib.hasPrefix l (word ++ [32]) = true then Lib.cut (Lib.trimPrefix l (word ++ [32])) [10] else ([], [], false)

theorem hasp_any (l k : List UInt8) (w : World) : Calls Tryz.prog 92 #[sv l, sv k] w fun e w' => e = .returned (.bool (Lib.hasPrefix l k)) ∧ w' = w :=
  Any.strings_HasPrefix Tryz.hasp ⟨l.toArray⟩ ⟨k.toArray⟩ w

theorem cutp_any (l k : List UInt8) (w : World) : Calls Tryz.prog 131 #[sv l, sv k] w fun e w' => e = .returned (.tuple #[sv (Lib.trimPrefix l k), .bool (Lib.hasPrefix l k)]) ∧ w' = w :=
  Any.strings_CutPrefix Tryz.cutp ⟨l.toArray⟩ ⟨k.toArray⟩ w

end Go.Proofs.YtojgablpjdlegabGreatDoor

/-
  DERIVED: THE SHELF's CONTRACTS AT THIS DUMP, IN PLAIN WORDS (tools/lay-plain.mjs out of 'YtojgablpjdlegabGreatDoorShelf.lean', which tools/lay-shelf.mjs wrote): THE SAME DECLARATIONS UNDER THE SAME NAMES: 'import', 'namespace', 'open', 'def', 'theorem' AND NOTHING ELSE: no command of the shelf's: FOR A HAND-IN. Each laying: the table of numbers ('.._ren') and one theorem, a field a fact of the dump's own or the kernel's comparison; each contract: ONE APPLICATION.
-/
namespace Go.Proofs
open Go.Shelf
def Tryz.trim_ren : Go.Shelf.Ren := ⟨fun | 160 => 53 | 232 => 77 | 231 => 76 | 227 => 78 | 234 => 80 | 233 => 79 | 236 => 82 | 235 => 81 | 228 => 110 | 271 => 113 | 151 => 112 | 197 => 111 | 120 => 146 | 152 => 119 | 260 => 145 | 137 => 150 | 119 => 151 | 224 => 73 | 225 => 108 | 217 => 107 | 266 => 143 | n => n, fun | 9 => 9 | 4 => 4 | 3 => 3 | 5 => 5 | 117 => 132 | 116 => 131 | 0 => 0 | 124 => 135 | 21 => 21 | 105 => 165 | 46 => 98 | 119 => 208 | 139 => 211 | 138 => 210 | n => n, fun | 3 => 6 | 4 => 7 | n => n⟩
theorem Tryz.trim : Go.Proofs.Lays.n160 Tryz.prog Tryz.trim_ren := {
  mixed := by kernel_rfl
  f119 := Tryz.func151.trans (congrArg some (by kernel_rfl))
  f120 := Tryz.func146.trans (congrArg some (by kernel_rfl))
  f137 := Tryz.func150.trans (congrArg some (by kernel_rfl))
  f151 := Tryz.func112.trans (congrArg some (by kernel_rfl))
  f152 := Tryz.func119.trans (congrArg some (by kernel_rfl))
  f160 := Tryz.func53.trans (congrArg some (by kernel_rfl))
  f197 := Tryz.func111.trans (congrArg some (by kernel_rfl))
  f217 := Tryz.func107.trans (congrArg some (by kernel_rfl))
  f224 := Tryz.func73.trans (congrArg some (by kernel_rfl))
  f225 := Tryz.func108.trans (congrArg some (by kernel_rfl))
  f227 := Tryz.func78.trans (congrArg some (by kernel_rfl))
  f228 := Tryz.func110.trans (congrArg some (by kernel_rfl))
  f231 := Tryz.func76.trans (congrArg some (by kernel_rfl))
  f232 := Tryz.func77.trans (congrArg some (by kernel_rfl))
  f233 := Tryz.func79.trans (congrArg some (by kernel_rfl))
  f234 := Tryz.func80.trans (congrArg some (by kernel_rfl))
  f235 := Tryz.func81.trans (congrArg some (by kernel_rfl))
  f236 := Tryz.func82.trans (congrArg some (by kernel_rfl))
  f260 := Tryz.func145.trans (congrArg some (by kernel_rfl))
  f266 := Tryz.func143.trans (congrArg some (by kernel_rfl))
  f271 := Tryz.func113.trans (congrArg some (by kernel_rfl))
  t0 := Tryz.underlying0
  a0 := Tryz.isAgg0
  z0 := Tryz.sizeOf0
  v0 := Tryz.zeroValue0
  t3 := Tryz.underlying3
  a3 := Tryz.isAgg3
  z3 := Tryz.sizeOf3
  v3 := Tryz.zeroValue3
  t4 := Tryz.underlying4
  a4 := Tryz.isAgg4
  z4 := Tryz.sizeOf4
  v4 := Tryz.zeroValue4
  t5 := Tryz.underlying5
  a5 := Tryz.isAgg5
  z5 := Tryz.sizeOf5
  v5 := Tryz.zeroValue5
  t9 := Tryz.underlying9
  a9 := Tryz.isAgg9
  z9 := Tryz.sizeOf9
  v9 := Tryz.zeroValue9
  t21 := Tryz.underlying21
  a21 := Tryz.isAgg21
  z21 := Tryz.sizeOf21
  v21 := Tryz.zeroValue21
  t46 := Tryz.underlying98
  a46 := Tryz.isAgg98
  z46 := Tryz.sizeOf98
  v46 := Tryz.zeroValue98
  t105 := Tryz.underlying165
  a105 := Tryz.isAgg165
  z105 := Tryz.sizeOf165
  v105 := Tryz.zeroValue165
  t116 := Tryz.underlying131
  a116 := Tryz.isAgg131
  z116 := Tryz.sizeOf131
  t117 := Tryz.underlying132
  a117 := Tryz.isAgg132
  z117 := Tryz.sizeOf132
  v117 := Tryz.zeroValue132
  t119 := Tryz.underlying208
  a119 := Tryz.isAgg208
  z119 := Tryz.sizeOf208
  t124 := Tryz.underlying135
  a124 := Tryz.isAgg135
  z124 := Tryz.sizeOf135
  v124 := Tryz.zeroValue135
  t138 := Tryz.underlying210
  a138 := Tryz.isAgg210
  z138 := Tryz.sizeOf210
  v138 := Tryz.zeroValue210
  t139 := Tryz.underlying211
  a139 := Tryz.isAgg211
  z139 := Tryz.sizeOf211
  v139 := Tryz.zeroValue211
  g3 := by kernel_rfl
  g4 := by kernel_rfl }
def Tryz.atoi_ren : Go.Shelf.Ren := ⟨fun | 172 => 54 | 244 => 83 | 245 => 84 | 247 => 114 | 279 => 115 | 280 => 116 | 281 => 117 | 282 => 118 | 287 => 147 | 316 => 148 | 171 => 31 | 205 => 149 | 321 => 165 | 322 => 166 | 243 => 52 | 246 => 59 | 283 => 87 | 284 => 88 | 285 => 89 | 286 => 90 | 129 => 123 | 317 => 122 | 318 => 124 | 319 => 125 | 320 => 126 | 337 => 152 | 338 => 153 | n => n, fun | 9 => 9 | 3 => 3 | 75 => 110 | 76 => 111 | 4 => 4 | 5 => 5 | 167 => 168 | 37 => 30 | 0 => 0 | 85 => 169 | 2 => 2 | 168 => 171 | 53 => 139 | 175 => 194 | 46 => 98 | 210 => 198 | 127 => 213 | 145 => 216 | 143 => 214 | 21 => 21 | 171 => 138 | 173 => 142 | 212 => 176 | 51 => 118 | 20 => 20 | 213 => 177 | 232 => 217 | 233 => 120 | 80 => 115 | n => n, fun | 15 => 4 | 16 => 5 | 17 => 3 | 18 => 8 | 19 => 9 | n => n⟩
theorem Tryz.atoi : Go.Proofs.Lays.n172 Tryz.prog Tryz.atoi_ren := {
  mixed := by kernel_rfl
  f129 := Tryz.func123.trans (congrArg some (by kernel_rfl))
  f171 := Tryz.func31.trans (congrArg some (by kernel_rfl))
  f172 := Tryz.func54.trans (congrArg some (by kernel_rfl))
  f205 := Tryz.func149.trans (congrArg some (by kernel_rfl))
  f243 := Tryz.func52.trans (congrArg some (by kernel_rfl))
  f244 := Tryz.func83.trans (congrArg some (by kernel_rfl))
  f245 := Tryz.func84.trans (congrArg some (by kernel_rfl))
  f246 := Tryz.func59.trans (congrArg some (by kernel_rfl))
  f247 := Tryz.func114.trans (congrArg some (by kernel_rfl))
  f279 := Tryz.func115.trans (congrArg some (by kernel_rfl))
  f280 := Tryz.func116.trans (congrArg some (by kernel_rfl))
  f281 := Tryz.func117.trans (congrArg some (by kernel_rfl))
  f282 := Tryz.func118.trans (congrArg some (by kernel_rfl))
  f283 := Tryz.func87.trans (congrArg some (by kernel_rfl))
  f284 := Tryz.func88.trans (congrArg some (by kernel_rfl))
  f285 := Tryz.func89.trans (congrArg some (by kernel_rfl))
  f286 := Tryz.func90.trans (congrArg some (by kernel_rfl))
  f287 := Tryz.func147.trans (congrArg some (by kernel_rfl))
  f316 := Tryz.func148.trans (congrArg some (by kernel_rfl))
  f317 := Tryz.func122.trans (congrArg some (by kernel_rfl))
  f318 := Tryz.func124.trans (congrArg some (by kernel_rfl))
  f319 := Tryz.func125.trans (congrArg some (by kernel_rfl))
  f320 := Tryz.func126.trans (congrArg some (by kernel_rfl))
  f321 := Tryz.func165.trans (congrArg some (by kernel_rfl))
  f322 := Tryz.func166.trans (congrArg some (by kernel_rfl))
  f337 := Tryz.func152.trans (congrArg some (by kernel_rfl))
  f338 := Tryz.func153.trans (congrArg some (by kernel_rfl))
  t0 := Tryz.underlying0
  a0 := Tryz.isAgg0
  z0 := Tryz.sizeOf0
  v0 := Tryz.zeroValue0
  t2 := Tryz.underlying2
  a2 := Tryz.isAgg2
  z2 := Tryz.sizeOf2
  v2 := Tryz.zeroValue2
  t3 := Tryz.underlying3
  a3 := Tryz.isAgg3
  z3 := Tryz.sizeOf3
  v3 := Tryz.zeroValue3
  t4 := Tryz.underlying4
  a4 := Tryz.isAgg4
  z4 := Tryz.sizeOf4
  v4 := Tryz.zeroValue4
  t5 := Tryz.underlying5
  a5 := Tryz.isAgg5
  z5 := Tryz.sizeOf5
  v5 := Tryz.zeroValue5
  t9 := Tryz.underlying9
  a9 := Tryz.isAgg9
  z9 := Tryz.sizeOf9
  v9 := Tryz.zeroValue9
  t20 := Tryz.underlying20
  a20 := Tryz.isAgg20
  z20 := Tryz.sizeOf20
  v20 := Tryz.zeroValue20
  t21 := Tryz.underlying21
  a21 := Tryz.isAgg21
  z21 := Tryz.sizeOf21
  v21 := Tryz.zeroValue21
  t37 := Tryz.underlying30
  a37 := Tryz.isAgg30
  z37 := Tryz.sizeOf30
  v37 := Tryz.zeroValue30
  t46 := Tryz.underlying98
  a46 := Tryz.isAgg98
  z46 := Tryz.sizeOf98
  v46 := Tryz.zeroValue98
  t51 := Tryz.underlying118
  a51 := Tryz.isAgg118
  z51 := Tryz.sizeOf118
  v51 := Tryz.zeroValue118
  t53 := Tryz.underlying139
  a53 := Tryz.isAgg139
  z53 := Tryz.sizeOf139
  v53 := Tryz.zeroValue139
  t75 := Tryz.underlying110
  a75 := Tryz.isAgg110
  z75 := Tryz.sizeOf110
  v75 := Tryz.zeroValue110
  t76 := Tryz.underlying111
  a76 := Tryz.isAgg111
  z76 := Tryz.sizeOf111
  v76 := Tryz.zeroValue111
  t85 := Tryz.underlying169
  a85 := Tryz.isAgg169
  z85 := Tryz.sizeOf169
  v85 := Tryz.zeroValue169
  t127 := Tryz.underlying213
  a127 := Tryz.isAgg213
  z127 := Tryz.sizeOf213
  v127 := Tryz.zeroValue213
  t143 := Tryz.underlying214
  a143 := Tryz.isAgg214
  z143 := Tryz.sizeOf214
  v143 := Tryz.zeroValue214
  t145 := Tryz.underlying216
  a145 := Tryz.isAgg216
  z145 := Tryz.sizeOf216
  v145 := Tryz.zeroValue216
  t167 := Tryz.underlying168
  a167 := Tryz.isAgg168
  z167 := Tryz.sizeOf168
  v167 := Tryz.zeroValue168
  t168 := Tryz.underlying171
  a168 := Tryz.isAgg171
  z168 := Tryz.sizeOf171
  v168 := Tryz.zeroValue171
  t171 := Tryz.underlying138
  a171 := Tryz.isAgg138
  z171 := Tryz.sizeOf138
  v171 := Tryz.zeroValue138
  t173 := Tryz.underlying142
  a173 := Tryz.isAgg142
  z173 := Tryz.sizeOf142
  v173 := Tryz.zeroValue142
  t175 := Tryz.underlying194
  a175 := Tryz.isAgg194
  z175 := Tryz.sizeOf194
  v175 := Tryz.zeroValue194
  t210 := Tryz.underlying198
  a210 := Tryz.isAgg198
  z210 := Tryz.sizeOf198
  v210 := Tryz.zeroValue198
  t212 := Tryz.underlying176
  a212 := Tryz.isAgg176
  z212 := Tryz.sizeOf176
  v212 := Tryz.zeroValue176
  t213 := Tryz.underlying177
  a213 := Tryz.isAgg177
  z213 := Tryz.sizeOf177
  t232 := Tryz.underlying217
  a232 := Tryz.isAgg217
  z232 := Tryz.sizeOf217
  v232 := Tryz.zeroValue217
  t233 := Tryz.underlying120
  a233 := Tryz.isAgg120
  z233 := Tryz.sizeOf120
  v233 := Tryz.zeroValue120
  g15 := by kernel_rfl
  g16 := by kernel_rfl
  g17 := by kernel_rfl
  g18 := by kernel_rfl
  g19 := by kernel_rfl }
def Tryz.itoa_ren : Go.Shelf.Ren := ⟨fun | 171 => 31 | 243 => 52 | 246 => 59 | 283 => 87 | 284 => 88 | 285 => 89 | 286 => 90 | 129 => 123 | 317 => 122 | 318 => 124 | 319 => 125 | 320 => 126 | 337 => 152 | 338 => 153 | n => n, fun | 3 => 3 | 9 => 9 | 2 => 2 | 4 => 4 | 171 => 138 | 0 => 0 | 53 => 139 | 37 => 30 | 5 => 5 | 173 => 142 | 212 => 176 | 51 => 118 | 20 => 20 | 213 => 177 | 46 => 98 | 232 => 217 | 233 => 120 | n => n, fun | 17 => 3 | 18 => 8 | 19 => 9 | n => n⟩
theorem Tryz.itoa : Go.Proofs.LaysM.n171 Tryz.prog Tryz.itoa_ren := {
  mixed := by kernel_rfl
  f129 := Tryz.func123.trans (congrArg some (by kernel_rfl))
  f171 := Tryz.func31.trans (congrArg some (by kernel_rfl))
  f243 := Tryz.func52.trans (congrArg some (by kernel_rfl))
  f246 := Tryz.func59.trans (congrArg some (by kernel_rfl))
  f283 := Tryz.func87.trans (congrArg some (by kernel_rfl))
  f284 := Tryz.func88.trans (congrArg some (by kernel_rfl))
  f285 := Tryz.func89.trans (congrArg some (by kernel_rfl))
  f286 := Tryz.func90.trans (congrArg some (by kernel_rfl))
  f317 := Tryz.func122.trans (congrArg some (by kernel_rfl))
  f318 := Tryz.func124.trans (congrArg some (by kernel_rfl))
  f319 := Tryz.func125.trans (congrArg some (by kernel_rfl))
  f320 := Tryz.func126.trans (congrArg some (by kernel_rfl))
  f337 := Tryz.func152.trans (congrArg some (by kernel_rfl))
  f338 := Tryz.func153.trans (congrArg some (by kernel_rfl))
  t0 := Tryz.underlying0
  a0 := Tryz.isAgg0
  z0 := Tryz.sizeOf0
  v0 := Tryz.zeroValue0
  t2 := Tryz.underlying2
  a2 := Tryz.isAgg2
  z2 := Tryz.sizeOf2
  v2 := Tryz.zeroValue2
  t3 := Tryz.underlying3
  a3 := Tryz.isAgg3
  z3 := Tryz.sizeOf3
  v3 := Tryz.zeroValue3
  t4 := Tryz.underlying4
  a4 := Tryz.isAgg4
  z4 := Tryz.sizeOf4
  v4 := Tryz.zeroValue4
  t5 := Tryz.underlying5
  a5 := Tryz.isAgg5
  z5 := Tryz.sizeOf5
  v5 := Tryz.zeroValue5
  t9 := Tryz.underlying9
  a9 := Tryz.isAgg9
  z9 := Tryz.sizeOf9
  v9 := Tryz.zeroValue9
  t20 := Tryz.underlying20
  a20 := Tryz.isAgg20
  z20 := Tryz.sizeOf20
  v20 := Tryz.zeroValue20
  t37 := Tryz.underlying30
  a37 := Tryz.isAgg30
  z37 := Tryz.sizeOf30
  v37 := Tryz.zeroValue30
  t46 := Tryz.underlying98
  a46 := Tryz.isAgg98
  z46 := Tryz.sizeOf98
  v46 := Tryz.zeroValue98
  t51 := Tryz.underlying118
  a51 := Tryz.isAgg118
  z51 := Tryz.sizeOf118
  v51 := Tryz.zeroValue118
  t53 := Tryz.underlying139
  a53 := Tryz.isAgg139
  z53 := Tryz.sizeOf139
  v53 := Tryz.zeroValue139
  t171 := Tryz.underlying138
  a171 := Tryz.isAgg138
  z171 := Tryz.sizeOf138
  v171 := Tryz.zeroValue138
  t173 := Tryz.underlying142
  a173 := Tryz.isAgg142
  z173 := Tryz.sizeOf142
  v173 := Tryz.zeroValue142
  t212 := Tryz.underlying176
  a212 := Tryz.isAgg176
  z212 := Tryz.sizeOf176
  v212 := Tryz.zeroValue176
  t213 := Tryz.underlying177
  a213 := Tryz.isAgg177
  z213 := Tryz.sizeOf177
  t232 := Tryz.underlying217
  a232 := Tryz.isAgg217
  z232 := Tryz.sizeOf217
  v232 := Tryz.zeroValue217
  t233 := Tryz.underlying120
  a233 := Tryz.isAgg120
  z233 := Tryz.sizeOf120
  v233 := Tryz.zeroValue120
  g17 := by kernel_rfl
  g18 := by kernel_rfl
  g19 := by kernel_rfl
  i0 := by kernel_rfl
  i2 := by kernel_rfl
  i3 := by kernel_rfl
  i4 := by kernel_rfl
  i5 := by kernel_rfl
  i9 := by kernel_rfl
  i20 := by kernel_rfl
  i37 := by kernel_rfl
  i46 := by kernel_rfl
  i51 := by kernel_rfl
  i53 := by kernel_rfl
  i171 := by kernel_rfl
  i173 := by kernel_rfl
  i212 := by kernel_rfl
  i232 := by kernel_rfl
  i233 := by kernel_rfl
  m17 := by kernel_rfl
  m18 := by kernel_rfl
  m19 := by kernel_rfl }
def Tryz.itos_ren : Go.Shelf.Ren := ⟨fun | 171 => 31 | 243 => 52 | 246 => 59 | 283 => 87 | 284 => 88 | 285 => 89 | 286 => 90 | 129 => 123 | 317 => 122 | 318 => 124 | 319 => 125 | 320 => 126 | 337 => 152 | 338 => 153 | n => n, fun | 3 => 3 | 9 => 9 | 2 => 2 | 4 => 4 | 171 => 138 | 0 => 0 | 53 => 139 | 37 => 30 | 5 => 5 | 173 => 142 | 212 => 176 | 51 => 118 | 20 => 20 | 213 => 177 | 46 => 98 | 232 => 217 | 233 => 120 | n => n, fun | 17 => 3 | 18 => 8 | 19 => 9 | n => n⟩
theorem Tryz.itos : Go.Proofs.Lays.n171 Tryz.prog Tryz.itos_ren := {
  mixed := by kernel_rfl
  f129 := Tryz.func123.trans (congrArg some (by kernel_rfl))
  f171 := Tryz.func31.trans (congrArg some (by kernel_rfl))
  f243 := Tryz.func52.trans (congrArg some (by kernel_rfl))
  f246 := Tryz.func59.trans (congrArg some (by kernel_rfl))
  f283 := Tryz.func87.trans (congrArg some (by kernel_rfl))
  f284 := Tryz.func88.trans (congrArg some (by kernel_rfl))
  f285 := Tryz.func89.trans (congrArg some (by kernel_rfl))
  f286 := Tryz.func90.trans (congrArg some (by kernel_rfl))
  f317 := Tryz.func122.trans (congrArg some (by kernel_rfl))
  f318 := Tryz.func124.trans (congrArg some (by kernel_rfl))
  f319 := Tryz.func125.trans (congrArg some (by kernel_rfl))
  f320 := Tryz.func126.trans (congrArg some (by kernel_rfl))
  f337 := Tryz.func152.trans (congrArg some (by kernel_rfl))
  f338 := Tryz.func153.trans (congrArg some (by kernel_rfl))
  t0 := Tryz.underlying0
  a0 := Tryz.isAgg0
  z0 := Tryz.sizeOf0
  v0 := Tryz.zeroValue0
  t2 := Tryz.underlying2
  a2 := Tryz.isAgg2
  z2 := Tryz.sizeOf2
  v2 := Tryz.zeroValue2
  t3 := Tryz.underlying3
  a3 := Tryz.isAgg3
  z3 := Tryz.sizeOf3
  v3 := Tryz.zeroValue3
  t4 := Tryz.underlying4
  a4 := Tryz.isAgg4
  z4 := Tryz.sizeOf4
  v4 := Tryz.zeroValue4
  t5 := Tryz.underlying5
  a5 := Tryz.isAgg5
  z5 := Tryz.sizeOf5
  v5 := Tryz.zeroValue5
  t9 := Tryz.underlying9
  a9 := Tryz.isAgg9
  z9 := Tryz.sizeOf9
  v9 := Tryz.zeroValue9
  t20 := Tryz.underlying20
  a20 := Tryz.isAgg20
  z20 := Tryz.sizeOf20
  v20 := Tryz.zeroValue20
  t37 := Tryz.underlying30
  a37 := Tryz.isAgg30
  z37 := Tryz.sizeOf30
  v37 := Tryz.zeroValue30
  t46 := Tryz.underlying98
  a46 := Tryz.isAgg98
  z46 := Tryz.sizeOf98
  v46 := Tryz.zeroValue98
  t51 := Tryz.underlying118
  a51 := Tryz.isAgg118
  z51 := Tryz.sizeOf118
  v51 := Tryz.zeroValue118
  t53 := Tryz.underlying139
  a53 := Tryz.isAgg139
  z53 := Tryz.sizeOf139
  v53 := Tryz.zeroValue139
  t171 := Tryz.underlying138
  a171 := Tryz.isAgg138
  z171 := Tryz.sizeOf138
  v171 := Tryz.zeroValue138
  t173 := Tryz.underlying142
  a173 := Tryz.isAgg142
  z173 := Tryz.sizeOf142
  v173 := Tryz.zeroValue142
  t212 := Tryz.underlying176
  a212 := Tryz.isAgg176
  z212 := Tryz.sizeOf176
  v212 := Tryz.zeroValue176
  t213 := Tryz.underlying177
  a213 := Tryz.isAgg177
  z213 := Tryz.sizeOf177
  t232 := Tryz.underlying217
  a232 := Tryz.isAgg217
  z232 := Tryz.sizeOf217
  v232 := Tryz.zeroValue217
  t233 := Tryz.underlying120
  a233 := Tryz.isAgg120
  z233 := Tryz.sizeOf120
  v233 := Tryz.zeroValue120
  g17 := by kernel_rfl
  g18 := by kernel_rfl
  g19 := by kernel_rfl }
def Tryz.ffun_ren : Go.Shelf.Ren := ⟨fun | 229 => 33 | n => n, fun | 9 => 9 | 40 => 78 | 31 => 76 | 152 => 105 | 3 => 3 | 0 => 0 | 4 => 4 | 21 => 21 | 154 => 107 | n => n, fun | n => n⟩
theorem Tryz.ffun : Go.Proofs.Lays.n229 Tryz.prog Tryz.ffun_ren := {
  mixed := by kernel_rfl
  f229 := Tryz.func33.trans (congrArg some (by kernel_rfl))
  t0 := Tryz.underlying0
  a0 := Tryz.isAgg0
  z0 := Tryz.sizeOf0
  v0 := Tryz.zeroValue0
  t3 := Tryz.underlying3
  a3 := Tryz.isAgg3
  z3 := Tryz.sizeOf3
  v3 := Tryz.zeroValue3
  t4 := Tryz.underlying4
  a4 := Tryz.isAgg4
  z4 := Tryz.sizeOf4
  v4 := Tryz.zeroValue4
  t9 := Tryz.underlying9
  a9 := Tryz.isAgg9
  z9 := Tryz.sizeOf9
  v9 := Tryz.zeroValue9
  t21 := Tryz.underlying21
  a21 := Tryz.isAgg21
  z21 := Tryz.sizeOf21
  v21 := Tryz.zeroValue21
  t31 := Tryz.underlying76
  a31 := Tryz.isAgg76
  z31 := Tryz.sizeOf76
  v31 := Tryz.zeroValue76
  t40 := Tryz.underlying78
  a40 := Tryz.isAgg78
  z40 := Tryz.sizeOf78
  v40 := Tryz.zeroValue78
  t152 := Tryz.underlying105
  a152 := Tryz.isAgg105
  z152 := Tryz.sizeOf105
  v152 := Tryz.zeroValue105
  t154 := Tryz.underlying107
  a154 := Tryz.isAgg107
  z154 := Tryz.sizeOf107
  v154 := Tryz.zeroValue107 }
def Tryz.bcut_ren : Go.Shelf.Ren := ⟨fun | 4 => 28 | 5 => 50 | 6 => 70 | 7 => 71 | 8 => 72 | 9 => 73 | 10 => 74 | 11 => 105 | 12 => 106 | n => n, fun | 22 => 30 | 4 => 4 | 3 => 3 | 0 => 0 | 5 => 5 | 29 => 98 | 9 => 9 | 31 => 158 | 30 => 118 | n => n, fun | 0 => 1 | n => n⟩
theorem Tryz.bcut : Go.Proofs.SlLaysT.n4 Tryz.prog Tryz.bcut_ren := {
  mixed := by kernel_rfl
  f4 := Tryz.func28.trans (congrArg some (by kernel_rfl))
  f5 := Tryz.func50.trans (congrArg some (by kernel_rfl))
  f6 := Tryz.func70.trans (congrArg some (by kernel_rfl))
  f7 := Tryz.func71.trans (congrArg some (by kernel_rfl))
  f8 := Tryz.func72.trans (congrArg some (by kernel_rfl))
  f9 := Tryz.func73.trans (congrArg some (by kernel_rfl))
  f10 := Tryz.func74.trans (congrArg some (by kernel_rfl))
  f11 := Tryz.func105.trans (congrArg some (by kernel_rfl))
  f12 := Tryz.func106.trans (congrArg some (by kernel_rfl))
  t0 := Tryz.underlying0
  a0 := Tryz.isAgg0
  z0 := Tryz.sizeOf0
  v0 := Tryz.zeroValue0
  t3 := Tryz.underlying3
  a3 := Tryz.isAgg3
  z3 := Tryz.sizeOf3
  v3 := Tryz.zeroValue3
  t4 := Tryz.underlying4
  a4 := Tryz.isAgg4
  z4 := Tryz.sizeOf4
  v4 := Tryz.zeroValue4
  t5 := Tryz.underlying5
  a5 := Tryz.isAgg5
  z5 := Tryz.sizeOf5
  v5 := Tryz.zeroValue5
  t9 := Tryz.underlying9
  a9 := Tryz.isAgg9
  z9 := Tryz.sizeOf9
  v9 := Tryz.zeroValue9
  t22 := Tryz.underlying30
  a22 := Tryz.isAgg30
  z22 := Tryz.sizeOf30
  v22 := Tryz.zeroValue30
  t29 := Tryz.underlying98
  a29 := Tryz.isAgg98
  z29 := Tryz.sizeOf98
  v29 := Tryz.zeroValue98
  t30 := Tryz.underlying118
  a30 := Tryz.isAgg118
  z30 := Tryz.sizeOf118
  v30 := Tryz.zeroValue118
  t31 := Tryz.underlying158
  a31 := Tryz.isAgg158
  z31 := Tryz.sizeOf158
  v31 := Tryz.zeroValue158
  g0 := by kernel_rfl }
end Go.Proofs
