/- ObB, Shelf. -/
import Derived.Test.YtojgablpjdlegaaGreatDoorM05
import Derived.WalkKit
import Derived.Shelf.Strings.SlTrimAscii
import Derived.Shelf.Strconv.Atoi
import Derived.Shelf.Strconv.Itoa3
import Derived.Shelf.Strings.FieldsFuncAny
import Derived.Ground.SlbtProg
import Derived.Shelf.Bytes.SlCut
import Derived.Test.YtojgablpjdlegaaGreatDoorM01
/- The object's reader: what is cut off its front. -/
namespace Go.Proofs.YtojgablpjdlegaaGreatDoor
open Go.RowKit

/-- A text. -/
abbrev sv (l : List UInt8) : Value := .string ⟨l.toArray⟩

theorem cat_sv (a b : List UInt8) : (⟨a.toArray⟩ ++ ⟨b.toArray⟩ : ByteArray) = ⟨(a ++ b).toArray⟩ := by
  apply ByteArray.ext
  simp

theorem size_sv (a : List UInt8) : (⟨a.toArray⟩ : ByteArray).size = a.length := rfl

theorem drewN_b (w : World) (n : Nat) : Below w.heap.size w (w.drewN n) := ⟨rfl, rfl, rfl, Nat.le_refl _, fun _ _ => rfl⟩

set_option maxRecDepth 100000 in
theorem until1_any (l sep : List UInt8) (p : Addr) (w : World) (hg : Gs w) (hc : w.cell? p = some (sv sep)) (hs : l.length ≤ 1000000) :
    Calls Tryz.prog 203 #[sv l, .pointer (some p)] w fun e w' => e = .returned (.tuple #[sv (Lib.cut l sep).1, sv (Lib.cut l sep).2.1, .bool (Lib.cut l sep).2.2]) ∧ Below w.heap.size w w' := by
  obtain ⟨m, hm⟩ := hg.most
  have hcut : Calls Tryz.prog 54 #[sv l, sv sep] w fun e w' => e = .returned (.tuple #[sv (Lib.cut l sep).1, sv (Lib.cut l sep).2.1, .bool (Lib.cut l sep).2.2]) ∧ ∃ n, w' = w.drewN n := Any.strings_Cut Tryz.scut ⟨l.toArray⟩ ⟨sep.toArray⟩ m w (by rw [size_sv]; omega) hm
  have HB : Hid (∀ n, Below w.heap.size w (w.drewN n)) := fun n => drewN_b w n
  generalize (Lib.cut l sep).1 = a at *
  generalize (Lib.cut l sep).2.1 = b at *
  generalize (Lib.cut l sep).2.2 = c at *
  clear hm hg
  go_enter Tryz.func203, Tryz.ntmps203
  go_wp2_with (go_at_call 54; refine hcut.mono ?_; rintro e w1 ⟨rfl, n, hw1⟩; subst hw1)
  go_ret3
  exact ⟨rfl, HB.out n⟩

set_option maxRecDepth 100000 in
theorem until_any (sep : List UInt8) (w : World) : Calls Tryz.prog 178 #[sv sep] w fun e w' => e = .returned (.func (.func 203) #[] #[.pointer (some ⟨w.heap.size, 0, none⟩)]) ∧ w' = w.alloc (.cells #[sv sep] 9) := by
  go_enter Tryz.func178, Tryz.ntmps178
  go_wp2
  go_ret
  exact ⟨rfl, rfl⟩

/-- The reader's cells. -/
def rf (l : List UInt8) (e : Int) (j : Nat) : Value := if j = 0 then sv l else .int .i64 e

/-- A fault, if something does not hold. -/
def nd (b : Bool) (e k : Int) : Int := if b = false ∧ e = 0 then k else e

set_option maxRecDepth 100000 in
theorem need_any (R : Nat) (l : List UInt8) (e k : Int) (b : Bool) (w : World) (h : w.rowIs R 150 2 (rf l e)) : Calls Tryz.prog 154 #[.pointer (some ⟨R, 0, none⟩), .bool b, .int .i64 k] w fun ex w' => ex = .returned (.tuple #[]) ∧ w'.rowIs R 150 2 (rf l (nd b e k)) ∧ Fr (fun i => i = R) w w' := by
  have c1 : w.cell? ⟨R, 1, none⟩ = some (.int .i64 e) := h.cell (i := 1) (by omega)
  have H : Hid (w.rowIs R 150 2 (rf l e)) := h
  clear h
  cases b with
  | true =>
    go_enter Tryz.func154, Tryz.ntmps154
    go_wp2
    go_end0
    exact ⟨rfl, H.out, Fr.refl _ _⟩
  | false =>
    by_cases he : e = 0
    · subst he
      have fz := World.rowIs.frozen H.out 1
      go_enter Tryz.func154, Tryz.ntmps154
      go_wp2
      go_end0
      refine ⟨rfl, set_row H.out 1 (.int .i64 k) (fun j hj => ?_), set_fr w R 1 _⟩
      rcases (show j = 0 ∨ j = 1 by omega) with rfl | rfl <;> simp [rf, nd]
    · have d : (e == 0) = false := by simp; omega
      go_enter Tryz.func154, Tryz.ntmps154
      go_wp2
      go_end0
      exact ⟨rfl, by rw [show nd false e k = e by unfold nd; rw [if_neg (by simp [he])]]; exact H.out, Fr.refl _ _⟩

/-- A piece and what is left; where there is none, nothing. -/
def cu (x : List UInt8 × List UInt8 × Bool) : List UInt8 × List UInt8 := if x.2.2 = true then (x.1, x.2.1) else ([], [])

set_option maxRecDepth 100000 in
theorem cutU_any (R : Nat) (l : List UInt8) (e : Int) (x : List UInt8 × List UInt8 × Bool) (fv : Value) (w : World) (h : w.rowIs R 150 2 (rf l e)) (hcut : Calls Tryz.prog 203 #[sv l, fv] w fun e w' => e = .returned (.tuple #[sv x.1, sv x.2.1, .bool x.2.2]) ∧ Below w.heap.size w w') :
    Calls Tryz.prog 151 #[.pointer (some ⟨R, 0, none⟩), .func (.func 203) #[] #[fv]] w fun ex w' => ex = .returned (sv (cu x).1) ∧ w'.rowIs R 150 2 (rf (cu x).2 (nd x.2.2 e 2)) ∧ Fr (fun i => i = R) w w' := by
  have c0 : w.cell? ⟨R, 0, none⟩ = some (sv l) := h.cell (i := 0) (by omega)
  have H : Hid (w.rowIs R 150 2 (rf l e)) := h
  obtain ⟨x1, x2, x3⟩ := x
  clear h
  cases x3 with
  | true =>
    go_enter Tryz.func151, Tryz.ntmps151
    go_wp2_with fail
    refine hcut.mono ?_
    rintro ex w1 ⟨rfl, b1⟩
    have r1 : w1.rowIs R 150 2 (rf l e) := rowIs_fr (P := fun _ => False) H.out (Fr.ofBelow b1) (fun h => h)
    have hnd := need_any R l e 2 true w1 r1
    have HF : Hid (Fr (fun i => i = R) w w1) := Fr.ofBelow b1
    clear hcut c0 r1 b1 H
    go_wp2_with fail
    refine hnd.mono ?_
    rintro ex w2 ⟨rfl, r2, f2⟩
    have fz := World.rowIs.frozen r2 0
    have c2 : w2.cell? ⟨R, 0, none⟩ = some (sv l) := r2.cell (i := 0) (by omega)
    have H2 : Hid (w2.rowIs R 150 2 (rf l (nd true e 2))) := r2
    have HF2 : Hid (Fr (fun i => i = R) w w2) := HF.out.trans f2 (fun _ _ h => h)
    clear hnd r2 f2
    go_wp2
    go_ret
    refine ⟨rfl, set_row H2.out 0 (sv x2) (fun j hj => ?_), HF2.out.trans (set_fr w2 R 0 _) (fun _ _ h => h)⟩
    rcases (show j = 0 ∨ j = 1 by omega) with rfl | rfl <;> simp [rf, cu]
  | false =>
    go_enter Tryz.func151, Tryz.ntmps151
    go_wp2_with fail
    refine hcut.mono ?_
    rintro ex w1 ⟨rfl, b1⟩
    have r1 : w1.rowIs R 150 2 (rf l e) := rowIs_fr (P := fun _ => False) H.out (Fr.ofBelow b1) (fun h => h)
    have hnd := need_any R l e 2 false w1 r1
    have HF : Hid (Fr (fun i => i = R) w w1) := Fr.ofBelow b1
    clear hcut c0 r1 b1 H
    go_wp2_with fail
    refine hnd.mono ?_
    rintro ex w2 ⟨rfl, r2, f2⟩
    have fz := World.rowIs.frozen r2 0
    have c2 : w2.cell? ⟨R, 0, none⟩ = some (sv l) := r2.cell (i := 0) (by omega)
    have H2 : Hid (w2.rowIs R 150 2 (rf l (nd false e 2))) := r2
    have HF2 : Hid (Fr (fun i => i = R) w w2) := HF.out.trans f2 (fun _ _ h => h)
    clear hnd r2 f2
    go_wp2
    go_ret
    refine ⟨rfl, set_row H2.out 0 (sv []) (fun j hj => ?_), HF2.out.trans (set_fr w2 R 0 _) (fun _ _ h => h)⟩
    rcases (show j = 0 ∨ j = 1 by omega) with rfl | rfl <;> simp [rf, cu]

set_option maxRecDepth 100000 in
theorem cutS_any (R : Nat) (l : List UInt8) (e : Int) (x : List UInt8 × List UInt8 × Bool) (fv : Value) (w : World) (h : w.rowIs R 150 2 (rf l e)) (hcut : Calls Tryz.prog 205 #[sv l, fv] w fun e w' => e = .returned (.tuple #[sv x.1, sv x.2.1, .bool x.2.2]) ∧ Below w.heap.size w w') :
    Calls Tryz.prog 151 #[.pointer (some ⟨R, 0, none⟩), .func (.func 205) #[] #[fv]] w fun ex w' => ex = .returned (sv (cu x).1) ∧ w'.rowIs R 150 2 (rf (cu x).2 (nd x.2.2 e 2)) ∧ Fr (fun i => i = R) w w' := by
  have c0 : w.cell? ⟨R, 0, none⟩ = some (sv l) := h.cell (i := 0) (by omega)
  have H : Hid (w.rowIs R 150 2 (rf l e)) := h
  obtain ⟨x1, x2, x3⟩ := x
  clear h
  cases x3 with
  | true =>
    go_enter Tryz.func151, Tryz.ntmps151
    go_wp2_with fail
    refine hcut.mono ?_
    rintro ex w1 ⟨rfl, b1⟩
    have r1 : w1.rowIs R 150 2 (rf l e) := rowIs_fr (P := fun _ => False) H.out (Fr.ofBelow b1) (fun h => h)
    have hnd := need_any R l e 2 true w1 r1
    have HF : Hid (Fr (fun i => i = R) w w1) := Fr.ofBelow b1
    clear hcut c0 r1 b1 H
    go_wp2_with fail
    refine hnd.mono ?_
    rintro ex w2 ⟨rfl, r2, f2⟩
    have fz := World.rowIs.frozen r2 0
    have c2 : w2.cell? ⟨R, 0, none⟩ = some (sv l) := r2.cell (i := 0) (by omega)
    have H2 : Hid (w2.rowIs R 150 2 (rf l (nd true e 2))) := r2
    have HF2 : Hid (Fr (fun i => i = R) w w2) := HF.out.trans f2 (fun _ _ h => h)
    clear hnd r2 f2
    go_wp2
    go_ret
    refine ⟨rfl, set_row H2.out 0 (sv x2) (fun j hj => ?_), HF2.out.trans (set_fr w2 R 0 _) (fun _ _ h => h)⟩
    rcases (show j = 0 ∨ j = 1 by omega) with rfl | rfl <;> simp [rf, cu]
  | false =>
    go_enter Tryz.func151, Tryz.ntmps151
    go_wp2_with fail
    refine hcut.mono ?_
    rintro ex w1 ⟨rfl, b1⟩
    have r1 : w1.rowIs R 150 2 (rf l e) := rowIs_fr (P := fun _ => False) H.out (Fr.ofBelow b1) (fun h => h)
    have hnd := need_any R l e 2 false w1 r1
    have HF : Hid (Fr (fun i => i = R) w w1) := Fr.ofBelow b1
    clear hcut c0 r1 b1 H
    go_wp2_with fail
    refine hnd.mono ?_
    rintro ex w2 ⟨rfl, r2, f2⟩
    have fz := World.rowIs.frozen r2 0
    have c2 : w2.cell? ⟨R, 0, none⟩ = some (sv l) := r2.cell (i := 0) (by omega)
    have H2 : Hid (w2.rowIs R 150 2 (rf l (nd false e 2))) := r2
    have HF2 : Hid (Fr (fun i => i = R) w w2) := HF.out.trans f2 (fun _ _ h => h)
    clear hnd r2 f2
    go_wp2
    go_ret
    refine ⟨rfl, set_row H2.out 0 (sv []) (fun j hj => ?_), HF2.out.trans (set_fr w2 R 0 _) (fun _ _ h => h)⟩
    rcases (show j = 0 ∨ j = 1 by omega) with rfl | rfl <;> simp [rf, cu]

set_option maxRecDepth 100000 in
theorem cutL_any (R : Nat) (l : List UInt8) (e : Int) (x : List UInt8 × List UInt8 × Bool) (fv : Value) (fv2 : Value) (w : World) (h : w.rowIs R 150 2 (rf l e)) (hcut : Calls Tryz.prog 179 #[sv l, fv, fv2] w fun e w' => e = .returned (.tuple #[sv x.1, sv x.2.1, .bool x.2.2]) ∧ Below w.heap.size w w') :
    Calls Tryz.prog 151 #[.pointer (some ⟨R, 0, none⟩), .func (.func 179) #[] #[fv, fv2]] w fun ex w' => ex = .returned (sv (cu x).1) ∧ w'.rowIs R 150 2 (rf (cu x).2 (nd x.2.2 e 2)) ∧ Fr (fun i => i = R) w w' := by
  have c0 : w.cell? ⟨R, 0, none⟩ = some (sv l) := h.cell (i := 0) (by omega)
  have H : Hid (w.rowIs R 150 2 (rf l e)) := h
  obtain ⟨x1, x2, x3⟩ := x
  clear h
  cases x3 with
  | true =>
    go_enter Tryz.func151, Tryz.ntmps151
    go_wp2_with fail
    refine hcut.mono ?_
    rintro ex w1 ⟨rfl, b1⟩
    have r1 : w1.rowIs R 150 2 (rf l e) := rowIs_fr (P := fun _ => False) H.out (Fr.ofBelow b1) (fun h => h)
    have hnd := need_any R l e 2 true w1 r1
    have HF : Hid (Fr (fun i => i = R) w w1) := Fr.ofBelow b1
    clear hcut c0 r1 b1 H
    go_wp2_with fail
    refine hnd.mono ?_
    rintro ex w2 ⟨rfl, r2, f2⟩
    have fz := World.rowIs.frozen r2 0
    have c2 : w2.cell? ⟨R, 0, none⟩ = some (sv l) := r2.cell (i := 0) (by omega)
    have H2 : Hid (w2.rowIs R 150 2 (rf l (nd true e 2))) := r2
    have HF2 : Hid (Fr (fun i => i = R) w w2) := HF.out.trans f2 (fun _ _ h => h)
    clear hnd r2 f2
    go_wp2
    go_ret
    refine ⟨rfl, set_row H2.out 0 (sv x2) (fun j hj => ?_), HF2.out.trans (set_fr w2 R 0 _) (fun _ _ h => h)⟩
    rcases (show j = 0 ∨ j = 1 by omega) with rfl | rfl <;> simp [rf, cu]
  | false =>
    go_enter Tryz.func151, Tryz.ntmps151
    go_wp2_with fail
    refine hcut.mono ?_
    rintro ex w1 ⟨rfl, b1⟩
    have r1 : w1.rowIs R 150 2 (rf l e) := rowIs_fr (P := fun _ => False) H.out (Fr.ofBelow b1) (fun h => h)
    have hnd := need_any R l e 2 false w1 r1
    have HF : Hid (Fr (fun i => i = R) w w1) := Fr.ofBelow b1
    clear hcut c0 r1 b1 H
    go_wp2_with fail
    refine hnd.mono ?_
    rintro ex w2 ⟨rfl, r2, f2⟩
    have fz := World.rowIs.frozen r2 0
    have c2 : w2.cell? ⟨R, 0, none⟩ = some (sv l) := r2.cell (i := 0) (by omega)
    have H2 : Hid (w2.rowIs R 150 2 (rf l (nd false e 2))) := r2
    have HF2 : Hid (Fr (fun i => i = R) w w2) := HF.out.trans f2 (fun _ _ h => h)
    clear hnd r2 f2
    go_wp2
    go_ret
    refine ⟨rfl, set_row H2.out 0 (sv []) (fun j hj => ?_), HF2.out.trans (set_fr w2 R 0 _) (fun _ _ h => h)⟩
    rcases (show j = 0 ∨ j = 1 by omega) with rfl | rfl <;> simp [rf, cu]

/-- Behind n bytes. -/
def szd (n : Nat) (l : List UInt8) : List UInt8 × List UInt8 × Bool := if l.length < n then ([], [], false) else (l.take n, l.drop n, true)

/-- A whole line that begins with a word. -/
def lnF (word l : List UInt8) : List UInt8 × List UInt8 × Bool := if Lib.hasPrefix l (word ++ [32]) = true then Lib.cut (Lib.trimPrefix l (word ++ [32])) [10] else ([], [], false)

theorem hasp_any (l k : List UInt8) (w : World) : Calls Tryz.prog 150 #[sv l, sv k] w fun e w' => e = .returned (.bool (Lib.hasPrefix l k)) ∧ w' = w :=
  Any.strings_HasPrefix Tryz.hasp ⟨l.toArray⟩ ⟨k.toArray⟩ w

theorem cutp_any (l k : List UInt8) (w : World) : Calls Tryz.prog 180 #[sv l, sv k] w fun e w' => e = .returned (.tuple #[sv (Lib.trimPrefix l k), .bool (Lib.hasPrefix l k)]) ∧ w' = w :=
  Any.strings_CutPrefix Tryz.cutp ⟨l.toArray⟩ ⟨k.toArray⟩ w

end Go.Proofs.YtojgablpjdlegaaGreatDoor

/-
  DERIVED: THE SHELF's CONTRACTS AT THIS DUMP, IN PLAIN WORDS (tools/lay-plain.mjs out of 'YtojgablpjdlegaaGreatDoorShelf.lean', which tools/lay-shelf.mjs wrote): THE SAME DECLARATIONS UNDER THE SAME NAMES: 'import', 'namespace', 'open', 'def', 'theorem' AND NOTHING ELSE: no command of the shelf's: FOR A HAND-IN. Each laying: the table of numbers ('.._ren') and one theorem, a field a fact of the dump's own or the kernel's comparison; each contract: ONE APPLICATION.
-/
namespace Go.Proofs
open Go.Shelf
def Tryz.trim_ren : Go.Shelf.Ren := ⟨fun | 160 => 102 | 232 => 128 | 231 => 127 | 227 => 129 | 234 => 131 | 233 => 130 | 236 => 133 | 235 => 132 | 228 => 159 | 271 => 162 | 151 => 161 | 197 => 160 | 120 => 194 | 152 => 191 | 260 => 193 | 137 => 211 | 119 => 212 | 224 => 114 | 225 => 147 | 217 => 146 | 266 => 174 | n => n, fun | 9 => 9 | 4 => 4 | 3 => 3 | 5 => 5 | 117 => 191 | 116 => 190 | 0 => 0 | 124 => 194 | 21 => 21 | 105 => 223 | 46 => 143 | 119 => 266 | 139 => 269 | 138 => 268 | n => n, fun | 3 => 6 | 4 => 7 | n => n⟩
theorem Tryz.trim : Go.Proofs.Lays.n160 Tryz.prog Tryz.trim_ren := {
  mixed := by kernel_rfl
  f119 := Tryz.func212.trans (congrArg some (by kernel_rfl))
  f120 := Tryz.func194.trans (congrArg some (by kernel_rfl))
  f137 := Tryz.func211.trans (congrArg some (by kernel_rfl))
  f151 := Tryz.func161.trans (congrArg some (by kernel_rfl))
  f152 := Tryz.func191.trans (congrArg some (by kernel_rfl))
  f160 := Tryz.func102.trans (congrArg some (by kernel_rfl))
  f197 := Tryz.func160.trans (congrArg some (by kernel_rfl))
  f217 := Tryz.func146.trans (congrArg some (by kernel_rfl))
  f224 := Tryz.func114.trans (congrArg some (by kernel_rfl))
  f225 := Tryz.func147.trans (congrArg some (by kernel_rfl))
  f227 := Tryz.func129.trans (congrArg some (by kernel_rfl))
  f228 := Tryz.func159.trans (congrArg some (by kernel_rfl))
  f231 := Tryz.func127.trans (congrArg some (by kernel_rfl))
  f232 := Tryz.func128.trans (congrArg some (by kernel_rfl))
  f233 := Tryz.func130.trans (congrArg some (by kernel_rfl))
  f234 := Tryz.func131.trans (congrArg some (by kernel_rfl))
  f235 := Tryz.func132.trans (congrArg some (by kernel_rfl))
  f236 := Tryz.func133.trans (congrArg some (by kernel_rfl))
  f260 := Tryz.func193.trans (congrArg some (by kernel_rfl))
  f266 := Tryz.func174.trans (congrArg some (by kernel_rfl))
  f271 := Tryz.func162.trans (congrArg some (by kernel_rfl))
  t0 := Tryz.underlying0
  a0 := Tryz.isAgg0
  z0 := Tryz.sizeOf0
  v0 := Tryz.zeroValue0
  t3 := Tryz.underlying3
  a3 := Tryz.isAgg3
  z3 := Tryz.sizeOf3
  v3 := Tryz.zeroValue3
  t4 := Tryz.underlying4
  a4 := Tryz.isAgg4
  z4 := Tryz.sizeOf4
  v4 := Tryz.zeroValue4
  t5 := Tryz.underlying5
  a5 := Tryz.isAgg5
  z5 := Tryz.sizeOf5
  v5 := Tryz.zeroValue5
  t9 := Tryz.underlying9
  a9 := Tryz.isAgg9
  z9 := Tryz.sizeOf9
  v9 := Tryz.zeroValue9
  t21 := Tryz.underlying21
  a21 := Tryz.isAgg21
  z21 := Tryz.sizeOf21
  v21 := Tryz.zeroValue21
  t46 := Tryz.underlying143
  a46 := Tryz.isAgg143
  z46 := Tryz.sizeOf143
  v46 := Tryz.zeroValue143
  t105 := Tryz.underlying223
  a105 := Tryz.isAgg223
  z105 := Tryz.sizeOf223
  v105 := Tryz.zeroValue223
  t116 := Tryz.underlying190
  a116 := Tryz.isAgg190
  z116 := Tryz.sizeOf190
  t117 := Tryz.underlying191
  a117 := Tryz.isAgg191
  z117 := Tryz.sizeOf191
  v117 := Tryz.zeroValue191
  t119 := Tryz.underlying266
  a119 := Tryz.isAgg266
  z119 := Tryz.sizeOf266
  t124 := Tryz.underlying194
  a124 := Tryz.isAgg194
  z124 := Tryz.sizeOf194
  v124 := Tryz.zeroValue194
  t138 := Tryz.underlying268
  a138 := Tryz.isAgg268
  z138 := Tryz.sizeOf268
  v138 := Tryz.zeroValue268
  t139 := Tryz.underlying269
  a139 := Tryz.isAgg269
  z139 := Tryz.sizeOf269
  v139 := Tryz.zeroValue269
  g3 := by kernel_rfl
  g4 := by kernel_rfl }
def Tryz.atoi_ren : Go.Shelf.Ren := ⟨fun | 172 => 103 | 244 => 134 | 245 => 135 | 247 => 163 | 279 => 164 | 280 => 165 | 281 => 166 | 282 => 167 | 287 => 195 | 316 => 196 | 171 => 49 | 205 => 197 | 321 => 213 | 322 => 214 | 243 => 85 | 246 => 104 | 283 => 136 | 284 => 137 | 285 => 138 | 286 => 139 | 129 => 169 | 317 => 168 | 318 => 170 | 319 => 171 | 320 => 172 | 337 => 198 | 338 => 199 | n => n, fun | 9 => 9 | 3 => 3 | 75 => 169 | 76 => 170 | 4 => 4 | 5 => 5 | 167 => 226 | 37 => 22 | 0 => 0 | 85 => 227 | 2 => 2 | 168 => 229 | 53 => 142 | 175 => 252 | 46 => 143 | 210 => 256 | 127 => 271 | 145 => 274 | 143 => 272 | 21 => 21 | 171 => 196 | 173 => 199 | 212 => 233 | 51 => 144 | 20 => 20 | 213 => 234 | 232 => 275 | 233 => 172 | 80 => 123 | n => n, fun | 15 => 4 | 16 => 5 | 17 => 3 | 18 => 8 | 19 => 9 | n => n⟩
theorem Tryz.atoi : Go.Proofs.Lays.n172 Tryz.prog Tryz.atoi_ren := {
  mixed := by kernel_rfl
  f129 := Tryz.func169.trans (congrArg some (by kernel_rfl))
  f171 := Tryz.func49.trans (congrArg some (by kernel_rfl))
  f172 := Tryz.func103.trans (congrArg some (by kernel_rfl))
  f205 := Tryz.func197.trans (congrArg some (by kernel_rfl))
  f243 := Tryz.func85.trans (congrArg some (by kernel_rfl))
  f244 := Tryz.func134.trans (congrArg some (by kernel_rfl))
  f245 := Tryz.func135.trans (congrArg some (by kernel_rfl))
  f246 := Tryz.func104.trans (congrArg some (by kernel_rfl))
  f247 := Tryz.func163.trans (congrArg some (by kernel_rfl))
  f279 := Tryz.func164.trans (congrArg some (by kernel_rfl))
  f280 := Tryz.func165.trans (congrArg some (by kernel_rfl))
  f281 := Tryz.func166.trans (congrArg some (by kernel_rfl))
  f282 := Tryz.func167.trans (congrArg some (by kernel_rfl))
  f283 := Tryz.func136.trans (congrArg some (by kernel_rfl))
  f284 := Tryz.func137.trans (congrArg some (by kernel_rfl))
  f285 := Tryz.func138.trans (congrArg some (by kernel_rfl))
  f286 := Tryz.func139.trans (congrArg some (by kernel_rfl))
  f287 := Tryz.func195.trans (congrArg some (by kernel_rfl))
  f316 := Tryz.func196.trans (congrArg some (by kernel_rfl))
  f317 := Tryz.func168.trans (congrArg some (by kernel_rfl))
  f318 := Tryz.func170.trans (congrArg some (by kernel_rfl))
  f319 := Tryz.func171.trans (congrArg some (by kernel_rfl))
  f320 := Tryz.func172.trans (congrArg some (by kernel_rfl))
  f321 := Tryz.func213.trans (congrArg some (by kernel_rfl))
  f322 := Tryz.func214.trans (congrArg some (by kernel_rfl))
  f337 := Tryz.func198.trans (congrArg some (by kernel_rfl))
  f338 := Tryz.func199.trans (congrArg some (by kernel_rfl))
  t0 := Tryz.underlying0
  a0 := Tryz.isAgg0
  z0 := Tryz.sizeOf0
  v0 := Tryz.zeroValue0
  t2 := Tryz.underlying2
  a2 := Tryz.isAgg2
  z2 := Tryz.sizeOf2
  v2 := Tryz.zeroValue2
  t3 := Tryz.underlying3
  a3 := Tryz.isAgg3
  z3 := Tryz.sizeOf3
  v3 := Tryz.zeroValue3
  t4 := Tryz.underlying4
  a4 := Tryz.isAgg4
  z4 := Tryz.sizeOf4
  v4 := Tryz.zeroValue4
  t5 := Tryz.underlying5
  a5 := Tryz.isAgg5
  z5 := Tryz.sizeOf5
  v5 := Tryz.zeroValue5
  t9 := Tryz.underlying9
  a9 := Tryz.isAgg9
  z9 := Tryz.sizeOf9
  v9 := Tryz.zeroValue9
  t20 := Tryz.underlying20
  a20 := Tryz.isAgg20
  z20 := Tryz.sizeOf20
  v20 := Tryz.zeroValue20
  t21 := Tryz.underlying21
  a21 := Tryz.isAgg21
  z21 := Tryz.sizeOf21
  v21 := Tryz.zeroValue21
  t37 := Tryz.underlying22
  a37 := Tryz.isAgg22
  z37 := Tryz.sizeOf22
  v37 := Tryz.zeroValue22
  t46 := Tryz.underlying143
  a46 := Tryz.isAgg143
  z46 := Tryz.sizeOf143
  v46 := Tryz.zeroValue143
  t51 := Tryz.underlying144
  a51 := Tryz.isAgg144
  z51 := Tryz.sizeOf144
  v51 := Tryz.zeroValue144
  t53 := Tryz.underlying142
  a53 := Tryz.isAgg142
  z53 := Tryz.sizeOf142
  v53 := Tryz.zeroValue142
  t75 := Tryz.underlying169
  a75 := Tryz.isAgg169
  z75 := Tryz.sizeOf169
  v75 := Tryz.zeroValue169
  t76 := Tryz.underlying170
  a76 := Tryz.isAgg170
  z76 := Tryz.sizeOf170
  v76 := Tryz.zeroValue170
  t85 := Tryz.underlying227
  a85 := Tryz.isAgg227
  z85 := Tryz.sizeOf227
  v85 := Tryz.zeroValue227
  t127 := Tryz.underlying271
  a127 := Tryz.isAgg271
  z127 := Tryz.sizeOf271
  v127 := Tryz.zeroValue271
  t143 := Tryz.underlying272
  a143 := Tryz.isAgg272
  z143 := Tryz.sizeOf272
  v143 := Tryz.zeroValue272
  t145 := Tryz.underlying274
  a145 := Tryz.isAgg274
  z145 := Tryz.sizeOf274
  v145 := Tryz.zeroValue274
  t167 := Tryz.underlying226
  a167 := Tryz.isAgg226
  z167 := Tryz.sizeOf226
  v167 := Tryz.zeroValue226
  t168 := Tryz.underlying229
  a168 := Tryz.isAgg229
  z168 := Tryz.sizeOf229
  v168 := Tryz.zeroValue229
  t171 := Tryz.underlying196
  a171 := Tryz.isAgg196
  z171 := Tryz.sizeOf196
  v171 := Tryz.zeroValue196
  t173 := Tryz.underlying199
  a173 := Tryz.isAgg199
  z173 := Tryz.sizeOf199
  v173 := Tryz.zeroValue199
  t175 := Tryz.underlying252
  a175 := Tryz.isAgg252
  z175 := Tryz.sizeOf252
  v175 := Tryz.zeroValue252
  t210 := Tryz.underlying256
  a210 := Tryz.isAgg256
  z210 := Tryz.sizeOf256
  v210 := Tryz.zeroValue256
  t212 := Tryz.underlying233
  a212 := Tryz.isAgg233
  z212 := Tryz.sizeOf233
  v212 := Tryz.zeroValue233
  t213 := Tryz.underlying234
  a213 := Tryz.isAgg234
  z213 := Tryz.sizeOf234
  t232 := Tryz.underlying275
  a232 := Tryz.isAgg275
  z232 := Tryz.sizeOf275
  v232 := Tryz.zeroValue275
  t233 := Tryz.underlying172
  a233 := Tryz.isAgg172
  z233 := Tryz.sizeOf172
  v233 := Tryz.zeroValue172
  g15 := by kernel_rfl
  g16 := by kernel_rfl
  g17 := by kernel_rfl
  g18 := by kernel_rfl
  g19 := by kernel_rfl }
def Tryz.itoa_ren : Go.Shelf.Ren := ⟨fun | 171 => 49 | 243 => 85 | 246 => 104 | 283 => 136 | 284 => 137 | 285 => 138 | 286 => 139 | 129 => 169 | 317 => 168 | 318 => 170 | 319 => 171 | 320 => 172 | 337 => 198 | 338 => 199 | n => n, fun | 3 => 3 | 9 => 9 | 2 => 2 | 4 => 4 | 171 => 196 | 0 => 0 | 53 => 142 | 37 => 22 | 5 => 5 | 173 => 199 | 212 => 233 | 51 => 144 | 20 => 20 | 213 => 234 | 46 => 143 | 232 => 275 | 233 => 172 | n => n, fun | 17 => 3 | 18 => 8 | 19 => 9 | n => n⟩
theorem Tryz.itoa : Go.Proofs.LaysM.n171 Tryz.prog Tryz.itoa_ren := {
  mixed := by kernel_rfl
  f129 := Tryz.func169.trans (congrArg some (by kernel_rfl))
  f171 := Tryz.func49.trans (congrArg some (by kernel_rfl))
  f243 := Tryz.func85.trans (congrArg some (by kernel_rfl))
  f246 := Tryz.func104.trans (congrArg some (by kernel_rfl))
  f283 := Tryz.func136.trans (congrArg some (by kernel_rfl))
  f284 := Tryz.func137.trans (congrArg some (by kernel_rfl))
  f285 := Tryz.func138.trans (congrArg some (by kernel_rfl))
  f286 := Tryz.func139.trans (congrArg some (by kernel_rfl))
  f317 := Tryz.func168.trans (congrArg some (by kernel_rfl))
  f318 := Tryz.func170.trans (congrArg some (by kernel_rfl))
  f319 := Tryz.func171.trans (congrArg some (by kernel_rfl))
  f320 := Tryz.func172.trans (congrArg some (by kernel_rfl))
  f337 := Tryz.func198.trans (congrArg some (by kernel_rfl))
  f338 := Tryz.func199.trans (congrArg some (by kernel_rfl))
  t0 := Tryz.underlying0
  a0 := Tryz.isAgg0
  z0 := Tryz.sizeOf0
  v0 := Tryz.zeroValue0
  t2 := Tryz.underlying2
  a2 := Tryz.isAgg2
  z2 := Tryz.sizeOf2
  v2 := Tryz.zeroValue2
  t3 := Tryz.underlying3
  a3 := Tryz.isAgg3
  z3 := Tryz.sizeOf3
  v3 := Tryz.zeroValue3
  t4 := Tryz.underlying4
  a4 := Tryz.isAgg4
  z4 := Tryz.sizeOf4
  v4 := Tryz.zeroValue4
  t5 := Tryz.underlying5
  a5 := Tryz.isAgg5
  z5 := Tryz.sizeOf5
  v5 := Tryz.zeroValue5
  t9 := Tryz.underlying9
  a9 := Tryz.isAgg9
  z9 := Tryz.sizeOf9
  v9 := Tryz.zeroValue9
  t20 := Tryz.underlying20
  a20 := Tryz.isAgg20
  z20 := Tryz.sizeOf20
  v20 := Tryz.zeroValue20
  t37 := Tryz.underlying22
  a37 := Tryz.isAgg22
  z37 := Tryz.sizeOf22
  v37 := Tryz.zeroValue22
  t46 := Tryz.underlying143
  a46 := Tryz.isAgg143
  z46 := Tryz.sizeOf143
  v46 := Tryz.zeroValue143
  t51 := Tryz.underlying144
  a51 := Tryz.isAgg144
  z51 := Tryz.sizeOf144
  v51 := Tryz.zeroValue144
  t53 := Tryz.underlying142
  a53 := Tryz.isAgg142
  z53 := Tryz.sizeOf142
  v53 := Tryz.zeroValue142
  t171 := Tryz.underlying196
  a171 := Tryz.isAgg196
  z171 := Tryz.sizeOf196
  v171 := Tryz.zeroValue196
  t173 := Tryz.underlying199
  a173 := Tryz.isAgg199
  z173 := Tryz.sizeOf199
  v173 := Tryz.zeroValue199
  t212 := Tryz.underlying233
  a212 := Tryz.isAgg233
  z212 := Tryz.sizeOf233
  v212 := Tryz.zeroValue233
  t213 := Tryz.underlying234
  a213 := Tryz.isAgg234
  z213 := Tryz.sizeOf234
  t232 := Tryz.underlying275
  a232 := Tryz.isAgg275
  z232 := Tryz.sizeOf275
  v232 := Tryz.zeroValue275
  t233 := Tryz.underlying172
  a233 := Tryz.isAgg172
  z233 := Tryz.sizeOf172
  v233 := Tryz.zeroValue172
  g17 := by kernel_rfl
  g18 := by kernel_rfl
  g19 := by kernel_rfl
  i0 := by kernel_rfl
  i2 := by kernel_rfl
  i3 := by kernel_rfl
  i4 := by kernel_rfl
  i5 := by kernel_rfl
  i9 := by kernel_rfl
  i20 := by kernel_rfl
  i37 := by kernel_rfl
  i46 := by kernel_rfl
  i51 := by kernel_rfl
  i53 := by kernel_rfl
  i171 := by kernel_rfl
  i173 := by kernel_rfl
  i212 := by kernel_rfl
  i232 := by kernel_rfl
  i233 := by kernel_rfl
  m17 := by kernel_rfl
  m18 := by kernel_rfl
  m19 := by kernel_rfl }
def Tryz.itos_ren : Go.Shelf.Ren := ⟨fun | 171 => 49 | 243 => 85 | 246 => 104 | 283 => 136 | 284 => 137 | 285 => 138 | 286 => 139 | 129 => 169 | 317 => 168 | 318 => 170 | 319 => 171 | 320 => 172 | 337 => 198 | 338 => 199 | n => n, fun | 3 => 3 | 9 => 9 | 2 => 2 | 4 => 4 | 171 => 196 | 0 => 0 | 53 => 142 | 37 => 22 | 5 => 5 | 173 => 199 | 212 => 233 | 51 => 144 | 20 => 20 | 213 => 234 | 46 => 143 | 232 => 275 | 233 => 172 | n => n, fun | 17 => 3 | 18 => 8 | 19 => 9 | n => n⟩
theorem Tryz.itos : Go.Proofs.Lays.n171 Tryz.prog Tryz.itos_ren := {
  mixed := by kernel_rfl
  f129 := Tryz.func169.trans (congrArg some (by kernel_rfl))
  f171 := Tryz.func49.trans (congrArg some (by kernel_rfl))
  f243 := Tryz.func85.trans (congrArg some (by kernel_rfl))
  f246 := Tryz.func104.trans (congrArg some (by kernel_rfl))
  f283 := Tryz.func136.trans (congrArg some (by kernel_rfl))
  f284 := Tryz.func137.trans (congrArg some (by kernel_rfl))
  f285 := Tryz.func138.trans (congrArg some (by kernel_rfl))
  f286 := Tryz.func139.trans (congrArg some (by kernel_rfl))
  f317 := Tryz.func168.trans (congrArg some (by kernel_rfl))
  f318 := Tryz.func170.trans (congrArg some (by kernel_rfl))
  f319 := Tryz.func171.trans (congrArg some (by kernel_rfl))
  f320 := Tryz.func172.trans (congrArg some (by kernel_rfl))
  f337 := Tryz.func198.trans (congrArg some (by kernel_rfl))
  f338 := Tryz.func199.trans (congrArg some (by kernel_rfl))
  t0 := Tryz.underlying0
  a0 := Tryz.isAgg0
  z0 := Tryz.sizeOf0
  v0 := Tryz.zeroValue0
  t2 := Tryz.underlying2
  a2 := Tryz.isAgg2
  z2 := Tryz.sizeOf2
  v2 := Tryz.zeroValue2
  t3 := Tryz.underlying3
  a3 := Tryz.isAgg3
  z3 := Tryz.sizeOf3
  v3 := Tryz.zeroValue3
  t4 := Tryz.underlying4
  a4 := Tryz.isAgg4
  z4 := Tryz.sizeOf4
  v4 := Tryz.zeroValue4
  t5 := Tryz.underlying5
  a5 := Tryz.isAgg5
  z5 := Tryz.sizeOf5
  v5 := Tryz.zeroValue5
  t9 := Tryz.underlying9
  a9 := Tryz.isAgg9
  z9 := Tryz.sizeOf9
  v9 := Tryz.zeroValue9
  t20 := Tryz.underlying20
  a20 := Tryz.isAgg20
  z20 := Tryz.sizeOf20
  v20 := Tryz.zeroValue20
  t37 := Tryz.underlying22
  a37 := Tryz.isAgg22
  z37 := Tryz.sizeOf22
  v37 := Tryz.zeroValue22
  t46 := Tryz.underlying143
  a46 := Tryz.isAgg143
  z46 := Tryz.sizeOf143
  v46 := Tryz.zeroValue143
  t51 := Tryz.underlying144
  a51 := Tryz.isAgg144
  z51 := Tryz.sizeOf144
  v51 := Tryz.zeroValue144
  t53 := Tryz.underlying142
  a53 := Tryz.isAgg142
  z53 := Tryz.sizeOf142
  v53 := Tryz.zeroValue142
  t171 := Tryz.underlying196
  a171 := Tryz.isAgg196
  z171 := Tryz.sizeOf196
  v171 := Tryz.zeroValue196
  t173 := Tryz.underlying199
  a173 := Tryz.isAgg199
  z173 := Tryz.sizeOf199
  v173 := Tryz.zeroValue199
  t212 := Tryz.underlying233
  a212 := Tryz.isAgg233
  z212 := Tryz.sizeOf233
  v212 := Tryz.zeroValue233
  t213 := Tryz.underlying234
  a213 := Tryz.isAgg234
  z213 := Tryz.sizeOf234
  t232 := Tryz.underlying275
  a232 := Tryz.isAgg275
  z232 := Tryz.sizeOf275
  v232 := Tryz.zeroValue275
  t233 := Tryz.underlying172
  a233 := Tryz.isAgg172
  z233 := Tryz.sizeOf172
  v233 := Tryz.zeroValue172
  g17 := by kernel_rfl
  g18 := by kernel_rfl
  g19 := by kernel_rfl }
def Tryz.ffun_ren : Go.Shelf.Ren := ⟨fun | 229 => 82 | n => n, fun | 9 => 9 | 40 => 136 | 31 => 134 | 152 => 164 | 3 => 3 | 0 => 0 | 4 => 4 | 21 => 21 | 154 => 166 | n => n, fun | n => n⟩
theorem Tryz.ffun : Go.Proofs.Lays.n229 Tryz.prog Tryz.ffun_ren := {
  mixed := by kernel_rfl
  f229 := Tryz.func82.trans (congrArg some (by kernel_rfl))
  t0 := Tryz.underlying0
  a0 := Tryz.isAgg0
  z0 := Tryz.sizeOf0
  v0 := Tryz.zeroValue0
  t3 := Tryz.underlying3
  a3 := Tryz.isAgg3
  z3 := Tryz.sizeOf3
  v3 := Tryz.zeroValue3
  t4 := Tryz.underlying4
  a4 := Tryz.isAgg4
  z4 := Tryz.sizeOf4
  v4 := Tryz.zeroValue4
  t9 := Tryz.underlying9
  a9 := Tryz.isAgg9
  z9 := Tryz.sizeOf9
  v9 := Tryz.zeroValue9
  t21 := Tryz.underlying21
  a21 := Tryz.isAgg21
  z21 := Tryz.sizeOf21
  v21 := Tryz.zeroValue21
  t31 := Tryz.underlying134
  a31 := Tryz.isAgg134
  z31 := Tryz.sizeOf134
  v31 := Tryz.zeroValue134
  t40 := Tryz.underlying136
  a40 := Tryz.isAgg136
  z40 := Tryz.sizeOf136
  v40 := Tryz.zeroValue136
  t152 := Tryz.underlying164
  a152 := Tryz.isAgg164
  z152 := Tryz.sizeOf164
  v152 := Tryz.zeroValue164
  t154 := Tryz.underlying166
  a154 := Tryz.isAgg166
  z154 := Tryz.sizeOf166
  v154 := Tryz.zeroValue166 }
def Tryz.bcut_ren : Go.Shelf.Ren := ⟨fun | 4 => 53 | 5 => 90 | 6 => 111 | 7 => 112 | 8 => 113 | 9 => 114 | 10 => 115 | 11 => 144 | 12 => 145 | n => n, fun | 22 => 22 | 4 => 4 | 3 => 3 | 0 => 0 | 5 => 5 | 29 => 143 | 9 => 9 | 31 => 203 | 30 => 144 | n => n, fun | 0 => 1 | n => n⟩
theorem Tryz.bcut : Go.Proofs.SlLaysT.n4 Tryz.prog Tryz.bcut_ren := {
  mixed := by kernel_rfl
  f4 := Tryz.func53.trans (congrArg some (by kernel_rfl))
  f5 := Tryz.func90.trans (congrArg some (by kernel_rfl))
  f6 := Tryz.func111.trans (congrArg some (by kernel_rfl))
  f7 := Tryz.func112.trans (congrArg some (by kernel_rfl))
  f8 := Tryz.func113.trans (congrArg some (by kernel_rfl))
  f9 := Tryz.func114.trans (congrArg some (by kernel_rfl))
  f10 := Tryz.func115.trans (congrArg some (by kernel_rfl))
  f11 := Tryz.func144.trans (congrArg some (by kernel_rfl))
  f12 := Tryz.func145.trans (congrArg some (by kernel_rfl))
  t0 := Tryz.underlying0
  a0 := Tryz.isAgg0
  z0 := Tryz.sizeOf0
  v0 := Tryz.zeroValue0
  t3 := Tryz.underlying3
  a3 := Tryz.isAgg3
  z3 := Tryz.sizeOf3
  v3 := Tryz.zeroValue3
  t4 := Tryz.underlying4
  a4 := Tryz.isAgg4
  z4 := Tryz.sizeOf4
  v4 := Tryz.zeroValue4
  t5 := Tryz.underlying5
  a5 := Tryz.isAgg5
  z5 := Tryz.sizeOf5
  v5 := Tryz.zeroValue5
  t9 := Tryz.underlying9
  a9 := Tryz.isAgg9
  z9 := Tryz.sizeOf9
  v9 := Tryz.zeroValue9
  t22 := Tryz.underlying22
  a22 := Tryz.isAgg22
  z22 := Tryz.sizeOf22
  v22 := Tryz.zeroValue22
  t29 := Tryz.underlying143
  a29 := Tryz.isAgg143
  z29 := Tryz.sizeOf143
  v29 := Tryz.zeroValue143
  t30 := Tryz.underlying144
  a30 := Tryz.isAgg144
  z30 := Tryz.sizeOf144
  v30 := Tryz.zeroValue144
  t31 := Tryz.underlying203
  a31 := Tryz.isAgg203
  z31 := Tryz.sizeOf203
  v31 := Tryz.zeroValue203
  g0 := by kernel_rfl }
end Go.Proofs
