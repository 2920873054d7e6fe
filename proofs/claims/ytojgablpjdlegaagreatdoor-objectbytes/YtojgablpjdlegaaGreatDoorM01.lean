/- ShelfA, Base, Math, Bits. -/
import Derived.WalkKit
import Derived.Shelf.Small.Bits
import Derived.Shelf.Small.Strs
import Derived.Shelf.Small.Wraps
import Derived.Shelf.Strings.Cut
import Derived.Shelf.Strings.Prefix
import Derived.Shelf.Strings.IndexAnyAll
import Derived.Ground.SlbCloneProg
import Derived.Shelf.Bytes.SlClone
import Derived.Test.YtojgablpjdlegaaGreatDoorProg
import Derived.WalkSpells
import Derived.WalkLawsBesides
import Derived.Laws.Bits128
import Derived.Laws.BitsAllLaws
/-
  DERIVED: THE SHELF's CONTRACTS AT THIS DUMP, IN PLAIN WORDS (tools/lay-plain.mjs out of 'YtojgablpjdlegaaGreatDoorShelfA.lean', which tools/lay-shelf.mjs wrote): THE SAME DECLARATIONS UNDER THE SAME NAMES: 'import', 'namespace', 'open', 'def', 'theorem' AND NOTHING ELSE: no command of the shelf's: FOR A HAND-IN. Each laying: the table of numbers ('.._ren') and one theorem, a field a fact of the dump's own or the kernel's comparison; each contract: ONE APPLICATION.
-/
namespace Go.Proofs
open Go.Shelf
def Tryz.idxb_ren : Go.Shelf.Ren := ⟨fun | 137 => 211 | 217 => 146 | 266 => 174 | n => n, fun | 9 => 9 | 5 => 5 | 3 => 3 | n => n, fun | n => n⟩
theorem Tryz.idxb : Go.Proofs.Lays.n137 Tryz.prog Tryz.idxb_ren := {
  mixed := by kernel_rfl
  f137 := Tryz.func211.trans (congrArg some (by kernel_rfl))
  f217 := Tryz.func146.trans (congrArg some (by kernel_rfl))
  f266 := Tryz.func174.trans (congrArg some (by kernel_rfl))
  t3 := Tryz.underlying3
  a3 := Tryz.isAgg3
  z3 := Tryz.sizeOf3
  v3 := Tryz.zeroValue3
  t5 := Tryz.underlying5
  a5 := Tryz.isAgg5
  z5 := Tryz.sizeOf5
  v5 := Tryz.zeroValue5
  t9 := Tryz.underlying9
  a9 := Tryz.isAgg9
  z9 := Tryz.sizeOf9
  v9 := Tryz.zeroValue9 }
def Tryz.blen_ren : Go.Shelf.Ren := ⟨fun | 125 => 156 | 128 => 182 | 129 => 169 | n => n, fun | 46 => 143 | 3 => 3 | 51 => 144 | 53 => 142 | 4 => 4 | 5 => 5 | 9 => 9 | n => n, fun | n => n⟩
theorem Tryz.blen : Go.Proofs.Lays.n125 Tryz.prog Tryz.blen_ren := {
  mixed := by kernel_rfl
  f125 := Tryz.func156.trans (congrArg some (by kernel_rfl))
  f128 := Tryz.func182.trans (congrArg some (by kernel_rfl))
  f129 := Tryz.func169.trans (congrArg some (by kernel_rfl))
  t3 := Tryz.underlying3
  a3 := Tryz.isAgg3
  z3 := Tryz.sizeOf3
  v3 := Tryz.zeroValue3
  t4 := Tryz.underlying4
  a4 := Tryz.isAgg4
  z4 := Tryz.sizeOf4
  v4 := Tryz.zeroValue4
  t5 := Tryz.underlying5
  a5 := Tryz.isAgg5
  z5 := Tryz.sizeOf5
  v5 := Tryz.zeroValue5
  t9 := Tryz.underlying9
  a9 := Tryz.isAgg9
  z9 := Tryz.sizeOf9
  v9 := Tryz.zeroValue9
  t46 := Tryz.underlying143
  a46 := Tryz.isAgg143
  z46 := Tryz.sizeOf143
  v46 := Tryz.zeroValue143
  t51 := Tryz.underlying144
  a51 := Tryz.isAgg144
  z51 := Tryz.sizeOf144
  v51 := Tryz.zeroValue144
  t53 := Tryz.underlying142
  a53 := Tryz.isAgg142
  z53 := Tryz.sizeOf142
  v53 := Tryz.zeroValue142 }
def Tryz.cmps_ren : Go.Shelf.Ren := ⟨fun | 106 => 70 | 213 => 100 | 265 => 126 | n => n, fun | 9 => 9 | 3 => 3 | n => n, fun | n => n⟩
theorem Tryz.cmps : Go.Proofs.Lays.n106 Tryz.prog Tryz.cmps_ren := {
  mixed := by kernel_rfl
  f106 := Tryz.func70.trans (congrArg some (by kernel_rfl))
  f213 := Tryz.func100.trans (congrArg some (by kernel_rfl))
  f265 := Tryz.func126.trans (congrArg some (by kernel_rfl))
  t3 := Tryz.underlying3
  a3 := Tryz.isAgg3
  z3 := Tryz.sizeOf3
  v3 := Tryz.zeroValue3
  t9 := Tryz.underlying9
  a9 := Tryz.isAgg9
  z9 := Tryz.sizeOf9
  v9 := Tryz.zeroValue9 }
def Tryz.cutp_ren : Go.Shelf.Ren := ⟨fun | 103 => 180 | 210 => 204 | 206 => 177 | n => n, fun | 9 => 9 | 4 => 4 | 24 => 239 | 3 => 3 | n => n, fun | n => n⟩
theorem Tryz.cutp : Go.Proofs.Lays.n103 Tryz.prog Tryz.cutp_ren := {
  mixed := by kernel_rfl
  f103 := Tryz.func180.trans (congrArg some (by kernel_rfl))
  f206 := Tryz.func177.trans (congrArg some (by kernel_rfl))
  f210 := Tryz.func204.trans (congrArg some (by kernel_rfl))
  t3 := Tryz.underlying3
  a3 := Tryz.isAgg3
  z3 := Tryz.sizeOf3
  v3 := Tryz.zeroValue3
  t4 := Tryz.underlying4
  a4 := Tryz.isAgg4
  z4 := Tryz.sizeOf4
  v4 := Tryz.zeroValue4
  t9 := Tryz.underlying9
  a9 := Tryz.isAgg9
  z9 := Tryz.sizeOf9
  v9 := Tryz.zeroValue9
  t24 := Tryz.underlying239
  a24 := Tryz.isAgg239
  z24 := Tryz.sizeOf239
  v24 := Tryz.zeroValue239 }
def Tryz.hasp_ren : Go.Shelf.Ren := ⟨fun | 99 => 150 | 206 => 177 | n => n, fun | 9 => 9 | 4 => 4 | 3 => 3 | n => n, fun | n => n⟩
theorem Tryz.hasp : Go.Proofs.Lays.n99 Tryz.prog Tryz.hasp_ren := {
  mixed := by kernel_rfl
  f99 := Tryz.func150.trans (congrArg some (by kernel_rfl))
  f206 := Tryz.func177.trans (congrArg some (by kernel_rfl))
  t3 := Tryz.underlying3
  a3 := Tryz.isAgg3
  z3 := Tryz.sizeOf3
  v3 := Tryz.zeroValue3
  t4 := Tryz.underlying4
  a4 := Tryz.isAgg4
  z4 := Tryz.sizeOf4
  v4 := Tryz.zeroValue4
  t9 := Tryz.underlying9
  a9 := Tryz.isAgg9
  z9 := Tryz.sizeOf9
  v9 := Tryz.zeroValue9 }
def Tryz.scut_ren : Go.Shelf.Ren := ⟨fun | 145 => 54 | 220 => 91 | 219 => 116 | 217 => 146 | 225 => 147 | 224 => 114 | 267 => 148 | 266 => 174 | 314 => 175 | n => n, fun | 9 => 9 | 4 => 4 | 59 => 103 | 3 => 3 | 5 => 5 | 46 => 143 | 146 => 203 | 51 => 144 | n => n, fun | 1 => 1 | n => n⟩
theorem Tryz.scut : Go.Proofs.Lays.n145 Tryz.prog Tryz.scut_ren := {
  mixed := by kernel_rfl
  f145 := Tryz.func54.trans (congrArg some (by kernel_rfl))
  f217 := Tryz.func146.trans (congrArg some (by kernel_rfl))
  f219 := Tryz.func116.trans (congrArg some (by kernel_rfl))
  f220 := Tryz.func91.trans (congrArg some (by kernel_rfl))
  f224 := Tryz.func114.trans (congrArg some (by kernel_rfl))
  f225 := Tryz.func147.trans (congrArg some (by kernel_rfl))
  f266 := Tryz.func174.trans (congrArg some (by kernel_rfl))
  f267 := Tryz.func148.trans (congrArg some (by kernel_rfl))
  f314 := Tryz.func175.trans (congrArg some (by kernel_rfl))
  t3 := Tryz.underlying3
  a3 := Tryz.isAgg3
  z3 := Tryz.sizeOf3
  v3 := Tryz.zeroValue3
  t4 := Tryz.underlying4
  a4 := Tryz.isAgg4
  z4 := Tryz.sizeOf4
  v4 := Tryz.zeroValue4
  t5 := Tryz.underlying5
  a5 := Tryz.isAgg5
  z5 := Tryz.sizeOf5
  v5 := Tryz.zeroValue5
  t9 := Tryz.underlying9
  a9 := Tryz.isAgg9
  z9 := Tryz.sizeOf9
  v9 := Tryz.zeroValue9
  t46 := Tryz.underlying143
  a46 := Tryz.isAgg143
  z46 := Tryz.sizeOf143
  v46 := Tryz.zeroValue143
  t51 := Tryz.underlying144
  a51 := Tryz.isAgg144
  z51 := Tryz.sizeOf144
  v51 := Tryz.zeroValue144
  t59 := Tryz.underlying103
  a59 := Tryz.isAgg103
  z59 := Tryz.sizeOf103
  v59 := Tryz.zeroValue103
  t146 := Tryz.underlying203
  a146 := Tryz.isAgg203
  z146 := Tryz.sizeOf203
  v146 := Tryz.zeroValue203
  g1 := by kernel_rfl }
def Tryz.cany_ren : Go.Shelf.Ren := ⟨fun | 150 => 125 | 153 => 158 | 152 => 191 | 226 => 192 | 227 => 129 | 228 => 159 | 137 => 211 | 119 => 212 | 224 => 114 | 225 => 147 | 217 => 146 | 266 => 174 | n => n, fun | 9 => 9 | 4 => 4 | 3 => 3 | 5 => 5 | 21 => 21 | 117 => 191 | 116 => 190 | 0 => 0 | 46 => 143 | 124 => 194 | n => n, fun | n => n⟩
theorem Tryz.cany : Go.Proofs.Lays.n150 Tryz.prog Tryz.cany_ren := {
  mixed := by kernel_rfl
  f119 := Tryz.func212.trans (congrArg some (by kernel_rfl))
  f137 := Tryz.func211.trans (congrArg some (by kernel_rfl))
  f150 := Tryz.func125.trans (congrArg some (by kernel_rfl))
  f152 := Tryz.func191.trans (congrArg some (by kernel_rfl))
  f153 := Tryz.func158.trans (congrArg some (by kernel_rfl))
  f217 := Tryz.func146.trans (congrArg some (by kernel_rfl))
  f224 := Tryz.func114.trans (congrArg some (by kernel_rfl))
  f225 := Tryz.func147.trans (congrArg some (by kernel_rfl))
  f226 := Tryz.func192.trans (congrArg some (by kernel_rfl))
  f227 := Tryz.func129.trans (congrArg some (by kernel_rfl))
  f228 := Tryz.func159.trans (congrArg some (by kernel_rfl))
  f266 := Tryz.func174.trans (congrArg some (by kernel_rfl))
  t0 := Tryz.underlying0
  a0 := Tryz.isAgg0
  z0 := Tryz.sizeOf0
  v0 := Tryz.zeroValue0
  t3 := Tryz.underlying3
  a3 := Tryz.isAgg3
  z3 := Tryz.sizeOf3
  v3 := Tryz.zeroValue3
  t4 := Tryz.underlying4
  a4 := Tryz.isAgg4
  z4 := Tryz.sizeOf4
  v4 := Tryz.zeroValue4
  t5 := Tryz.underlying5
  a5 := Tryz.isAgg5
  z5 := Tryz.sizeOf5
  v5 := Tryz.zeroValue5
  t9 := Tryz.underlying9
  a9 := Tryz.isAgg9
  z9 := Tryz.sizeOf9
  v9 := Tryz.zeroValue9
  t21 := Tryz.underlying21
  a21 := Tryz.isAgg21
  z21 := Tryz.sizeOf21
  v21 := Tryz.zeroValue21
  t46 := Tryz.underlying143
  a46 := Tryz.isAgg143
  z46 := Tryz.sizeOf143
  v46 := Tryz.zeroValue143
  t116 := Tryz.underlying190
  a116 := Tryz.isAgg190
  z116 := Tryz.sizeOf190
  t117 := Tryz.underlying191
  a117 := Tryz.isAgg191
  z117 := Tryz.sizeOf191
  v117 := Tryz.zeroValue191
  t124 := Tryz.underlying194
  a124 := Tryz.isAgg194
  z124 := Tryz.sizeOf194
  v124 := Tryz.zeroValue194 }
def Tryz.bcln_ren : Go.Shelf.Ren := ⟨fun | 4 => 55 | n => n, fun | 22 => 22 | 4 => 4 | 5 => 5 | n => n, fun | n => n⟩
theorem Tryz.bcln : Go.Proofs.SlLaysK.n4 Tryz.prog Tryz.bcln_ren := {
  mixed := by kernel_rfl
  f4 := Tryz.func55.trans (congrArg some (by kernel_rfl))
  t4 := Tryz.underlying4
  a4 := Tryz.isAgg4
  z4 := Tryz.sizeOf4
  v4 := Tryz.zeroValue4
  t22 := Tryz.underlying22
  a22 := Tryz.isAgg22
  z22 := Tryz.sizeOf22
  v22 := Tryz.zeroValue22
  t5 := Tryz.underlying5
  i5 := by kernel_rfl }
end Go.Proofs

/- What a slice of bytes in memory holds, said of a world; laws on it. -/
namespace Go.Proofs.YtojgablpjdlegaaGreatDoor
open Go.RowKit

/-- The slice value '.slice ao n c' reads as the bytes xs in the world w. -/
structure Rd (w : World) (ao : Option Addr) (n c : Nat) (xs : List Int) : Prop where
  len : xs.length = n
  le : n ≤ c
  nul : ao = none → n = 0 ∧ c = 0
  cells : ∀ ad, ao = some ad → ∀ j, j < n → w.cell? (ad.add j) = some (.int .u8 (xs.getD j 0))
  byt : ∀ x ∈ xs, 0 ≤ x ∧ x < 256

theorem Rd.nil (w : World) : Rd w none 0 0 [] := ⟨rfl, Nat.le_refl _, fun _ => ⟨rfl, rfl⟩, (fun _ h => by cases h), (fun _ h => by cases h)⟩

theorem Rd.cellsOf {w : World} {ao : Option Addr} {n c : Nat} {xs : List Int} (h : Rd w ao n c xs) :
    ∀ ad, ao = some ad → ∀ j u, (xs.map (Value.int .u8))[j]? = some u → w.cell? (ad.add j) = some u := by
  intro ad had j u hu
  have hj : j < xs.length := by
    have := (List.getElem?_eq_some_iff.1 hu).1
    simpa using this
  rw [h.cells ad had j (by have := h.len; omega)]
  rw [List.getElem?_map, List.getElem?_eq_getElem hj] at hu
  simp only [Option.map_some, Option.some.injEq] at hu
  rw [← hu]
  simp [List.getD, List.getElem?_eq_getElem hj]

/-- Where there is a byte, the address is plain. -/
theorem Rd.plain {w : World} {ao : Option Addr} {n c : Nat} {xs : List Int} (h : Rd w ao n c xs) (hn : 0 < n) :
    ∃ b off, ao = some ⟨b, off, none⟩ ∧ ∀ j, j < n → w.cell? ⟨b, off + j, none⟩ = some (.int .u8 (xs.getD j 0)) := by
  cases ao with
  | none => have := (h.nul rfl).1; omega
  | some ad =>
    obtain ⟨b, off, spot⟩ := ad
    have hc := h.cells _ rfl 0 hn
    have hspot : spot = none := by simpa [Addr.add] using World.cell?_spot hc
    subst hspot
    refine ⟨b, off, rfl, fun j hj => ?_⟩
    have := h.cells _ rfl j hj
    rwa [Addr.add_lit] at this

/-- It reads so in every world that keeps what was there. -/
theorem Rd.keep {w w' : World} {ao : Option Addr} {n c : Nat} {xs : List Int} (h : Rd w ao n c xs) (hb : Below w.heap.size w w') : Rd w' ao n c xs :=
  ⟨h.len, h.le, h.nul, fun ad had j hj => by
    have hc := h.cells ad had j hj
    rw [hb.cell (World.block_lt_of_cell? w _ hc)]
    exact hc, h.byt⟩

/-- A row of the call's own reads as its cells. -/
theorem Rd.ofOwn {w : World} {base g n c : Nat} {xs : List Int} (h : w.ownsRow base 5 1 (.slice (some ⟨g, 0, none⟩) n c) n (xs.map (Value.int .u8))) (hb : ∀ x ∈ xs, 0 ≤ x ∧ x < 256) :
    Rd w (some ⟨g, 0, none⟩) n c xs := by
  have hl : xs.length = n := by simpa using h.1
  refine ⟨hl, ?_, (fun e => by cases e), fun ad had j hj => ?_, hb⟩
  · rcases h.2 with ⟨e, _⟩ | ⟨g', cap, cur, e, _, _, hle, _⟩
    · cases e
    · cases e; exact hle
  · cases had
    have := h.cells (g := g) rfl j (.int .u8 (xs.getD j 0)) (by simp [List.getD, List.getElem?_eq_getElem (show j < xs.length by omega)])
    simpa using this

end Go.Proofs.YtojgablpjdlegaaGreatDoor

/- Bits in a number, from the lowest on; plain arithmetic. -/
namespace Go.Proofs.YtojgablpjdlegaaGreatDoor
open Go.RowKit

theorem p2 (k : Nat) : (0 : Int) < 2 ^ k := Int.pow_pos (by decide)

theorem p2_le (a b : Nat) (h : a ≤ b) : (2 : Int) ^ a ≤ 2 ^ b := by
  exact_mod_cast Nat.pow_le_pow_right (n := 2) (by decide) h

theorem p2_split (a b : Nat) (h : a ≤ b) : (2 : Int) ^ b = 2 ^ a * 2 ^ (b - a) := by rw [← Int.pow_add]; congr 1; omega

theorem div_div (x : Int) (a b : Nat) : x / 2 ^ a / 2 ^ b = x / 2 ^ (a + b) := by
  rw [Int.ediv_ediv_of_nonneg (Int.le_of_lt (p2 a)), Int.pow_add]

/-- The lowest a + b bits: the lowest a, and the b above them. -/
theorem mod_add (v : Int) (a b : Nat) : v % 2 ^ (a + b) = v % 2 ^ a + 2 ^ a * (v / 2 ^ a % 2 ^ b) := by
  have ha := p2 a
  have hb := p2 b
  have h1 := Int.emod_add_mul_ediv v (2 ^ a)
  have h2 := Int.emod_add_mul_ediv (v / 2 ^ a) (2 ^ b)
  have h3 := Int.emod_nonneg v (Int.ne_of_gt ha)
  have h4 := Int.emod_lt_of_pos v ha
  have h5 := Int.emod_nonneg (v / 2 ^ a) (Int.ne_of_gt hb)
  have h6 := Int.emod_lt_of_pos (v / 2 ^ a) hb
  have h7 : 2 ^ a * (v / 2 ^ a % 2 ^ b) ≤ 2 ^ a * (2 ^ b - 1) := Int.mul_le_mul_of_nonneg_left (by omega) (by omega)
  have h8 : 0 ≤ 2 ^ a * (v / 2 ^ a % 2 ^ b) := Int.mul_nonneg (by omega) h5
  rw [Int.mul_sub, Int.mul_one, ← Int.pow_add] at h7
  refine ((Int.ediv_emod_unique (b := 2 ^ (a + b)) (q := v / 2 ^ a / 2 ^ b) (p2 _)).2 ⟨?_, by omega, by omega⟩).2
  rw [Int.pow_add, Int.mul_assoc, Int.add_assoc, ← Int.mul_add, h2, h1]

theorem mod_one (v : Int) (a : Nat) : v % 2 ^ (a + 1) = v % 2 ^ a + 2 ^ a * (v / 2 ^ a % 2) := mod_add v a 1

theorem mod_nn (v : Int) (a : Nat) : 0 ≤ v % 2 ^ a := Int.emod_nonneg v (Int.ne_of_gt (p2 a))

theorem mod_lt (v : Int) (a : Nat) : v % 2 ^ a < 2 ^ a := Int.emod_lt_of_pos v (p2 a)

theorem mod_mod (v : Int) (a b : Nat) (h : a ≤ b) : v % 2 ^ b % 2 ^ a = v % 2 ^ a :=
  Int.emod_emod_of_dvd v ⟨2 ^ (b - a), p2_split a b h⟩

/-- Bits put above: what lies at a and below b stays. -/
theorem put_div (N x : Int) (a b : Nat) (h : a ≤ b) : (N + 2 ^ b * x) / 2 ^ a = N / 2 ^ a + 2 ^ (b - a) * x := by
  rw [p2_split a b h, Int.mul_assoc, Int.add_mul_ediv_left _ _ (Int.ne_of_gt (p2 a))]

theorem put_low (N x : Int) (a b k : Nat) (h : a + k ≤ b) : (N + 2 ^ b * x) / 2 ^ a % 2 ^ k = N / 2 ^ a % 2 ^ k := by
  rw [put_div N x a b (by omega), p2_split k (b - a) (by omega), Int.mul_assoc, Int.add_mul_emod_self_left]

theorem put_high (N x : Int) (b : Nat) (h0 : 0 ≤ N) (h1 : N < 2 ^ b) : (N + 2 ^ b * x) / 2 ^ b = x := by
  rw [put_div N x b b (Nat.le_refl _), Nat.sub_self, Int.pow_zero, Int.one_mul, Int.ediv_eq_zero_of_lt h0 h1, Int.zero_add]

theorem put_mod (N x : Int) (b : Nat) (h0 : 0 ≤ N) (h1 : N < 2 ^ b) : (N + 2 ^ b * x) % 2 ^ b = N := by
  rw [Int.add_mul_emod_self_left, Int.emod_eq_of_lt h0 h1]

theorem put_bound (N x : Int) (b k : Nat) (h0 : 0 ≤ N) (h1 : N < 2 ^ b) (hx0 : 0 ≤ x) (hx1 : x < 2 ^ k) : 0 ≤ N + 2 ^ b * x ∧ N + 2 ^ b * x < 2 ^ (b + k) := by
  have hb := p2 b
  have h2 : 0 ≤ 2 ^ b * x := Int.mul_nonneg (by omega) hx0
  have h3 : 2 ^ b * x ≤ 2 ^ b * (2 ^ k - 1) := Int.mul_le_mul_of_nonneg_left (by omega) (by omega)
  rw [Int.mul_sub, Int.mul_one, ← Int.pow_add] at h3
  omega

theorem div_lt (N : Int) (a b : Nat) (h1 : N < 2 ^ (a + b)) : N / 2 ^ a < 2 ^ b := by
  refine Int.ediv_lt_of_lt_mul (p2 a) ?_
  rw [← Int.pow_add, Nat.add_comm]
  exact h1

theorem div_nn (N : Int) (a : Nat) (h0 : 0 ≤ N) : 0 ≤ N / 2 ^ a := Int.ediv_nonneg h0 (Int.le_of_lt (p2 a))

/-- The lowest n bits of v the other way round. -/
def T (v : Int) : Nat → Int
  | 0 => 0
  | k + 1 => 2 * T v k + v / 2 ^ k % 2

theorem T_bound (v : Int) (k : Nat) : 0 ≤ T v k ∧ T v k < 2 ^ k := by
  induction k with
  | zero => exact ⟨by simp [T], by simp [T]⟩
  | succ k ih =>
    have h1 : 0 ≤ v / 2 ^ k % 2 := Int.emod_nonneg _ (by decide)
    have h2 : v / 2 ^ k % 2 < 2 := Int.emod_lt_of_pos _ (by decide)
    have h3 : (2 : Int) ^ (k + 1) = 2 ^ k * 2 := Int.pow_succ _ _
    simp only [T]
    omega

theorem T_div (v : Int) (m j : Nat) : T v (m + j) / 2 ^ j = T v m := by
  induction j with
  | zero => simp
  | succ j ih =>
    have h1 : 0 ≤ v / 2 ^ (m + j) % 2 := Int.emod_nonneg _ (by decide)
    have h2 : v / 2 ^ (m + j) % 2 < 2 := Int.emod_lt_of_pos _ (by decide)
    have e : (2 : Int) ^ (j + 1) = 2 ^ (1 + j) := by rw [Nat.add_comm]
    rw [← ih, e, ← div_div]
    congr 1
    show T v (m + j + 1) / 2 ^ 1 = T v (m + j)
    simp only [T]
    omega

/-- A bit of the number turned. -/
theorem T_bit (v : Int) (n j : Nat) (h : j < n) : T v n / 2 ^ j % 2 = v / 2 ^ (n - 1 - j) % 2 := by
  have e : n = (n - 1 - j + 1) + j := by omega
  conv => lhs; rw [e, T_div]
  have h1 : 0 ≤ v / 2 ^ (n - 1 - j) % 2 := Int.emod_nonneg _ (by decide)
  have h2 : v / 2 ^ (n - 1 - j) % 2 < 2 := Int.emod_lt_of_pos _ (by decide)
  simp only [T]
  omega

theorem T_T_aux (v : Int) (n k : Nat) (h : k ≤ n) : T (T v n) k = v % 2 ^ n / 2 ^ (n - k) := by
  induction k with
  | zero => rw [Nat.sub_zero, Int.ediv_eq_zero_of_lt (mod_nn v n) (mod_lt v n)]; rfl
  | succ k ih =>
    have e : n - k = (n - (k + 1)) + 1 := by omega
    have hb : v % 2 ^ n / 2 ^ (n - (k + 1)) % 2 = v / 2 ^ (n - 1 - k) % 2 := by
      have e2 : n = (n - (k + 1)) + (k + 1) := by omega
      have e4 : n - (k + 1) = n - 1 - k := by omega
      have h5 := mod_add v (n - (k + 1)) (k + 1)
      rw [← e2] at h5
      rw [h5, put_div _ _ _ _ (Nat.le_refl _), Nat.sub_self, Int.pow_zero, Int.one_mul, Int.ediv_eq_zero_of_lt (mod_nn _ _) (mod_lt _ _), Int.zero_add, e4]
      exact mod_mod (v / 2 ^ (n - 1 - k)) 1 (k + 1) (by omega)
    simp only [T]
    rw [ih (by omega), T_bit v n k (by omega), e, ← div_div, ← hb]
    show 2 * (v % 2 ^ n / 2 ^ (n - (k + 1)) / 2 ^ 1) + _ = _
    omega

/-- Turned twice is itself. -/
theorem T_T (v : Int) (n : Nat) : T (T v n) n = v % 2 ^ n := by rw [T_T_aux v n n (Nat.le_refl _), Nat.sub_self]; simp

theorem T_congr (v u : Int) (n : Nat) (h : v % 2 ^ n = u % 2 ^ n) : T v n = T u n := by
  rw [← Int.emod_eq_of_lt (T_bound v n).1 (T_bound v n).2, ← T_T, ← Int.emod_eq_of_lt (T_bound u n).1 (T_bound u n).2, ← T_T, T_T v, T_T u, h]

/-- The bytes of a number, the lowest first. -/
def by8 (N : Int) (m : Nat) : List Int := (List.range m).map fun j => N / 2 ^ (8 * j) % 256

theorem by8_len (N : Int) (m : Nat) : (by8 N m).length = m := by simp [by8]

theorem by8_succ (N : Int) (m : Nat) : by8 N (m + 1) = by8 N m ++ [N / 2 ^ (8 * m) % 256] := by simp [by8, List.range_succ]

theorem by8_get (N : Int) (m j : Nat) (h : j < m) : (by8 N m).getD j 0 = N / 2 ^ (8 * j) % 256 := by
  simp [by8, List.getD, h]

theorem by8_byt (N : Int) (m : Nat) : ∀ x ∈ by8 N m, 0 ≤ x ∧ x < 256 := by
  intro x hx
  simp only [by8, List.mem_map] at hx
  obtain ⟨j, _, rfl⟩ := hx
  exact ⟨Int.emod_nonneg _ (by decide), Int.emod_lt_of_pos _ (by decide)⟩

/-- Bits put behind whole bytes leave them. -/
theorem by8_put (N x : Int) (b m : Nat) (h : 8 * m ≤ b) : by8 (N + 2 ^ b * x) m = by8 N m := by
  simp only [by8]
  refine List.map_congr_left fun j hj => ?_
  have : j < m := by simpa using hj
  exact put_low N x (8 * j) b 8 (by omega)

/-- The bits of a number, the lowest first. -/
def bl (N : Int) (m : Nat) : List Bool := (List.range m).map fun j => N / 2 ^ j % 2 == 1

theorem bl_len (N : Int) (m : Nat) : (bl N m).length = m := by simp [bl]

theorem bl_get (N : Int) (m j : Nat) (h : j < m) : (bl N m)[j]? = some (N / 2 ^ j % 2 == 1) := by simp [bl, h]

theorem bl_put (N b : Int) (m : Nat) (h0 : 0 ≤ N) (h1 : N < 2 ^ m) (hb0 : 0 ≤ b) (hb1 : b < 2) : bl (N + 2 ^ m * b) (m + 1) = bl N m ++ [b == 1] := by
  simp only [bl, List.range_succ, List.map_append, List.map_cons, List.map_nil]
  congr 1
  · refine List.map_congr_left fun j hj => ?_
    have : j < m := by simpa using hj
    rw [show (N + 2 ^ m * b) / 2 ^ j % 2 = N / 2 ^ j % 2 from put_low N b j m 1 (by omega)]
  · rw [put_high N b m h0 h1, Int.emod_eq_of_lt hb0 hb1]

/-- Every row of bytes is the bytes of a number. -/
theorem by8_exists (xs : List Int) (h : ∀ x ∈ xs, 0 ≤ x ∧ x < 256) : ∃ N, 0 ≤ N ∧ N < 2 ^ (8 * xs.length) ∧ by8 N xs.length = xs := by
  obtain ⟨m, hm⟩ : ∃ m, m = xs.length := ⟨_, rfl⟩
  induction m generalizing xs with
  | zero =>
    have : xs = [] := List.eq_nil_of_length_eq_zero hm.symm
    subst this
    exact ⟨0, by simp, by simp, by simp [by8]⟩
  | succ m ih =>
    rcases List.eq_nil_or_concat xs with rfl | ⟨ys, y, rfl⟩
    · simp at hm
    · obtain ⟨N, h0, h1, h2⟩ := ih ys (fun x hx => h x (by simp [hx])) (by simp at hm; omega)
      obtain ⟨hy0, hy1⟩ := h y (by simp)
      obtain ⟨g0, g1⟩ := put_bound N y (8 * ys.length) 8 h0 h1 hy0 hy1
      refine ⟨N + 2 ^ (8 * ys.length) * y, g0, ?_, ?_⟩
      · simpa [Nat.mul_add] using g1
      · rw [List.concat_eq_append, show (ys ++ [y]).length = ys.length + 1 by simp, by8_succ, by8_put _ _ _ _ (Nat.le_refl _), h2, put_high N y _ h0 h1, Int.emod_eq_of_lt hy0 (by omega)]

/-- Two numbers of one row of bytes are one. -/
theorem by8_inj (N M : Int) (m : Nat) (h0 : 0 ≤ N) (h1 : N < 2 ^ (8 * m)) (g0 : 0 ≤ M) (g1 : M < 2 ^ (8 * m)) (h : by8 N m = by8 M m) : N = M := by
  induction m generalizing N M with
  | zero => simp at h1 g1; omega
  | succ m ih =>
    rw [by8_succ, by8_succ] at h
    obtain ⟨ha, hb⟩ := List.append_inj h (by simp [by8_len])
    have e : ∀ K : Int, 0 ≤ K → K < 2 ^ (8 * (m + 1)) → K = K % 2 ^ (8 * m) + 2 ^ (8 * m) * (K / 2 ^ (8 * m) % 256) := fun K k0 k1 => by
      have := mod_add K (8 * m) 8
      rw [show 8 * m + 8 = 8 * (m + 1) by omega, Int.emod_eq_of_lt k0 k1] at this
      exact this
    have f : ∀ K : Int, 0 ≤ K → K < 2 ^ (8 * (m + 1)) → by8 (K % 2 ^ (8 * m)) m = by8 K m := fun K k0 k1 => by
      conv => rhs; rw [e K k0 k1]
      rw [by8_put _ _ _ _ (Nat.le_refl _)]
    have hN := ih (N % 2 ^ (8 * m)) (M % 2 ^ (8 * m)) (mod_nn _ _) (mod_lt _ _) (mod_nn _ _) (mod_lt _ _) (by rw [f N h0 h1, f M g0 g1, ha])
    have hb' : N / 2 ^ (8 * m) % 256 = M / 2 ^ (8 * m) % 256 := by simpa using hb
    rw [e N h0 h1, e M g0 g1, hN, hb']

end Go.Proofs.YtojgablpjdlegaaGreatDoor

/- And, or, shifts of fixed width, as arithmetic. -/
namespace Go.Proofs.YtojgablpjdlegaaGreatDoor
open Go.RowKit

theorem wraps_i64 (n : Int) (h0 : 0 ≤ n) (h1 : n < 2 ^ 63) : IntKind.i64.wrap n = n := by rw [IntKind.wrap_i64]; omega
theorem wraps_u64 (n : Int) (h0 : 0 ≤ n) (h1 : n < 2 ^ 64) : IntKind.u64.wrap n = n := by
  have e : IntKind.u64.wrap n = n % 18446744073709551616 := by simp [IntKind.wrap, IntKind.bits, IntKind.signed]
  rw [e]; omega

/-- Bits above what there is, by or. -/
theorem or_put (k : IntKind) (j : Nat) (hj : j ≤ k.bits) (hk : ∀ n : Int, 0 ≤ n → n < 2 ^ j → k.wrap n = n) (h m : Nat) (lo x : Int) (l0 : 0 ≤ lo) (l1 : lo < 2 ^ h) (x0 : 0 ≤ x) (x1 : x < 2 ^ m) (hm : h + m ≤ j) :
    bits .or k lo (x * 2 ^ h) = lo + 2 ^ h * x := by
  have hc : bits .or k lo (x * 2 ^ h) = bits .or k (x * 2 ^ h) lo := by simp only [bits, BitVec.or_comm]
  have hb := put_bound 0 x h m (by omega) (p2 h) x0 x1
  have hle := p2_le (h + m) j hm
  have hle2 := p2_le h j (by omega)
  rw [hc, bits_join k j hj hk h _ _ (Int.mul_nonneg x0 (Int.le_of_lt (p2 h))) (Int.mul_emod_left _ _) (by rw [Int.mul_comm]; omega) l0 l1 (by omega)]
  rw [Int.mul_comm, Int.add_comm]

theorem u64_put (h m : Nat) (lo x : Int) (l0 : 0 ≤ lo) (l1 : lo < 2 ^ h) (x0 : 0 ≤ x) (x1 : x < 2 ^ m) (hm : h + m ≤ 63) :
    bits .or .u64 lo (IntKind.u64.wrap (x * 2 ^ h)) = lo + 2 ^ h * x := by
  have hb := put_bound 0 x h m (by omega) (p2 h) x0 x1
  have hle := p2_le (h + m) 63 hm
  have hx : x * 2 ^ h = 2 ^ h * x := Int.mul_comm _ _
  rw [wraps_u64 _ (by omega) (by omega)]
  exact or_put .u64 64 (by decide) wraps_u64 h m lo x l0 l1 x0 x1 (by omega)

theorem i64_put (h m : Nat) (lo x : Int) (l0 : 0 ≤ lo) (l1 : lo < 2 ^ h) (x0 : 0 ≤ x) (x1 : x < 2 ^ m) (hm : h + m ≤ 63) :
    bits .or .i64 lo (wrap64 (x * 2 ^ h)) = lo + 2 ^ h * x := by
  have hb := put_bound 0 x h m (by omega) (p2 h) x0 x1
  have hle := p2_le (h + m) 63 hm
  have hx : x * 2 ^ h = 2 ^ h * x := Int.mul_comm _ _
  have h63 : (2 : Int) ^ 63 = 9223372036854775808 := rfl
  rw [IntWalk.wrap64_in _ (by omega)]
  exact or_put .i64 63 (by decide) wraps_i64 h m lo x l0 l1 x0 x1 (by omega)

theorem or_comm' (k : IntKind) (a b : Int) : bits .or k a b = bits .or k b a := by simp only [bits, BitVec.or_comm]

/-- The lowest n bits of a number of either sign. -/
theorem i64_mask (v : Int) (n : Nat) (hn : n ≤ 24) : bits .and .i64 v (2 ^ n - 1) = v % 2 ^ n := by
  have hp := p2 n
  have hle := p2_le n 24 hn
  have hm : (BitVec.ofInt 64 (2 ^ n - 1)).toNat = 2 ^ n - 1 := by
    have hpos : 0 < 2 ^ n := Nat.two_pow_pos n
    have hle' : 2 ^ n ≤ 2 ^ 24 := Nat.pow_le_pow_right (by decide) hn
    rw [show ((2 : Int) ^ n - 1) = ((2 ^ n - 1 : Nat) : Int) by rw [Int.natCast_sub hpos]; simp, BitVec.ofInt_natCast, BitVec.toNat_ofNat]
    exact Nat.mod_eq_of_lt (by omega)
  have key : (BitVec.ofInt 64 v &&& BitVec.ofInt 64 (2 ^ n - 1)).toNat = (v % ((2 ^ 64 : Nat) : Int)).toNat % 2 ^ n := by
    rw [BitVec.toNat_and, BitVec.toNat_ofInt, hm, Nat.and_two_pow_sub_one_eq_mod]
  show IntKind.i64.wrap ((BitVec.ofInt 64 v &&& BitVec.ofInt 64 (2 ^ n - 1)).toNat : Nat) = v % 2 ^ n
  have e : (((v % ((2 ^ 64 : Nat) : Int)).toNat % 2 ^ n : Nat) : Int) = v % 2 ^ n := by
    rw [Int.natCast_emod, Int.toNat_of_nonneg (Int.emod_nonneg _ (by decide))]
    rw [show (((2 ^ n : Nat)) : Int) = 2 ^ n by simp]
    exact mod_mod v n 64 (by omega)
  have l0 := mod_nn v n
  have l1 := mod_lt v n
  rw [key, e, IntKind.wrap_i64]
  omega

theorem i64_one (v : Int) : bits .and .i64 v 1 = v % 2 := i64_mask v 1 (by decide)

theorem u64_mask (v : Int) (n : Nat) (hn : n ≤ 24) (h0 : 0 ≤ v) (h1 : v < 18446744073709551616) : bits .and .u64 v (2 ^ n - 1) = v % 2 ^ n :=
  bits_mask .u64 64 (by decide) wraps_u64 n (by omega) v h0 h1

theorem u8_one (v : Int) (h0 : 0 ≤ v) (h1 : v < 256) : bits .and .u8 v 1 = v % 2 := bits_mask .u8 8 (by decide) wraps_u8 1 (by decide) v h0 h1

end Go.Proofs.YtojgablpjdlegaaGreatDoor
