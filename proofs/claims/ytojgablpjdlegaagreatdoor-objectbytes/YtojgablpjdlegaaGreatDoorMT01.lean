/- Oca, Ocb, TrA, TrB. -/
import Derived.Test.YtojgablpjdlegaaGreatDoorM19
import Derived.Test.YtojgablpjdlegaaGreatDoorMC01
/- Numbers to base 8, as texts. -/
namespace Go.Proofs.YtojgablpjdlegaaGreatDoor
open Go.RowKit Go.Shelf

/-- A digit's sign. -/
def og (n : Nat) : UInt8 := UInt8.ofNat (48 + n)

/-- The digits of a number to base 8. -/
def ocf : Nat → Nat → List UInt8
  | 0, n => [og n]
  | f + 1, n => if n < 8 then [og n] else ocf f (n / 8) ++ [og (n % 8)]

/-- What they say. -/
def ov (l : List UInt8) : Nat := l.foldl (fun a b => a * 8 + (b.toNat - 48)) 0

theorem og_v (n : Nat) (h : n < 8) : (og n).toNat = 48 + n := by
  unfold og
  rw [UInt8.toNat_ofNat']
  omega

theorem ov_app (l : List UInt8) (b : UInt8) : ov (l ++ [b]) = ov l * 8 + (b.toNat - 48) := by simp [ov]

theorem ov_ocf : ∀ (f n : Nat), n < 8 ^ (f + 1) → ov (ocf f n) = n
  | 0, n, h => by
    have h8 : n < 8 := by simpa using h
    unfold ocf ov
    simp [og_v n h8]
  | f + 1, n, h => by
    unfold ocf
    by_cases h8 : n < 8
    · rw [if_pos h8]
      unfold ov
      simp [og_v n h8]
    · rw [if_neg h8, ov_app, ov_ocf f (n / 8) (by rw [Nat.pow_succ] at h; omega), og_v (n % 8) (by omega)]
      omega

theorem ocf_len : ∀ (f n : Nat), 0 < (ocf f n).length ∧ (ocf f n).length ≤ f + 1
  | 0, n => by unfold ocf; simp
  | f + 1, n => by
    unfold ocf
    have := ocf_len f (n / 8)
    by_cases h8 : n < 8
    · rw [if_pos h8]; simp
    · rw [if_neg h8]; simp; omega

theorem ocf_no45 : ∀ (f n : Nat), n < 8 ^ (f + 1) → ∀ b ∈ ocf f n, 48 ≤ b.toNat ∧ b.toNat < 56
  | 0, n, h, b, hb => by
    have h8 : n < 8 := by simpa using h
    unfold ocf at hb
    rw [List.mem_singleton] at hb
    rw [hb, og_v n h8]
    omega
  | f + 1, n, h, b, hb => by
    unfold ocf at hb
    by_cases h8 : n < 8
    · rw [if_pos h8, List.mem_singleton] at hb
      rw [hb, og_v n h8]
      omega
    · rw [if_neg h8, List.mem_append, List.mem_singleton] at hb
      rcases hb with hb | rfl
      · exact ocf_no45 f (n / 8) (by rw [Nat.pow_succ] at h; omega) b hb
      · rw [og_v (n % 8) (by omega)]
        omega

/-- A number's digits to base 8, with its sign. -/
def oct (m : Int) : List UInt8 := if m < 0 then 45 :: ocf 22 m.natAbs else ocf 22 m.natAbs

theorem oct_inj (a b : Int) (ha : a.natAbs < 8 ^ 23) (hb : b.natAbs < 8 ^ 23) (h : oct a = oct b) : a = b := by
  unfold oct at h
  have la := (ocf_len 22 a.natAbs).1
  have lb := (ocf_len 22 b.natAbs).1
  have na := ocf_no45 22 a.natAbs ha
  have nb := ocf_no45 22 b.natAbs hb
  have va := ov_ocf 22 a.natAbs ha
  have vb := ov_ocf 22 b.natAbs hb
  have no : ∀ l : List UInt8, 0 < l.length → (∀ x ∈ l, 48 ≤ x.toNat ∧ x.toNat < 56) → ∀ r, l ≠ 45 :: r := by
    rintro l _ hl r rfl
    have := (hl 45 (by simp)).1
    exact absurd this (by decide)
  by_cases h1 : a < 0 <;> by_cases h2 : b < 0
  · rw [if_pos h1, if_pos h2] at h
    injection h with _ h
    rw [h, vb] at va
    omega
  · rw [if_pos h1, if_neg h2] at h
    exact absurd h.symm (no _ lb nb _)
  · rw [if_neg h1, if_pos h2] at h
    exact absurd h (no _ la na _)
  · rw [if_neg h1, if_neg h2] at h
    rw [h, vb] at va
    omega

end Go.Proofs.YtojgablpjdlegaaGreatDoor

/- A number to base 8: the library's bits. -/
namespace Go.Proofs.YtojgablpjdlegaaGreatDoor
open Go.RowKit Go.Shelf

set_option maxRecDepth 100000 in
theorem tz64_8 (w : World) (h : w.cell? ⟨9, 7, none⟩ = some (.int .u8 3)) : Calls Tryz.prog 199 #[.int .u64 8] w fun e w' => e = .returned (.int .i64 3) ∧ w' = w := by
  have e1 : IntKind.u64.wrap (-8) = 18446744073709551608 := by decide +kernel
  have e2 : bits BinOp.and IntKind.u64 8 18446744073709551608 = 8 := by decide +kernel
  have e3 : IntKind.u64.wrap 2286961704410830920 = 2286961704410830920 := by decide +kernel
  go_enter Tryz.func199, Tryz.ntmps199
  go_wp2_with fail
  go_ret
  exact ⟨rfl, rfl⟩

set_option maxRecDepth 100000 in
theorem tz_8 (w : World) (h : w.cell? ⟨9, 7, none⟩ = some (.int .u8 3)) : Calls Tryz.prog 172 #[.int .u64 8] w fun e w' => e = .returned (.int .i64 3) ∧ w' = w := by
  have ht := tz64_8 w h
  go_enter Tryz.func172, Tryz.ntmps172
  go_wp2_with fail
  refine ht.mono ?_
  rintro e w1 ⟨rfl, hw⟩
  subst hw
  go_wp2
  go_ret
  exact ⟨rfl, rfl⟩

set_option maxRecDepth 100000 in
theorem pow2_8 (w : World) : Calls Tryz.prog 171 #[.int .i64 8] w fun e w' => e = .returned (.bool true) ∧ w' = w := by
  have e1 : bits BinOp.and IntKind.i64 8 7 = 0 := by decide +kernel
  go_enter Tryz.func171, Tryz.ntmps171
  go_wp2
  go_ret
  exact ⟨rfl, rfl⟩

/-- The digits that the library reads. -/
abbrev dgs : Value := .string { data := #[48, 49, 50, 51, 52, 53, 54, 55, 56, 57, 97, 98, 99, 100, 101, 102, 103, 104, 105, 106, 107, 108, 109, 110, 111, 112, 113, 114, 115, 116, 117, 118, 119, 120, 121, 122] }

theorem dgs_at (n : Nat) (h : n < 8) (w : World) : (Instr.index 9 dgs (.int .u64 (n : Int))).run Tryz.prog w = .ok (.int .u8 ((og n).toNat : Int)) w := by
  rcases (by omega : n = 0 ∨ n = 1 ∨ n = 2 ∨ n = 3 ∨ n = 4 ∨ n = 5 ∨ n = 6 ∨ n = 7) with rfl | rfl | rfl | rfl | rfl | rfl | rfl | rfl <;> kernel_rfl

theorem and7 (u : Nat) : bits BinOp.and IntKind.u64 (u : Int) 7 = ((u % 8 : Nat) : Int) := by
  have key : (BitVec.ofInt 64 (u : Int) &&& BitVec.ofInt 64 7).toNat = u % 8 := by
    rw [BitVec.toNat_and, BitVec.ofInt_natCast, BitVec.toNat_ofNat, show (BitVec.ofInt 64 7).toNat = 2 ^ 3 - 1 from rfl, Nat.and_two_pow_sub_one_eq_mod]
    omega
  show IntKind.u64.wrap ((BitVec.ofInt 64 (u : Int) &&& BitVec.ofInt 64 7).toNat : Nat) = _
  rw [key, IntKind.wrap_u64]
  omega

theorem zero234 (w : World) : (zeroValue 234).run Tryz.prog w = .ok (row (fun _ => .int .u8 0) 65) w := by kernel_rfl

theorem run_sl234 (b i : Nat) (h : i < 65) (w : World) : (Instr.sliceAt 234 (.pointer (some ⟨b, 0, none⟩)) (some (.int .i64 (i : Int))) none none).run Tryz.prog w = .ok (.slice (some ⟨b, i, none⟩) (65 - i) (65 - i)) w := by
  have hz : ∀ w, (sizeOf 5).run Tryz.prog w = .ok 1 w := fun w => by simp [go_sem]
  have e2 : 0 ≤ (i : Int) ∧ (i : Int) ≤ ((65 : Nat) : Int) := by omega
  unfold Instr.sliceAt Instr.slice Instr.sliceBounds
  simp [go_sem, hz, e2, Addr.add_lit]
  rw [if_pos (by omega), if_neg (by omega)]

theorem rd_row {w : World} {b : Nat} {g : Nat → Value} (h : w.rowIs b 234 65 g) (i : Nat) (L : List UInt8) (hl : i + L.length = 65) (hg : ∀ j, (h : j < L.length) → g (i + j) = .int .u8 ((L[j]'h).toNat : Int)) : Rd w (some ⟨b, i, none⟩) (65 - i) (65 - i) (tn L) := by
  refine ⟨by rw [tn_len]; omega, Nat.le_refl _, (fun e => by cases e), fun ad had j hj => ?_, tn_byt L⟩
  cases had
  have hjl : j < L.length := by omega
  rw [Addr.add_lit, h.cell (i := i + j) (by omega), hg j hjl]
  congr 2
  unfold tn
  rw [List.getD, List.getElem?_map, List.getElem?_eq_getElem hjl]
  rfl

set_option maxRecDepth 100000 in
set_option maxHeartbeats 4000000 in
theorem fbits (n : Nat) (hn : n ≤ 9223372036854775808) (U : Int) (neg : Bool) (hU : (if neg = true then IntKind.u64.wrap (-U) else U) = n) (w : World) (h9 : w.cell? ⟨9, 7, none⟩ = some (.int .u8 3)) :
    Calls Tryz.prog 139 #[.slice none 0 0, .int .u64 U, .int .i64 8, .bool neg, .bool false] w fun e w' => e = .returned (.tuple #[.slice none 0 0, sv (if neg = true then 45 :: ocf 22 n else ocf 22 n)]) ∧ Below w.heap.size w w' := by
  have hz := zero234
  obtain ⟨W, hW⟩ : ∃ W, W = w.alloc (Obj.cells (vals (fun _ => Value.int .u8 0) 65).toArray 234) := ⟨_, rfl⟩
  have bW : Below w.heap.size w W := by rw [hW]; exact new_below _ _
  have rW : W.rowIs w.heap.size 234 65 (fun _ => .int .u8 0) := by rw [hW]; exact rowIs_vals _ _ _ _
  have h9W : W.cell? ⟨9, 7, none⟩ = some (.int .u8 3) := cell_keep h9 bW
  have HB : Hid (Below w.heap.size w W) := bW
  have HR : Hid (W.rowIs w.heap.size 234 65 (fun _ => .int .u8 0)) := rW
  have HW : Hid (W = w.alloc (Obj.cells (vals (fun _ => Value.int .u8 0) 65).toArray 234)) := hW
  have HT : Hid (Calls Tryz.prog 172 #[.int .u64 8] W fun e w' => e = .returned (.int .i64 3) ∧ w' = W) := tz_8 W h9W
  have HP : Hid (Calls Tryz.prog 171 #[.int .i64 8] W fun e w' => e = .returned (.bool true) ∧ w' = W) := pow2_8 W
  have HN : Hid (n ≤ 9223372036854775808) := hn
  have HU : Hid ((if neg = true then IntKind.u64.wrap (-U) else U) = n) := hU
  clear bW rW h9W hW h9 hn hU
  go_enter Tryz.func139, Tryz.ntmps139
  cases neg with
  | false =>
    have hU2 : U = (n : Int) := HU.out
    subst hU2
    go_wp2_with fail
    rw [← HW.out]
    refine (show Calls Tryz.prog 171 #[.int .i64 8] W _ from HP.out).mono ?_
    rintro e w1 ⟨rfl, hw1⟩
    subst w1
    go_wp2_with fail
    refine (show Calls Tryz.prog 172 #[.int .u64 8] W _ from HT.out).mono ?_
    rintro e w1 ⟨rfl, hw1⟩
    subst w1
    go_wp2_with fail
    go_loopw [1, 13] (fun s1 s13 wr => ∃ (u f i : Nat) (done : List UInt8) (g : Nat → Value), s1 = .int .u64 (u : Int) ∧ s13 = .int .i64 (i : Int) ∧ Hid (u < 8 ^ (f + 1) ∧ u ≤ n) ∧ Hid (ocf 22 n = ocf f u ++ done) ∧ Hid (i = 43 + f ∧ f + done.length = 22) ∧ Hid (wr.rowIs w.heap.size 234 65 g) ∧ Hid (∀ j, (h : j < done.length) → g (i + j) = .int .u8 ((done[j]'h).toNat : Int)) ∧ Hid (Fr (fun k => k = w.heap.size) W wr)) (fun s1 _ _ => (intOf s1).toNat)
    case atStart => exact ⟨n, 22, 65, [], _, rfl, rfl, ⟨by have := HN.out; omega, Nat.le_refl _⟩, by show _ = _; simp, ⟨rfl, rfl⟩, HR, fun j h => absurd h (by simp), Fr.refl _ _⟩
    case round =>
      obtain ⟨u, f, i, done, g, rfl, rfl, HUF, HO, HI, HRW, HD, HF⟩ := hrel
      by_cases h8 : 8 ≤ u
      · have d1 : decide ((8 : Int) ≤ (u : Int)) = true := by simp; omega
        have d2 : decide (8 ≤ u) = true := by simp; omega
        have d3 : (8 : Int) ≤ (u : Int) := by omega
        obtain ⟨f1, rfl⟩ : ∃ f1, f = f1 + 1 := ⟨f - 1, by
          have h := HUF.out.1
          cases f with
          | zero => simp at h; omega
          | succ f => rfl⟩
        obtain ⟨i1, rfl⟩ : ∃ i1, i = i1 + 1 := ⟨i - 1, by have := HI.out.1; omega⟩
        have hI := HI.out
        have y1 : ((i1 + 1 : Nat) : Int) - 1 = (i1 : Int) := by omega
        have y1' : (i1 : Int) + 1 - 1 = (i1 : Int) := by omega
        have y2 : IntKind.i64.wrap (i1 : Int) = (i1 : Int) := wraps_i64 _ (by omega) (by omega)
        have y3 : i1 < 65 := by omega
        have y4 : (i1 : Int) < 65 := by omega
        have hnd := and7 u
        have hix := dgs_at (u % 8) (Nat.mod_lt _ (by omega))
        have hc := HRW.out.cell (i := i1) y3
        have hz1 := World.rowIs.frozen HRW.out i1
        obtain ⟨r, hr⟩ : ∃ r, r = u % 8 := ⟨_, rfl⟩
        rw [← hr] at hnd hix
        have HRR : Hid (r = u % 8) := hr
        obtain ⟨v, hv⟩ : ∃ v, v = og r := ⟨_, rfl⟩
        rw [← hv] at hix
        have HVV : Hid (v = og r) := hv
        clear hr hv hI
        go_wp2_with fail
        have hu8 : (u : Int) / 8 = ((u / 8 : Nat) : Int) := by omega
        refine ⟨⟨u / 8, f1, i1, v :: done, fun j => if j = i1 then .int .u8 (v.toNat : Int) else g j, by rw [hu8], rfl, ⟨by have h := HUF.out.1; rw [Nat.pow_succ] at h; omega, by have := HUF.out.2; omega⟩, ?_, ?_, set_row HRW.out i1 _ (fun _ _ => rfl), fun j h => ?_, HF.out.trans (set_fr _ _ _ _) (fun _ _ h => h)⟩, by rw [hu8]; simp [intOf]; omega⟩
        · show _ = _
          rw [HO.out]
          conv => lhs; unfold ocf
          rw [if_neg (by omega), List.append_assoc, HVV.out, HRR.out]
          rfl
        · have h := HI.out
          exact ⟨by omega, by simp; omega⟩
        · have hd := HD.out
          cases j with
          | zero => simp
          | succ j =>
            have h1 : j < done.length := by simpa using h
            have := hd j h1
            rw [show i1 + 1 + j = i1 + (j + 1) by omega] at this
            show (if i1 + (j + 1) = i1 then _ else _) = _
            rw [if_neg (by omega), this]
            rfl
      · have d1 : decide ((8 : Int) ≤ (u : Int)) = false := by simp; omega
        have d2 : decide (8 ≤ u) = false := by simp; omega
        have d3 : ¬ (8 : Int) ≤ (u : Int) := by omega
        obtain ⟨i1, rfl⟩ : ∃ i1, i = i1 + 1 := ⟨i - 1, by have := HI.out.1; omega⟩
        have hI := HI.out
        have y1 : ((i1 + 1 : Nat) : Int) - 1 = (i1 : Int) := by omega
        have y1' : (i1 : Int) + 1 - 1 = (i1 : Int) := by omega
        have y2 : IntKind.i64.wrap (i1 : Int) = (i1 : Int) := wraps_i64 _ (by omega) (by omega)
        have y3 : i1 < 65 := by omega
        have y4 : (i1 : Int) < 65 := by omega
        have hix := dgs_at u (by omega)
        have hc := HRW.out.cell (i := i1) y3
        have hz1 := World.rowIs.frozen HRW.out i1
        obtain ⟨v, hv⟩ : ∃ v, v = og u := ⟨_, rfl⟩
        rw [← hv] at hix
        have HL : Hid (ocf 22 n = v :: done) := by
          show _ = _
          rw [HO.out, hv]
          cases f with
          | zero => rfl
          | succ f =>
            unfold ocf
            rw [if_pos (by omega)]
            rfl
        have hr1 := set_row HRW.out i1 (.int .u8 (v.toNat : Int)) (g := fun j => if j = i1 then .int .u8 (v.toNat : Int) else g j) (fun _ _ => rfl)
        have hg1 : ∀ j, (h : j < (v :: done).length) → (fun j => if j = i1 then Value.int .u8 (v.toNat : Int) else g j) (i1 + j) = .int .u8 (((v :: done)[j]'h).toNat : Int) := fun j h => by
          cases j with
          | zero => simp
          | succ j =>
            have h1 : j < done.length := by simpa using h
            have := HD.out j h1
            rw [show i1 + 1 + j = i1 + (j + 1) by omega] at this
            show (if i1 + (j + 1) = i1 then _ else _) = _
            rw [if_neg (by omega), this]
            rfl
        have hrd := rd_row hr1 i1 (v :: done) (by simp; omega) hg1
        have hcv := hrd.str
        rw [tb_sv, tb_tn] at hcv
        have HF1 : Hid (Fr (fun k => k = w.heap.size) W (wr.setCell ⟨w.heap.size, i1, none⟩ (.int .u8 (v.toNat : Int)))) := HF.out.trans (set_fr _ _ _ _) (fun _ _ h => h)
        have hsl := run_sl234 w.heap.size i1 (by omega)
        clear hv hI hr1 hg1 hrd
        go_wp2_with fail
        go_ret2
        refine ⟨?_, HB.out.trans (HF1.out.below _ HB.out.size (fun i hi e => by omega))⟩
        rw [HL.out]
        rfl
  | true =>
    have hU2 : IntKind.u64.wrap (-U) = (n : Int) := HU.out
    go_wp2_with fail
    rw [← HW.out]
    refine (show Calls Tryz.prog 171 #[.int .i64 8] W _ from HP.out).mono ?_
    rintro e w1 ⟨rfl, hw1⟩
    subst w1
    go_wp2_with fail
    refine (show Calls Tryz.prog 172 #[.int .u64 8] W _ from HT.out).mono ?_
    rintro e w1 ⟨rfl, hw1⟩
    subst w1
    go_wp2_with fail
    go_loopw [1, 13] (fun s1 s13 wr => ∃ (u f i : Nat) (done : List UInt8) (g : Nat → Value), s1 = .int .u64 (u : Int) ∧ s13 = .int .i64 (i : Int) ∧ Hid (u < 8 ^ (f + 1) ∧ u ≤ n) ∧ Hid (ocf 22 n = ocf f u ++ done) ∧ Hid (i = 43 + f ∧ f + done.length = 22) ∧ Hid (wr.rowIs w.heap.size 234 65 g) ∧ Hid (∀ j, (h : j < done.length) → g (i + j) = .int .u8 ((done[j]'h).toNat : Int)) ∧ Hid (Fr (fun k => k = w.heap.size) W wr)) (fun s1 _ _ => (intOf s1).toNat)
    case atStart => exact ⟨n, 22, 65, [], _, rfl, rfl, ⟨by have := HN.out; omega, Nat.le_refl _⟩, by show _ = _; simp, ⟨rfl, rfl⟩, HR, fun j h => absurd h (by simp), Fr.refl _ _⟩
    case round =>
      obtain ⟨u, f, i, done, g, rfl, rfl, HUF, HO, HI, HRW, HD, HF⟩ := hrel
      by_cases h8 : 8 ≤ u
      · have d1 : decide ((8 : Int) ≤ (u : Int)) = true := by simp; omega
        have d2 : decide (8 ≤ u) = true := by simp; omega
        have d3 : (8 : Int) ≤ (u : Int) := by omega
        obtain ⟨f1, rfl⟩ : ∃ f1, f = f1 + 1 := ⟨f - 1, by
          have h := HUF.out.1
          cases f with
          | zero => simp at h; omega
          | succ f => rfl⟩
        obtain ⟨i1, rfl⟩ : ∃ i1, i = i1 + 1 := ⟨i - 1, by have := HI.out.1; omega⟩
        have hI := HI.out
        have y1 : ((i1 + 1 : Nat) : Int) - 1 = (i1 : Int) := by omega
        have y1' : (i1 : Int) + 1 - 1 = (i1 : Int) := by omega
        have y2 : IntKind.i64.wrap (i1 : Int) = (i1 : Int) := wraps_i64 _ (by omega) (by omega)
        have y3 : i1 < 65 := by omega
        have y4 : (i1 : Int) < 65 := by omega
        have hnd := and7 u
        have hix := dgs_at (u % 8) (Nat.mod_lt _ (by omega))
        have hc := HRW.out.cell (i := i1) y3
        have hz1 := World.rowIs.frozen HRW.out i1
        obtain ⟨r, hr⟩ : ∃ r, r = u % 8 := ⟨_, rfl⟩
        rw [← hr] at hnd hix
        have HRR : Hid (r = u % 8) := hr
        obtain ⟨v, hv⟩ : ∃ v, v = og r := ⟨_, rfl⟩
        rw [← hv] at hix
        have HVV : Hid (v = og r) := hv
        clear hr hv hI
        go_wp2_with fail
        have hu8 : (u : Int) / 8 = ((u / 8 : Nat) : Int) := by omega
        refine ⟨⟨u / 8, f1, i1, v :: done, fun j => if j = i1 then .int .u8 (v.toNat : Int) else g j, by rw [hu8], rfl, ⟨by have h := HUF.out.1; rw [Nat.pow_succ] at h; omega, by have := HUF.out.2; omega⟩, ?_, ?_, set_row HRW.out i1 _ (fun _ _ => rfl), fun j h => ?_, HF.out.trans (set_fr _ _ _ _) (fun _ _ h => h)⟩, by rw [hu8]; simp [intOf]; omega⟩
        · show _ = _
          rw [HO.out]
          conv => lhs; unfold ocf
          rw [if_neg (by omega), List.append_assoc, HVV.out, HRR.out]
          rfl
        · have h := HI.out
          exact ⟨by omega, by simp; omega⟩
        · have hd := HD.out
          cases j with
          | zero => simp
          | succ j =>
            have h1 : j < done.length := by simpa using h
            have := hd j h1
            rw [show i1 + 1 + j = i1 + (j + 1) by omega] at this
            show (if i1 + (j + 1) = i1 then _ else _) = _
            rw [if_neg (by omega), this]
            rfl
      · have d1 : decide ((8 : Int) ≤ (u : Int)) = false := by simp; omega
        have d2 : decide (8 ≤ u) = false := by simp; omega
        have d3 : ¬ (8 : Int) ≤ (u : Int) := by omega
        obtain ⟨i1, rfl⟩ : ∃ i1, i = i1 + 1 := ⟨i - 1, by have := HI.out.1; omega⟩
        have hI := HI.out
        have y1 : ((i1 + 1 : Nat) : Int) - 1 = (i1 : Int) := by omega
        have y1' : (i1 : Int) + 1 - 1 = (i1 : Int) := by omega
        have y2 : IntKind.i64.wrap (i1 : Int) = (i1 : Int) := wraps_i64 _ (by omega) (by omega)
        have y3 : i1 < 65 := by omega
        have y4 : (i1 : Int) < 65 := by omega
        have hix := dgs_at u (by omega)
        have hc := HRW.out.cell (i := i1) y3
        have hz1 := World.rowIs.frozen HRW.out i1
        obtain ⟨v, hv⟩ : ∃ v, v = og u := ⟨_, rfl⟩
        rw [← hv] at hix
        have HL : Hid (ocf 22 n = v :: done) := by
          show _ = _
          rw [HO.out, hv]
          cases f with
          | zero => rfl
          | succ f =>
            unfold ocf
            rw [if_pos (by omega)]
            rfl
        have hr1 := set_row HRW.out i1 (.int .u8 (v.toNat : Int)) (g := fun j => if j = i1 then .int .u8 (v.toNat : Int) else g j) (fun _ _ => rfl)
        have hg1 : ∀ j, (h : j < (v :: done).length) → (fun j => if j = i1 then Value.int .u8 (v.toNat : Int) else g j) (i1 + j) = .int .u8 (((v :: done)[j]'h).toNat : Int) := fun j h => by
          cases j with
          | zero => simp
          | succ j =>
            have h1 : j < done.length := by simpa using h
            have := HD.out j h1
            rw [show i1 + 1 + j = i1 + (j + 1) by omega] at this
            show (if i1 + (j + 1) = i1 then _ else _) = _
            rw [if_neg (by omega), this]
            rfl
        obtain ⟨i2, rfl⟩ : ∃ i2, i1 = i2 + 1 := ⟨i1 - 1, by omega⟩
        have y5 : ((i2 + 1 : Nat) : Int) - 1 = (i2 : Int) := by omega
        have y5' : (i2 : Int) + 1 - 1 = (i2 : Int) := by omega
        have y6 : IntKind.i64.wrap (i2 : Int) = (i2 : Int) := wraps_i64 _ (by omega) (by omega)
        have y7 : i2 < 65 := by omega
        have y8 : (i2 : Int) < 65 := by omega
        have hc2 := hr1.cell (i := i2) y7
        have hz2 := World.rowIs.frozen hr1 i2
        have hr2 := set_row hr1 i2 (.int .u8 45) (g := fun j => if j = i2 then .int .u8 45 else if j = i2 + 1 then .int .u8 (v.toNat : Int) else g j) (fun _ _ => rfl)
        have hrd := rd_row hr2 i2 (45 :: v :: done) (by simp; omega) (fun j h => by
          cases j with
          | zero => simp
          | succ j =>
            have h1 : j < (v :: done).length := by simpa using h
            have := hg1 j h1
            show (if i2 + (j + 1) = i2 then _ else _) = _
            rw [if_neg (by omega), show i2 + (j + 1) = i2 + 1 + j by omega]
            exact this)
        have hcv := hrd.str
        rw [tb_sv, tb_tn] at hcv
        have HF1 : Hid (Fr (fun k => k = w.heap.size) W ((wr.setCell ⟨w.heap.size, i2 + 1, none⟩ (.int .u8 (v.toNat : Int))).setCell ⟨w.heap.size, i2, none⟩ (.int .u8 45))) := (HF.out.trans (set_fr _ _ _ _) (fun _ _ h => h)).trans (set_fr _ _ _ _) (fun _ _ h => h)
        have hsl := run_sl234 w.heap.size i2 (by omega)
        clear hv hI hr1 hg1 hr2 hrd
        go_wp2_with fail
        go_ret2
        refine ⟨?_, HB.out.trans (HF1.out.below _ HB.out.size (fun i hi e => by omega))⟩
        rw [HL.out]
        rfl

/-- FormatInt to base 8, of any number. -/
theorem fmt_any (m : Int) (h0 : -9223372036854775808 ≤ m) (h1 : m ≤ 9223372036854775807) (w : World) (h9 : w.cell? ⟨9, 7, none⟩ = some (.int .u8 3)) :
    Calls Tryz.prog 104 #[.int .i64 m, .int .i64 8] w fun e w' => e = .returned (sv (oct m)) ∧ Below w.heap.size w w' := by
  unfold oct
  by_cases hm : m < 0
  · have d1 : decide (m < 0) = true := by simp [hm]
    have hf := fbits m.natAbs (by omega) (IntKind.u64.wrap m) true (by rw [if_pos rfl, IntKind.wrap_u64, IntKind.wrap_u64]; omega) w h9
    rw [if_pos rfl] at hf
    rw [if_pos hm]
    clear h0 h1
    go_enter Tryz.func104, Tryz.ntmps104
    go_wp2_with fail
    refine hf.mono ?_
    rintro e w1 ⟨rfl, b1⟩
    have HB1 : Hid (Below w.heap.size w w1) := b1
    clear hf b1
    go_wp2
    go_ret
    exact ⟨rfl, HB1.out⟩
  · have d1 : decide (m < 0) = false := by simp; omega
    have hf := fbits m.natAbs (by omega) (IntKind.u64.wrap m) false (by rw [if_neg (by decide), IntKind.wrap_u64]; omega) w h9
    rw [if_neg (by decide)] at hf
    rw [if_neg hm]
    clear h0 h1
    go_enter Tryz.func104, Tryz.ntmps104
    go_wp2_with fail
    refine hf.mono ?_
    rintro e w1 ⟨rfl, b1⟩
    have HB1 : Hid (Below w.heap.size w w1) := b1
    clear hf b1
    go_wp2
    go_ret
    exact ⟨rfl, HB1.out⟩

theorem fmt2_any (m : Int) (h0 : -9223372036854775808 ≤ m) (h1 : m ≤ 9223372036854775807) (w : World) (h9 : w.cell? ⟨9, 7, none⟩ = some (.int .u8 3)) :
    Calls Tryz.prog 99 #[.int .i64 m, .int .i64 8] w fun e w' => e = .returned (sv (oct m)) ∧ Below w.heap.size w w' := by
  have hf := fmt_any m h0 h1 w h9
  clear h0 h1
  go_enter Tryz.func99, Tryz.ntmps99
  go_wp2_with fail
  refine hf.mono ?_
  rintro e w1 ⟨rfl, b1⟩
  have HB1 : Hid (Below w.heap.size w w1) := b1
  clear hf b1
  go_wp2
  go_ret
  exact ⟨rfl, HB1.out⟩

theorem octal_any (m : Int) (h0 : -9223372036854775808 ≤ m) (h1 : m ≤ 9223372036854775807) (w : World) (h9 : w.cell? ⟨9, 7, none⟩ = some (.int .u8 3)) :
    Calls Tryz.prog 65 #[.int .i64 m] w fun e w' => e = .returned (sv (oct m)) ∧ Below w.heap.size w w' := by
  have hf := fmt2_any m h0 h1 w h9
  clear h0 h1
  go_enter Tryz.func65, Tryz.ntmps65
  go_wp2_with fail
  refine hf.mono ?_
  rintro e w1 ⟨rfl, b1⟩
  have HB1 : Hid (Below w.heap.size w w1) := b1
  clear hf b1
  go_wp2
  go_ret
  exact ⟨rfl, HB1.out⟩

end Go.Proofs.YtojgablpjdlegaaGreatDoor

/- The modes: which they are, by their digits. -/
namespace Go.Proofs.YtojgablpjdlegaaGreatDoor
open Go.RowKit Go.Shelf

/-- The modes' table. -/
def mdv (k : Nat) : Int := if k = 0 then 16384 else if k = 1 then 33188 else if k = 2 then 33261 else if k = 3 then 40960 else 57344

/-- What the tree's functions read besides. -/
structure Ts (w : World) : Prop where
  gs : Gs w
  md : ∀ k : Nat, k < 5 → w.cell? ⟨2, k, none⟩ = some (.int .i64 (mdv k))
  db : w.cell? ⟨9, 7, none⟩ = some (.int .u8 3)

theorem Ts.keep {w w' : World} (h : Ts w) (hb : Below w.heap.size w w') : Ts w' :=
  ⟨h.gs.keep hb, fun k hk => cell_keep (h.md k hk) hb, cell_keep h.db hb⟩

/-- A mode? -/
def isM (m : Int) : Bool := m == 16384 || m == 33188 || m == 33261 || m == 40960 || m == 57344

/-- The mode that has the digits. -/
def mdo (l : List UInt8) : Int := if oct 16384 = l then 16384 else if oct 33188 = l then 33188 else if oct 33261 = l then 33261 else if oct 40960 = l then 40960 else if oct 57344 = l then 57344 else 0

theorem mdo_hit (l : List UInt8) (k : Nat) (hk : k < 5) (h : ∀ j, j < k → oct (mdv j) ≠ l) (he : oct (mdv k) = l) : mdo l = mdv k := by
  have h0 := h 0
  have h1 := h 1
  have h2 := h 2
  have h3 := h 3
  unfold mdo
  rcases (by omega : k = 0 ∨ k = 1 ∨ k = 2 ∨ k = 3 ∨ k = 4) with rfl | rfl | rfl | rfl | rfl
  · exact if_pos he
  · rw [if_neg (show oct 16384 ≠ l from h0 (by omega))]; exact if_pos he
  · rw [if_neg (show oct 16384 ≠ l from h0 (by omega)), if_neg (show oct 33188 ≠ l from h1 (by omega))]; exact if_pos he
  · rw [if_neg (show oct 16384 ≠ l from h0 (by omega)), if_neg (show oct 33188 ≠ l from h1 (by omega)), if_neg (show oct 33261 ≠ l from h2 (by omega))]; exact if_pos he
  · rw [if_neg (show oct 16384 ≠ l from h0 (by omega)), if_neg (show oct 33188 ≠ l from h1 (by omega)), if_neg (show oct 33261 ≠ l from h2 (by omega)), if_neg (show oct 40960 ≠ l from h3 (by omega))]; exact if_pos he

theorem mdo_none (l : List UInt8) (h : ∀ j, j < 5 → oct (mdv j) ≠ l) : mdo l = 0 := by
  unfold mdo
  rw [if_neg (show oct 16384 ≠ l from h 0 (by omega)), if_neg (show oct 33188 ≠ l from h 1 (by omega)), if_neg (show oct 33261 ≠ l from h 2 (by omega)), if_neg (show oct 40960 ≠ l from h 3 (by omega)), if_neg (show oct 57344 ≠ l from h 4 (by omega))]

theorem mdo_oct (m : Int) (h0 : -9223372036854775808 ≤ m) (h1 : m ≤ 9223372036854775807) : mdo (oct m) = if isM m = true then m else 0 := by
  have hm : m.natAbs < 8 ^ 23 := by omega
  have key : ∀ c : Int, c.natAbs < 8 ^ 23 → (oct c = oct m ↔ c = m) := fun c hc => ⟨oct_inj c m hc hm, fun e => by rw [e]⟩
  unfold mdo isM
  simp only [key 16384 (by decide), key 33188 (by decide), key 33261 (by decide), key 40960 (by decide), key 57344 (by decide)]
  by_cases e0 : (16384 : Int) = m
  · subst e0; simp
  by_cases e1 : (33188 : Int) = m
  · subst e1; simp
  by_cases e2 : (33261 : Int) = m
  · subst e2; simp
  by_cases e3 : (40960 : Int) = m
  · subst e3; simp
  by_cases e4 : (57344 : Int) = m
  · subst e4; simp
  · rw [if_neg e0, if_neg e1, if_neg e2, if_neg e3, if_neg e4, if_neg]
    simp
    omega

theorem run_modes (w : World) (h : Ts w) : (loadVar 221 ⟨2, 0, none⟩).run Tryz.prog w = .ok (row (fun k => .int .i64 (mdv k)) 5) w := by
  refine run_loadVar_mid w 2 0 221 (vals (fun k => .int .i64 (mdv k)) 5) (.array 5 3) (fun j v hv => ?_) Tryz.underlying221 rfl (by rw [vals_len]; kernel_rfl)
  have hj : j < 5 := by
    have := (List.getElem?_eq_some_iff.1 hv).1
    rwa [vals_len] at this
  rw [vals_get _ _ _ hj] at hv
  cases hv
  rw [Nat.zero_add]
  exact h.md j hj

theorem mode_at (k : Nat) (h : k < 5) (w : World) : (Instr.index 221 (row (fun k => .int .i64 (mdv k)) 5) (.int .i64 (k : Int))).run Tryz.prog w = .ok (.int .i64 (mdv k)) w :=
  run_index_row 221 3 5 .i64 _ k h Tryz.underlying221 (fun w => by simp [go_sem]) (fun w => by simp [go_sem]) w

set_option maxRecDepth 100000 in
set_option maxHeartbeats 2000000 in
theorem modeOf_any (l : List UInt8) (w : World) (h : Ts w) : Calls Tryz.prog 124 #[sv l] w fun e w' => e = .returned (.int .i64 (mdo l)) ∧ Below w.heap.size w w' := by
  have hl := run_modes w h
  have HT : Hid (∀ V, Below w.heap.size w V → Ts V) := fun V hV => h.keep hV
  obtain ⟨R, hR⟩ : ∃ R : Array Value, Value.agg R = row (fun k => .int .i64 (mdv k)) 5 := ⟨_, rfl⟩
  have HIX : Hid (∀ k : Nat, k < 5 → ∀ w, (Instr.index 221 (.agg R) (.int .i64 (k : Int))).run Tryz.prog w = .ok (.int .i64 (mdv k)) w) := fun k hk w => by rw [hR]; exact mode_at k hk w
  obtain ⟨M, hM⟩ : ∃ M, M = mdo l := ⟨_, rfl⟩
  have HM : Hid (M = mdo l) := hM
  rw [← hR] at hl
  rw [← hM]
  clear h hR hM
  go_enter Tryz.func124, Tryz.ntmps124
  go_wp2_with (refine wpList_ldv rfl 221 _ rfl ⟨2, 0, none⟩ rfl (.agg R) hl ?_)
  clear hl
  go_loopw [6, 4] (fun s6 s4 wr => ∃ k : Nat, s6 = .int .i64 (k : Int) ∧ k ≤ 5 ∧ Hid (∀ j, j < k → oct (mdv j) ≠ l) ∧ Hid (Below w.heap.size w wr)) (fun s6 _ _ => 5 - (intOf s6).toNat)
  case atStart => exact ⟨0, rfl, by omega, fun j hj => absurd hj (by omega), Below.refl _ _⟩
  case round =>
    obtain ⟨k, rfl, hk5, HK, HB⟩ := hrel
    by_cases hk : k < 5
    · have d1 : decide ((k : Int) < 5) = true := by simp; omega
      have d2 : (k : Int) < 5 := by omega
      have hix := HIX.out k hk
      have hwk : IntKind.i64.wrap ((k : Int) + 1) = (k : Int) + 1 := by rw [IntKind.wrap_i64]; omega
      have hmb : -9223372036854775808 ≤ mdv k ∧ mdv k ≤ 9223372036854775807 := by
        unfold mdv
        repeat' split
        all_goals decide
      have hoc := octal_any (mdv k) hmb.1 hmb.2 wr (HT.out wr HB.out).db
      obtain ⟨m, hm⟩ : ∃ m, m = mdv k := ⟨_, rfl⟩
      obtain ⟨o, ho⟩ : ∃ o, o = oct m := ⟨_, rfl⟩
      rw [← hm] at hix hoc
      rw [← ho] at hoc
      have HMO : Hid (m = mdv k ∧ o = oct m) := ⟨hm, ho⟩
      have HK5 : Hid (k < 5) := hk
      clear hm ho hmb hk hk5
      by_cases he : o = l
      · have hMm : Hid (M = m) := by
          show M = m
          rw [HM.out, HMO.out.1]
          exact mdo_hit l k HK5.out HK.out (by rw [← HMO.out.1, ← HMO.out.2]; exact he)
        subst he
        go_wp2_with fail
        refine hoc.mono ?_
        rintro e w1 ⟨rfl, b1⟩
        have HB1 : Hid (Below w.heap.size w w1) := HB.out.trans (b1.mono HB.out.size)
        clear hoc b1
        go_wp2_with fail
        go_ret
        exact ⟨by rw [hMm.out]; rfl, HB1.out⟩
      · have e1 : (o == l) = false := by simp [he]
        have HK1 : Hid (∀ j, j < k + 1 → oct (mdv j) ≠ l) := fun j hj => by
          by_cases e : j = k
          · rw [e, ← HMO.out.1, ← HMO.out.2]; exact he
          · exact HK.out j (by omega)
        clear he
        go_wp2_with fail
        refine hoc.mono ?_
        rintro e w1 ⟨rfl, b1⟩
        have HB1 : Hid (Below w.heap.size w w1) := HB.out.trans (b1.mono HB.out.size)
        clear hoc b1
        go_wp2_with fail
        exact ⟨⟨k + 1, by simp, HK5.out, HK1, HB1⟩, by simp [intOf]; have := HK5.out; omega⟩
    · obtain rfl : k = 5 := by omega
      have HM0 : Hid (M = 0) := by
        show M = 0
        rw [HM.out]
        exact mdo_none l HK.out
      go_wp2_with fail
      go_ret
      exact ⟨by rw [HM0.out]; rfl, HB.out⟩

set_option maxRecDepth 100000 in
theorem isMode_any (m : Int) (h0 : -9223372036854775808 ≤ m) (h1 : m ≤ 9223372036854775807) (w : World) (h : Ts w) : Calls Tryz.prog 97 #[.int .i64 m] w fun e w' => e = .returned (.bool (isM m)) ∧ Below w.heap.size w w' := by
  have ho := octal_any m h0 h1 w h.db
  have HM : Hid (∀ V, Below w.heap.size w V → Calls Tryz.prog 124 #[sv (oct m)] V fun e w' => e = .returned (.int .i64 (if isM m = true then m else 0)) ∧ Below V.heap.size V w') := fun V hV => by
    rw [← mdo_oct m h0 h1]
    exact modeOf_any _ V (h.keep hV)
  have HZ : Hid (isM m = true → m ≠ 0) := fun h e => by subst e; exact absurd h (by decide)
  clear h h0 h1
  go_enter Tryz.func97, Tryz.ntmps97
  go_wp2_with fail
  refine ho.mono ?_
  rintro e w1 ⟨rfl, b1⟩
  have HB1 : Hid (Below w.heap.size w w1) := b1
  have hm := HM.out w1 b1
  clear ho b1
  go_wp2_with fail
  refine hm.mono ?_
  rintro e w2 ⟨rfl, b2⟩
  have HB2 : Hid (Below w.heap.size w w2) := HB1.out.trans (b2.mono HB1.out.size)
  clear hm b2
  obtain ⟨z, hz⟩ : ∃ z, z = if isM m = true then m else 0 := ⟨_, rfl⟩
  rw [← hz]
  have HZZ : Hid (z = if isM m = true then m else 0) := hz
  clear hz
  by_cases hM : isM m = true
  · have hz : z = m := by rw [HZZ.out, if_pos hM]
    have e0 : (z != 0) = true := by rw [hz]; simpa using HZ.out hM
    have HM1 : Hid (isM m = true) := hM
    clear hz hM
    go_wp2_with fail
    go_ret
    exact ⟨by rw [HM1.out]; rfl, HB2.out⟩
  · have hz : z = 0 := by rw [HZZ.out, if_neg hM]
    have HM1 : Hid (isM m = false) := by show isM m = false; simpa using hM
    clear hM
    subst hz
    go_wp2_with fail
    go_ret
    exact ⟨by rw [HM1.out]; rfl, HB2.out⟩

end Go.Proofs.YtojgablpjdlegaaGreatDoor

/- An entry's name: may it be? -/
namespace Go.Proofs.YtojgablpjdlegaaGreatDoor
open Go.RowKit Go.Shelf

/-- No name at all? -/
def nmO (l : List UInt8) : Bool := l.isEmpty || (l == [46] || (l == [46, 46] || l == [46, 103, 105, 116]))

/-- May a name be? -/
def nmB (l : List UInt8) : Bool := !nmO l && (decide (l.length ≤ 100) && !Lib.containsAny l [47, 0])

set_option maxRecDepth 100000 in
set_option maxHeartbeats 2000000 in
theorem entryName_any (l : List UInt8) (w : World) (hl : l.length ≤ 1000000) : Calls Tryz.prog 98 #[sv l] w fun e w' => e = .returned (.bool (nmB l)) ∧ Below w.heap.size w w' := by
  have hc := fun V => cany_any 47 0 (by decide) (by decide) l V hl
  obtain ⟨b, hb⟩ : ∃ b, b = Lib.containsAny l [47, 0] := ⟨_, rfl⟩
  rw [← hb] at hc
  obtain ⟨r, hr⟩ : ∃ r, r = nmB l := ⟨_, rfl⟩
  have HR : Hid (r = (!nmO l && (decide (l.length ≤ 100) && !b))) := by show r = _; rw [hr, hb]; rfl
  rw [← hr]
  clear hb hr hl
  by_cases h0 : nmO l = true
  · have H0 : Hid (r = false) := by show r = false; rw [HR.out, h0]; rfl
    unfold nmO at h0
    by_cases a0 : l.isEmpty = true
    · clear h0
      go_enter Tryz.func98, Tryz.ntmps98
      go_wp2_with fail
      go_ret
      exact ⟨by rw [H0.out]; rfl, Below.refl _ _⟩
    have a0' : l.isEmpty = false := by simpa using a0
    by_cases a1 : (l == [46]) = true
    · clear h0 a0
      go_enter Tryz.func98, Tryz.ntmps98
      go_wp2_with fail
      go_ret
      exact ⟨by rw [H0.out]; rfl, Below.refl _ _⟩
    have a1' : (l == [46]) = false := by simpa using a1
    by_cases a2 : (l == [46, 46]) = true
    · clear h0 a0 a1
      go_enter Tryz.func98, Tryz.ntmps98
      go_wp2_with fail
      go_ret
      exact ⟨by rw [H0.out]; rfl, Below.refl _ _⟩
    have a2' : (l == [46, 46]) = false := by simpa using a2
    have a3 : (l == [46, 103, 105, 116]) = true := by
      rw [a0', a1', a2'] at h0
      simpa using h0
    clear h0 a0 a1 a2
    go_enter Tryz.func98, Tryz.ntmps98
    go_wp2_with fail
    go_ret
    exact ⟨by rw [H0.out]; rfl, Below.refl _ _⟩
  · have h0' : nmO l = false := by simpa using h0
    have HR1 : Hid (r = (decide (l.length ≤ 100) && !b)) := by show r = _; rw [HR.out, h0']; rfl
    unfold nmO at h0'
    simp only [Bool.or_eq_false_iff] at h0'
    obtain ⟨a0', a1', a2', a3'⟩ := h0'
    clear h0
    by_cases hn : l.length ≤ 100
    · have d1 : decide ((l.length : Int) ≤ 100) = true := by simp; omega
      have d2 : decide (l.length ≤ 100) = true := by simp; omega
      have HR2 : Hid (r = !b) := by show r = _; rw [HR1.out, d2]; rfl
      clear hn
      have hcw := hc w
      clear hc
      go_enter Tryz.func98, Tryz.ntmps98
      go_wp2_with fail
      refine hcw.mono ?_
      rintro e w1 ⟨rfl, b1⟩
      have HB1 : Hid (Below w.heap.size w w1) := b1
      clear hcw b1
      go_wp2_with fail
      go_ret
      exact ⟨by rw [HR2.out]; rfl, HB1.out⟩
    · have d1 : decide ((l.length : Int) ≤ 100) = false := by simp; omega
      have d2 : decide (l.length ≤ 100) = false := by simp; omega
      have HR2 : Hid (r = false) := by show r = _; rw [HR1.out, d2]; rfl
      clear hn hc
      go_enter Tryz.func98, Tryz.ntmps98
      go_wp2_with fail
      go_ret
      exact ⟨by rw [HR2.out]; rfl, Below.refl _ _⟩

end Go.Proofs.YtojgablpjdlegaaGreatDoor
