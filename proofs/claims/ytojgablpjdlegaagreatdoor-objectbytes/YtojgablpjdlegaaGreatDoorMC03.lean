/- WBrk, WPart. -/
import Derived.Test.YtojgablpjdlegaaGreatDoorMC02
import Derived.Test.YtojgablpjdlegaaGreatDoorM09
import Derived.Sort.LotD5
import Derived.Sort.Row
import Derived.Laws.Bits64
import Derived.Laws.Bits64b
import Derived.Deep.CutBlock
/- sort.xorshift.Next, sort.nextPowerOfTwo, sort.breakPatterns. -/
namespace Go.Proofs.YtojgablpjdlegaaGreatDoor
open Go.RowKit

/-- The names d, and the generator's number in a block of its own. -/
structure Sq (b N S : Nat) (w : World) (d : Array (List Int)) (x : Nat) (W : World) : Prop where
  tt : To b N w d W
  cell : W.rowIs S 260 1 (fun _ => .int .u64 x)
  new : w.heap.size ≤ S
  old : b < w.heap.size

theorem Sq.swap {b N S : Nat} {w W : World} {d : Array (List Int)} {x : Nat} (h : Sq b N S w d x W) (c n i j : Nat) (hn : d.size = n) (hi : i < n) (hj : j < n) :
    Calls Tryz.prog 236 #[sl b n c, .int .i64 i, .int .i64 j] W fun e W' => e = .returned (.tuple #[]) ∧ Sq b N S w (Sort.swp d i j) x W' := by
  have := swap_any b N c d W h.tt.rw i j (by omega) (by omega)
  rw [hn] at this
  have h1 := h.new
  have h2 := h.old
  exact this.mono fun _ _ ⟨g1, g2, g3⟩ => ⟨g1, h.tt.then ⟨g2, g3⟩, rowIs_fr h.cell g3 (by omega), h.new, h.old⟩

theorem Sq.set {b N S : Nat} {w W : World} {d : Array (List Int)} {x : Nat} (h : Sq b N S w d x W) (t : Nat) : Sq b N S w d t (W.setCell ⟨S, 0, none⟩ (.int .u64 t)) := by
  have f := set_fr W S 0 (.int .u64 t)
  have h1 := h.new
  have h2 := h.old
  refine ⟨⟨h.tt.rw.fr f (by omega), ?_⟩, set_row h.cell 0 _ (fun j hj => by rw [if_pos (by omega)]), h1, h2⟩
  exact h.tt.fr.trans (P' := fun k => k = S) f (fun i hi e => by omega)

theorem Sq.drew {b N S : Nat} {w W : World} {d : Array (List Int)} {x : Nat} (h : Sq b N S w d x W) : Sq b N S w d x W.drew :=
  ⟨h.tt.drew, rowIs_fr (P := fun _ => False) h.cell (Fr.refl _ W).drew (fun h => h), h.new, h.old⟩

theorem Sq.start {b N : Nat} {w : World} {d : Array (List Int)} (h : Rw w b N d) (x : Nat) : Sq b N w.heap.size w d x (w.alloc (.cells #[.int .u64 x] 260)) :=
  ⟨⟨h.keep (new_below w _), (Fr.refl _ w).alloc _⟩, World.rowIs_alloc w #[.int .u64 x] 260 (fun _ => .int .u64 (x : Int)) (fun i hi => by simp at hi; subst hi; rfl), Nat.le_refl _, h.lt⟩

theorem Sq.ld {b N S : Nat} {w W : World} {d : Array (List Int)} {x : Nat} (h : Sq b N S w d x W) : W.cell? ⟨S, 0, none⟩ = some (.int .u64 x) := h.cell.cell (i := 0) (by omega)

theorem set_set (w : World) (S : Nat) (v u : Value) : (w.setCell ⟨S, 0, none⟩ v).setCell ⟨S, 0, none⟩ u = w.setCell ⟨S, 0, none⟩ u := by
  rw [Sort.setCell_eq, Sort.setCell_eq, Sort.mapBlock_mapBlock, Sort.setCell_eq]
  congr 1
  funext c
  simp

set_option maxHeartbeats 2000000 in
set_option maxRecDepth 100000 in
theorem next_any (b N S x : Nat) (d : Array (List Int)) (w W : World) (h : Sq b N S w d x W) (hx : x < 18446744073709551616) :
    Calls Tryz.prog 208 #[.pointer (some ⟨S, 0, none⟩)] W fun e W' => e = .returned (.int .u64 (Sort.xorNextN x : Nat)) ∧ Sq b N S w d (Sort.xorNextN x) W' := by
  obtain ⟨A, hA⟩ : ∃ A : Nat, A = x ^^^ (x * 8192 % 18446744073709551616) := ⟨_, rfl⟩
  obtain ⟨B, hB⟩ : ∃ B : Nat, B = A ^^^ (A / 128) := ⟨_, rfl⟩
  obtain ⟨C, hC⟩ : ∃ C : Nat, C = B ^^^ (B * 131072 % 18446744073709551616) := ⟨_, rfl⟩
  have lA : A < 18446744073709551616 := by rw [hA]; exact Nat.xor_lt_two_pow (n := 64) (by omega) (by omega)
  have lB : B < 18446744073709551616 := by rw [hB]; exact Nat.xor_lt_two_pow (n := 64) (by omega) (by omega)
  have e1 : bits .xor .u64 (x : Int) (IntKind.u64.wrap ((x : Int) * 8192)) = (A : Int) := by
    rw [IntKind.wrap_u64, show ((x : Int) * 8192 % 18446744073709551616) = ((x * 8192 % 18446744073709551616 : Nat) : Int) by omega, bits_xor_u64_nat _ _ hx (by omega), hA]
  have e2 : bits .xor .u64 (A : Int) ((A : Int) / 128) = (B : Int) := by
    rw [show ((A : Int) / 128) = ((A / 128 : Nat) : Int) by omega, bits_xor_u64_nat _ _ lA (by omega), hB]
  have e3 : bits .xor .u64 (B : Int) (IntKind.u64.wrap ((B : Int) * 131072)) = (C : Int) := by
    rw [IntKind.wrap_u64, show ((B : Int) * 131072 % 18446744073709551616) = ((B * 131072 % 18446744073709551616 : Nat) : Int) by omega, bits_xor_u64_nat _ _ lB (by omega), hC]
  have hv : Sort.xorNextN x = C := by unfold Sort.xorNextN; simp only []; rw [← hA, ← hB, ← hC]
  rw [hv]
  have hc := h.ld
  have hf := h.cell.frozen 0
  have HH : Hid (Sq b N S w d x W) := h
  clear hA hB hC hv h
  have hss : ∀ v v', (W.setCell ⟨S, 0, none⟩ v).setCell ⟨S, 0, none⟩ v' = W.setCell ⟨S, 0, none⟩ v' := set_set W S
  go_enter Tryz.func208, Tryz.ntmps208
  go_wp2
  go_region
  all_goals go_wp2
  all_goals go_region
  all_goals go_wp2
  all_goals go_region
  all_goals go_wp2
  go_ret
  exact ⟨rfl, (HH.out.set C).drew.drew.drew⟩

theorem bl_all (m : Nat) : ∀ n : Nat, n ≤ m → n < 2 ^ 64 → Lib.bitLen n = Sort.bitsLen n := by
  induction m with
  | zero => intro n h _; obtain rfl : n = 0 := by omega
            rfl
  | succ m ih =>
    intro n h hb
    by_cases h0 : n = 0
    · subst h0; rfl
    · rw [Lib.bitLen_half n h0 hb, ih (n / 2) (by omega) (by omega)]
      unfold Sort.bitsLen
      rw [if_neg h0, Nat.log2_def n]
      by_cases h2 : 2 ≤ n
      · rw [if_pos h2, if_neg (by omega)]; omega
      · obtain rfl : n = 1 := by omega
        simp

theorem bl_eq (n : Nat) (h : n < 100000) : Lib.bitLen n = Sort.bitsLen n := bl_all n n (Nat.le_refl _) (by omega)

set_option maxHeartbeats 2000000 in
set_option maxRecDepth 100000 in
theorem npow_any (n : Nat) (hn : n < 100000) (w : World) :
    Calls Tryz.prog 207 #[.int .i64 n] w fun e w' => e = .returned (.int .u64 ((1 <<< Sort.bitsLen n : Nat) : Int)) ∧ w' = w := by
  have hb := fun w => Any.bits_Len Tryz.blen (n : Int) w (by omega) (by omega)
  change ∀ w, Calls Tryz.prog 156 _ w _ at hb
  rw [Int.toNat_natCast, bl_eq n hn] at hb
  have hk : Sort.bitsLen n ≤ 62 := (Sort.bitsLen_le_iff n 62).2 (by omega)
  obtain ⟨M, hM⟩ : ∃ M : Nat, M = 1 <<< Sort.bitsLen n := ⟨_, rfl⟩
  have hp : IntKind.u64.wrap ((2 : Int) ^ Sort.bitsLen n) = (M : Int) := by
    have h : (2 : Nat) ^ Sort.bitsLen n ≤ 2 ^ 62 := Nat.pow_le_pow_right (by decide) hk
    rw [hM, IntKind.wrap_u64, Nat.one_shiftLeft, show ((2 : Int) ^ Sort.bitsLen n) = ((2 ^ Sort.bitsLen n : Nat) : Int) by push_cast; rfl]
    generalize (2 : Nat) ^ Sort.bitsLen n = p at h
    omega
  have hw1 : IntKind.u64.wrap (n : Int) = n := wraps_u64 _ (by omega) (by omega)
  rw [← hM]
  clear hM
  generalize Sort.bitsLen n = K at *
  go_enter Tryz.func207, Tryz.ntmps207
  go_wp2_with (go_at_call 156; refine (hb _).mono ?_; rintro e w' ⟨rfl, rfl⟩)
  go_ret
  exact ⟨rfl, rfl⟩

/-- So many rounds of breakPatterns are left; t are made. -/
def bq (a L M I : Nat) : Nat → Nat → UInt64 → Array (List Int) → Array (List Int)
  | 0, _, _, d => d
  | k + 1, t, r, d => bq a L M I k (t + 1) (Sort.breakStep a L M (r, d) (I + t)).1 (Sort.breakStep a L M (r, d) (I + t)).2

theorem bq_all (d : Array (List Int)) (a L : Nat) (h8 : 8 ≤ L) : Sort.breakPatterns d a (a + L) = bq a L (1 <<< Sort.bitsLen L) (a + L / 4 * 2 - 1) 3 0 (UInt64.ofNat L) d := by
  unfold Sort.breakPatterns
  simp only [Nat.add_sub_cancel_left]
  rw [if_pos h8]
  rfl

theorem bq_step (a L M I k t : Nat) (r : UInt64) (d : Array (List Int)) (o : Nat) (ho : (if (Sort.xorNext r).toNat &&& (M - 1) ≥ L then ((Sort.xorNext r).toNat &&& (M - 1)) - L else (Sort.xorNext r).toNat &&& (M - 1)) = o) :
    bq a L M I (k + 1) t r d = bq a L M I k (t + 1) (Sort.xorNext r) (Sort.swp d (I + t) (a + o)) := by
  rw [bq]
  unfold Sort.breakStep
  simp only [ho]

set_option maxHeartbeats 4000000 in
set_option maxRecDepth 100000 in
theorem brk_big (b N c n A L M J : Nat) (a e : Int) (d R : Array (List Int)) (w : World) (HS0 : Hid (Sq b N w.heap.size w d (UInt64.ofNat L).toNat (w.alloc (.cells #[.int .u64 (L : Int)] 260)))) (HN : Hid (d.size = n))
    (hz1 : IntKind.i64.wrap (e - a) = (L : Int)) (q3 : IntKind.i64.wrap (a + (L : Int) / 4 * 2) = (J : Int)) (hu : IntKind.u64.wrap (L : Int) = (L : Int))
    (hz3 : (8 : Int) ≤ (L : Int)) (HA : Hid (a = (A : Int))) (hLn : A + L ≤ n) (hsz : n < 100000) (hJ1 : 1 ≤ J) (hJ2 : J + 1 < A + L) (hM1 : 1 ≤ M) (hM2 : M ≤ 2 * L)
    (hnp : ∀ W, Calls Tryz.prog 207 #[.int .i64 (L : Int)] W fun e W' => e = .returned (.int .u64 (M : Int)) ∧ W' = W)
    (HR : Hid (bq A L M (J - 1) 3 0 (UInt64.ofNat L) d = R)) :
    Calls Tryz.prog 185 #[iv b n c, .int .i64 a, .int .i64 e] w fun ee w' => ee = .returned (.tuple #[]) ∧ To b N w R w' := by
  have m2 := mSwap b n c
  go_enter Tryz.func185, Tryz.ntmps185
  go_wp2_with fail
  refine (hnp _).mono ?_
  rintro ee W1 ⟨rfl, rfl⟩
  clear hnp
  go_wp2_with fail
  go_loopw [9] (fun vi wr => ∃ (k t s : Nat) (r : UInt64) (dk : Array (List Int)), vi = .int .i64 k ∧ Hid (k = J - 1 + t) ∧ k + s = J + 2 ∧ t + s = 3 ∧ Hid (dk.size = n) ∧ Hid (Sq b N w.heap.size w dk r.toNat wr) ∧ Hid (bq A L M (J - 1) s t r dk = R)) (fun vi _ => J + 3 - (intOf vi).toNat)
  case atStart => exact ⟨J - 1, 0, 3, UInt64.ofNat L, d, by congr 1; omega, rfl, by omega, rfl, HN, HS0, HR⟩
  case round =>
    obtain ⟨k, t, s, r, dk, rfl, HK, hks, hts, HSz, HSq, HE⟩ := hrel
    clear HS0 HN HR
    cases s with
    | zero =>
      have hz : ¬ (k : Int) ≤ (J : Int) + 1 := by omega
      have HF : Hid (dk = R) := HE
      clear HE
      go_wp2_with fail
      go_end0
      exact ⟨rfl, by rw [← HF.out]; exact HSq.out.tt⟩
    | succ s =>
      have hz : (k : Int) ≤ (J : Int) + 1 := by omega
      obtain ⟨X, hX⟩ : ∃ X : Nat, X = r.toNat := ⟨_, rfl⟩
      have lX : X < 18446744073709551616 := by rw [hX]; exact r.toNat_lt
      have hnx := next_any b N w.heap.size X dk w wr (by rw [hX]; exact HSq.out) lX
      obtain ⟨Y, hY⟩ : ∃ Y : Nat, Y = Sort.xorNextN X := ⟨_, rfl⟩
      have lY : Y < 18446744073709551616 := by rw [hY]; exact Sort.xorNextN_lt X lX
      rw [← hY] at hnx
      have eY : Y = (Sort.xorNext r).toNat := by rw [hY, hX, Sort.xorNext_toNat]
      obtain ⟨O, hO⟩ : ∃ O : Nat, O = Y &&& (M - 1) := ⟨_, rfl⟩
      have lO : O ≤ M - 1 := by rw [hO]; exact Nat.and_le_right
      have eAnd : bits .and .u64 (Y : Int) ((M : Int) - 1) = (O : Int) := by
        rw [show ((M : Int) - 1) = ((M - 1 : Nat) : Int) by omega, bits_and_u64_nat _ _ lY (by omega), hO]
      have wO : IntKind.i64.wrap (O : Int) = (O : Int) := wraps_i64 _ (by omega) (by omega)
      by_cases hLO : L ≤ O
      · have hzo : (L : Int) ≤ (O : Int) := by omega
        have hst := bq_step A L M (J - 1) s t r dk (O - L) (by rw [← eY, ← hO, if_pos hLO])
        rw [← HK.out] at hst
        have HE2 : Hid (bq A L M (J - 1) s (t + 1) (Sort.xorNext r) (Sort.swp dk k (A + (O - L))) = R) := by rw [← HE.out, hst]; exact rfl
        obtain ⟨P, hP⟩ : ∃ P : Nat, P = A + (O - L) := ⟨_, rfl⟩
        rw [← hP] at HE2
        have hPn : P < n := by omega
        have wP : IntKind.i64.wrap (a + ((O : Int) - (L : Int))) = (P : Int) := by rw [HA.out, wraps_i64 _ (by omega) (by omega)]; omega
        have hsw := fun W (hW : Sq b N w.heap.size w dk Y W) => hW.swap c n k P HSz.out (by omega) hPn
        have HS2 : Hid ((Sort.swp dk k P).size = n) := by rw [swp_size]; exact HSz
        have HY : Hid (Y = (Sort.xorNext r).toNat) := eY
        generalize Sort.swp dk k P = d2 at *
        clear hst HE hX hY hO eY HSq hP lX
        go_wp2_with fail
        refine hnx.mono ?_
        rintro ee W2 ⟨rfl, hS2⟩
        have HSW : Hid (Sq b N w.heap.size w dk Y W2) := hS2
        clear hS2 hnx
        go_wp2_with fail
        refine (hsw _ HSW.out).mono ?_
        rintro ee W3 ⟨rfl, hS3⟩
        have HS3 : Hid (Sq b N w.heap.size w d2 (Sort.xorNext r).toNat W3) := by rw [← HY.out]; exact hS3
        clear hS3 hsw
        have HK2 : Hid (k + 1 = J - 1 + (t + 1)) := by rw [HK.out]; exact rfl
        go_wp2_with fail
        go_roundw
        case rel => exact ⟨k + 1, t + 1, s, Sort.xorNext r, d2, by go_num, HK2, by omega, by omega, HS2, HS3, HE2⟩
        case measure => simp [intOf]; omega
      · have hzo : ¬ (L : Int) ≤ (O : Int) := by omega
        have hst := bq_step A L M (J - 1) s t r dk O (by rw [← eY, ← hO, if_neg hLO])
        rw [← HK.out] at hst
        have HE2 : Hid (bq A L M (J - 1) s (t + 1) (Sort.xorNext r) (Sort.swp dk k (A + O)) = R) := by rw [← HE.out, hst]; exact rfl
        obtain ⟨P, hP⟩ : ∃ P : Nat, P = A + O := ⟨_, rfl⟩
        rw [← hP] at HE2
        have hPn : P < n := by omega
        have wP : IntKind.i64.wrap (a + (O : Int)) = (P : Int) := by rw [HA.out, wraps_i64 _ (by omega) (by omega)]; omega
        have hsw := fun W (hW : Sq b N w.heap.size w dk Y W) => hW.swap c n k P HSz.out (by omega) hPn
        have HS2 : Hid ((Sort.swp dk k P).size = n) := by rw [swp_size]; exact HSz
        have HY : Hid (Y = (Sort.xorNext r).toNat) := eY
        generalize Sort.swp dk k P = d2 at *
        clear hst HE hX hY hO eY HSq hP lX
        go_wp2_with fail
        refine hnx.mono ?_
        rintro ee W2 ⟨rfl, hS2⟩
        have HSW : Hid (Sq b N w.heap.size w dk Y W2) := hS2
        clear hS2 hnx
        go_wp2_with fail
        refine (hsw _ HSW.out).mono ?_
        rintro ee W3 ⟨rfl, hS3⟩
        have HS3 : Hid (Sq b N w.heap.size w d2 (Sort.xorNext r).toNat W3) := by rw [← HY.out]; exact hS3
        clear hS3 hsw
        have HK2 : Hid (k + 1 = J - 1 + (t + 1)) := by rw [HK.out]; exact rfl
        go_wp2_with fail
        go_roundw
        case rel => exact ⟨k + 1, t + 1, s, Sort.xorNext r, d2, by go_num, HK2, by omega, by omega, HS2, HS3, HE2⟩
        case measure => simp [intOf]; omega

end Go.Proofs.YtojgablpjdlegaaGreatDoor

/- sort.partition, sort.partitionEqual. -/
namespace Go.Proofs.YtojgablpjdlegaaGreatDoor
open Go.RowKit

theorem su_go (p : List Int → Bool) (d : Array (List Int)) (j i : Nat) (h : i ≤ j) (hp : p d[i]! = true) : Sort.scanUp p d j i = Sort.scanUp p d j (i + 1) := by rw [Sort.scanUp, if_pos (by simp [h, hp])]

theorem su_end (p : List Int → Bool) (d : Array (List Int)) (j i : Nat) (h : ¬ i ≤ j ∨ p d[i]! = false) : Sort.scanUp p d j i = i := by
  rw [Sort.scanUp, if_neg]
  rintro hh
  simp only [Bool.and_eq_true, decide_eq_true_eq] at hh
  rcases h with h | h
  · exact h hh.1
  · rw [h] at hh; cases hh.2

theorem sn_go (p : List Int → Bool) (d : Array (List Int)) (i j : Nat) (h : i ≤ j) (h0 : 0 < j) (hp : p d[j]! = true) : Sort.scanDown p d i j = Sort.scanDown p d i (j - 1) := by
  cases j with
  | zero => omega
  | succ j => rw [Sort.scanDown, if_pos (by simp [h, hp])]; rfl

theorem sn_end (p : List Int → Bool) (d : Array (List Int)) (i j : Nat) (h : ¬ i ≤ j ∨ p d[j]! = false) : Sort.scanDown p d i j = j := by
  cases j with
  | zero => rfl
  | succ j =>
    rw [Sort.scanDown, if_neg]
    rintro hh
    simp only [Bool.and_eq_true, decide_eq_true_eq] at hh
    rcases h with h | h
    · exact h hh.1
    · rw [h] at hh; cases hh.2

set_option maxHeartbeats 4000000 in
set_option maxRecDepth 100000 in
theorem parteq_any (b N c n a e pv : Nat) (d : Array (List Int)) (w : World) (h : Rw w b N d) (hn : d.size = n) (hae : a < e) (he : e ≤ n) (hp2 : pv < e) (hsz : n < 100000) :
    Calls Tryz.prog 189 #[iv b n c, .int .i64 a, .int .i64 e, .int .i64 pv] w fun ee w' => ee = .returned (.int .i64 (Sort.partitionEqual ltl d a e pv).1) ∧ To b N w (Sort.partitionEqual ltl d a e pv).2 w' := by
  have m1 := mLess b n c
  have m2 := mSwap b n c
  have hsw0 := (To.refl h).swap c a pv (by omega) (by omega)
  rw [hn] at hsw0
  have HZ0 : Hid ((Sort.swp d a pv).size = n) := by rw [swp_size]; exact hn
  have hE : Sort.partitionEqual ltl d a e pv = Sort.partEqLoop ltl a (a + 1) (e - 1) (Sort.swp d a pv) := rfl
  rw [hE]
  generalize Sort.swp d a pv = d0 at *
  clear h hE hn
  go_enter Tryz.func189, Tryz.ntmps189
  go_wp2_with fail
  refine hsw0.mono ?_
  rintro ee w0 ⟨rfl, hT0⟩
  have HT0 : Hid (To b N w d0 w0) := hT0
  clear hT0 hsw0
  go_wp2_with fail
  go_loopw [9, 10] (fun vi vj wr => ∃ (i j : Nat) (dk : Array (List Int)), vi = .int .i64 i ∧ vj = .int .i64 j ∧ a < i ∧ i ≤ j + 1 ∧ j < n ∧ Hid (dk.size = n) ∧ Hid (To b N w dk wr) ∧ Hid (Sort.partEqLoop ltl a i j dk = Sort.partEqLoop ltl a (a + 1) (e - 1) d0)) (fun vi vj _ => ((intOf vj) + 1 - (intOf vi)).toNat)
  case atStart => exact ⟨a + 1, e - 1, d0, by go_num, by congr 1; omega, by omega, by omega, by omega, HZ0, HT0, rfl⟩
  case round =>
    obtain ⟨i, j, dk, rfl, rfl, hai, hij, hjn, HS, HT, HE⟩ := hrel
    clear HT0 HZ0
    obtain ⟨i2, hi2⟩ : ∃ i2, Sort.scanUp (fun x => !ltl dk[a]! x) dk j i = i2 := ⟨_, rfl⟩
    obtain ⟨j2, hj2⟩ : ∃ j2, Sort.scanDown (fun x => ltl dk[a]! x) dk i2 j = j2 := ⟨_, rfl⟩
    have HI2 : Hid (Sort.scanUp (fun x => !ltl dk[a]! x) dk j i = i2) := hi2
    have HJ2 : Hid (Sort.scanDown (fun x => ltl dk[a]! x) dk i2 j = j2) := hj2
    have hstep := Sort.partEqLoop_eq (lt := ltl) a i j dk
    rw [hi2, hj2] at hstep
    have HST : Hid _ := hstep
    have L1 := fun W (hW : To b N w dk W) (p q : Nat) (hp : p < n) (hq : q < n) => by
      have := hW.less c p q (by rw [HS.out]; exact hp) (by rw [HS.out]; exact hq)
      rw [HS.out] at this
      exact this
    have b1 := Sort.scanUp_spec (fun x => !ltl dk[a]! x) dk j _ i rfl
    rw [hi2] at b1
    have b2 := Sort.scanDown_spec (fun x => ltl dk[a]! x) dk i2 j
    rw [hj2] at b2
    have x1 : i ≤ i2 := b1.1
    have x2 : i2 ≤ j + 1 := b1.2.1 hij
    have x3 : j2 ≤ j := b2.1
    have x4 : i2 ≤ j2 + 1 := b2.2.1 x2
    have x5 : i2 ≤ j2 → i2 + 1 ≤ j2 := fun hle => by
      rcases Nat.lt_or_ge i2 j2 with h | h
      · exact h
      · have e : i2 = j2 := by omega
        have y1 := b1.2.2.2 (by omega)
        have y2 := b2.2.2.2 hle (by omega)
        rw [e] at y1
        have y3 : ltl dk[a]! dk[j2]! = false := y2
        have y4 : (!ltl dk[a]! dk[j2]!) = false := y1
        rw [y3] at y4
        cases y4
    clear hi2 hj2 hstep b1 b2
    go_upto_block 2 with fail
    go_cut [9] from 19 to 30 (fun v W => v = .int .i64 i2 ∧ To b N w dk W)
    case first =>
      go_wp2_with fail
      go_loopw [9] (fun vi wr => ∃ (k : Nat), vi = .int .i64 k ∧ i ≤ k ∧ k ≤ j + 1 ∧ Hid (Sort.scanUp (fun x => !ltl dk[a]! x) dk j k = i2) ∧ Hid (To b N w dk wr)) (fun vi _ => (j + 1 - (intOf vi).toNat))
      case atStart => exact ⟨i, rfl, by omega, by omega, HI2, HT⟩
      case round =>
        obtain ⟨k, rfl, hik, hkj, HU, HT1⟩ := hrel
        clear HT
        by_cases hkj2 : k ≤ j
        · have hz : (k : Int) ≤ (j : Int) := by omega
          have hl := L1 _ HT1.out a k (by omega) (by omega)
          cases hlv : ltl dk[a]! dk[k]! with
          | true =>
            rw [hlv] at hl
            have e : k = i2 := by rw [← HU.out, su_end _ dk j k (.inr (by simp [hlv]))]
            have HEk : Hid (k = i2) := e
            clear e hlv HU
            go_wp2_with fail
            refine hl.mono ?_
            rintro ee w2 ⟨rfl, hT2⟩
            have HT2 : Hid (To b N w dk w2) := hT2
            clear hT2 hl
            go_wp2_with fail
            go_meet
            exact ⟨by rw [HEk.out], HT2.out⟩
          | false =>
            rw [hlv] at hl
            have HU2 : Hid (Sort.scanUp (fun x => !ltl dk[a]! x) dk j (k + 1) = i2) := by rw [← HU.out, su_go _ dk j k hkj2 (by simp [hlv])]; exact rfl
            clear hlv HU
            go_wp2_with fail
            refine hl.mono ?_
            rintro ee w2 ⟨rfl, hT2⟩
            have HT2 : Hid (To b N w dk w2) := hT2
            clear hT2 hl
            go_wp2_with fail
            go_roundw
            case rel => exact ⟨k + 1, by go_num, by omega, by omega, HU2, HT2⟩
            case measure => simp [intOf]; omega
        · have hz : ¬ (k : Int) ≤ (j : Int) := by omega
          have e : k = i2 := by rw [← HU.out, su_end _ dk j k (.inl hkj2)]
          have HEk : Hid (k = i2) := e
          clear e HU
          go_wp2_with fail
          go_meet
          exact ⟨by rw [HEk.out], HT1.out⟩
    obtain ⟨rfl, hTc⟩ := hcut
    have HTc : Hid (To b N w dk wc) := hTc
    clear hTc HT HI2
    go_upto_block 4 with fail
    go_cut [10] from 31 to 41 (fun v W => v = .int .i64 j2 ∧ To b N w dk W)
    case first =>
      go_wp2_with fail
      go_loopw [10] (fun vi wr => ∃ (k : Nat), vi = .int .i64 k ∧ k ≤ j ∧ i2 ≤ k + 1 ∧ Hid (Sort.scanDown (fun x => ltl dk[a]! x) dk i2 k = j2) ∧ Hid (To b N w dk wr)) (fun vi _ => (intOf vi).toNat)
      case atStart => exact ⟨j, rfl, by omega, by omega, HJ2, HTc⟩
      case round =>
        obtain ⟨k, rfl, hkj, hik, HU, HT1⟩ := hrel
        clear HTc
        by_cases hkj2 : i2 ≤ k
        · have hz : (i2 : Int) ≤ (k : Int) := by omega
          have hl := L1 _ HT1.out a k (by omega) (by omega)
          cases hlv : ltl dk[a]! dk[k]! with
          | false =>
            rw [hlv] at hl
            have e : k = j2 := by rw [← HU.out, sn_end _ dk i2 k (.inr hlv)]
            have HEk : Hid (k = j2) := e
            clear e hlv HU
            go_wp2_with fail
            refine hl.mono ?_
            rintro ee w2 ⟨rfl, hT2⟩
            have HT2 : Hid (To b N w dk w2) := hT2
            clear hT2 hl
            go_wp2_with fail
            go_meet
            exact ⟨by rw [HEk.out], HT2.out⟩
          | true =>
            rw [hlv] at hl
            have HU2 : Hid (Sort.scanDown (fun x => ltl dk[a]! x) dk i2 (k - 1) = j2) := by rw [← HU.out, sn_go _ dk i2 k hkj2 (by omega) hlv]; exact rfl
            clear hlv HU
            go_wp2_with fail
            refine hl.mono ?_
            rintro ee w2 ⟨rfl, hT2⟩
            have HT2 : Hid (To b N w dk w2) := hT2
            clear hT2 hl
            go_wp2_with fail
            go_roundw
            case rel => exact ⟨k - 1, by congr 1; omega, by omega, by omega, HU2, HT2⟩
            case measure => simp [intOf]; omega
        · have hz : ¬ (i2 : Int) ≤ (k : Int) := by omega
          have e : k = j2 := by rw [← HU.out, sn_end _ dk i2 k (.inl hkj2)]
          have HEk : Hid (k = j2) := e
          clear e HU
          go_wp2_with fail
          go_meet
          exact ⟨by rw [HEk.out], HT1.out⟩
    obtain ⟨rfl, hTd⟩ := hcut
    have HTd : Hid (To b N w dk wc) := hTd
    clear hTd HTc HJ2
    by_cases hgt : j2 < i2
    · have hz : (j2 : Int) < (i2 : Int) := by omega
      have HF : Hid (Sort.partEqLoop ltl a (a + 1) (e - 1) d0 = (i2, dk)) := by rw [← HE.out, HST.out, if_pos hgt]; exact rfl
      clear HST HE L1
      go_wp2_with fail
      go_ret
      exact ⟨by rw [HF.out]; rfl, by rw [HF.out]; exact HTd.out⟩
    · have hz : ¬ (j2 : Int) < (i2 : Int) := by omega
      have x6 : i2 + 1 ≤ j2 := x5 (by omega)
      have hsw := HTd.out.swap c i2 j2 (by rw [HS.out]; omega) (by rw [HS.out]; omega)
      rw [HS.out] at hsw
      have HZ : Hid ((Sort.swp dk i2 j2).size = n) := by rw [swp_size]; exact HS
      have HE2 : Hid (Sort.partEqLoop ltl a (i2 + 1) (j2 - 1) (Sort.swp dk i2 j2) = Sort.partEqLoop ltl a (a + 1) (e - 1) d0) := by rw [← HE.out, HST.out, if_neg hgt]; exact rfl
      generalize Sort.swp dk i2 j2 = d2 at *
      clear HST HE L1
      go_wp2_with fail
      refine hsw.mono ?_
      rintro ee w4 ⟨rfl, hT4⟩
      have HT4 : Hid (To b N w d2 w4) := hT4
      clear hT4 hsw
      go_wp2_with fail
      go_roundw
      case rel => exact ⟨i2 + 1, j2 - 1, d2, by go_num, by congr 1; omega, by omega, by omega, by omega, HZ, HT4, HE2⟩
      case measure => simp [intOf]; omega

set_option maxHeartbeats 4000000 in
set_option maxRecDepth 100000 in
theorem part_any (b N c n a e pv : Nat) (d : Array (List Int)) (w : World) (h : Rw w b N d) (hn : d.size = n) (hae : a < e) (he : e ≤ n) (hp2 : pv < e) (hsz : n < 100000) :
    Calls Tryz.prog 190 #[iv b n c, .int .i64 a, .int .i64 e, .int .i64 pv] w fun ee w' => ee = .returned (.tuple #[.int .i64 (Sort.partition ltl d a e pv).1, .bool (Sort.partition ltl d a e pv).2.1]) ∧ To b N w (Sort.partition ltl d a e pv).2.2 w' := by
  have m1 := mLess b n c
  have m2 := mSwap b n c
  have hsw0 := (To.refl h).swap c a pv (by omega) (by omega)
  rw [hn] at hsw0
  have HS : Hid ((Sort.swp d a pv).size = n) := by rw [swp_size]; exact hn
  obtain ⟨d0, hd0⟩ : ∃ d0, Sort.swp d a pv = d0 := ⟨_, rfl⟩
  have hE : Sort.partition ltl d a e pv = if Sort.scanUp (fun x => ltl x d0[a]!) d0 (e - 1) (a + 1) > Sort.scanDown (fun x => !ltl x d0[a]!) d0 (Sort.scanUp (fun x => ltl x d0[a]!) d0 (e - 1) (a + 1)) (e - 1) then (Sort.scanDown (fun x => !ltl x d0[a]!) d0 (Sort.scanUp (fun x => ltl x d0[a]!) d0 (e - 1) (a + 1)) (e - 1), true, Sort.swp d0 (Sort.scanDown (fun x => !ltl x d0[a]!) d0 (Sort.scanUp (fun x => ltl x d0[a]!) d0 (e - 1) (a + 1)) (e - 1)) a) else ((Sort.partLoop ltl a (Sort.scanUp (fun x => ltl x d0[a]!) d0 (e - 1) (a + 1) + 1) (Sort.scanDown (fun x => !ltl x d0[a]!) d0 (Sort.scanUp (fun x => ltl x d0[a]!) d0 (e - 1) (a + 1)) (e - 1) - 1) (Sort.swp d0 (Sort.scanUp (fun x => ltl x d0[a]!) d0 (e - 1) (a + 1)) (Sort.scanDown (fun x => !ltl x d0[a]!) d0 (Sort.scanUp (fun x => ltl x d0[a]!) d0 (e - 1) (a + 1)) (e - 1)))).1, false, Sort.swp (Sort.partLoop ltl a (Sort.scanUp (fun x => ltl x d0[a]!) d0 (e - 1) (a + 1) + 1) (Sort.scanDown (fun x => !ltl x d0[a]!) d0 (Sort.scanUp (fun x => ltl x d0[a]!) d0 (e - 1) (a + 1)) (e - 1) - 1) (Sort.swp d0 (Sort.scanUp (fun x => ltl x d0[a]!) d0 (e - 1) (a + 1)) (Sort.scanDown (fun x => !ltl x d0[a]!) d0 (Sort.scanUp (fun x => ltl x d0[a]!) d0 (e - 1) (a + 1)) (e - 1)))).2 (Sort.partLoop ltl a (Sort.scanUp (fun x => ltl x d0[a]!) d0 (e - 1) (a + 1) + 1) (Sort.scanDown (fun x => !ltl x d0[a]!) d0 (Sort.scanUp (fun x => ltl x d0[a]!) d0 (e - 1) (a + 1)) (e - 1) - 1) (Sort.swp d0 (Sort.scanUp (fun x => ltl x d0[a]!) d0 (e - 1) (a + 1)) (Sort.scanDown (fun x => !ltl x d0[a]!) d0 (Sort.scanUp (fun x => ltl x d0[a]!) d0 (e - 1) (a + 1)) (e - 1)))).1 a) := by rw [← hd0]; rfl
  rw [hd0] at hsw0 HS
  clear h hn hd0
  obtain ⟨i2, hi2⟩ : ∃ i2, Sort.scanUp (fun x => ltl x d0[a]!) d0 (e - 1) (a + 1) = i2 := ⟨_, rfl⟩
  obtain ⟨j2, hj2⟩ : ∃ j2, Sort.scanDown (fun x => !ltl x d0[a]!) d0 i2 (e - 1) = j2 := ⟨_, rfl⟩
  have HI2 : Hid (Sort.scanUp (fun x => ltl x d0[a]!) d0 (e - 1) (a + 1) = i2) := hi2
  have HJ2 : Hid (Sort.scanDown (fun x => !ltl x d0[a]!) d0 i2 (e - 1) = j2) := hj2
  have b1 := Sort.scanUp_spec (fun x => ltl x d0[a]!) d0 (e - 1) _ (a + 1) rfl
  rw [hi2] at b1
  have b2 := Sort.scanDown_spec (fun x => !ltl x d0[a]!) d0 i2 (e - 1)
  rw [hj2] at b2
  have x1 : a + 1 ≤ i2 := b1.1
  have x2 : i2 ≤ e - 1 + 1 := b1.2.1 (by omega)
  have x3 : j2 ≤ e - 1 := b2.1
  have x4 : i2 ≤ j2 + 1 := b2.2.1 x2
  have x5 : i2 ≤ j2 → i2 + 1 ≤ j2 := fun hle => by
    rcases Nat.lt_or_ge i2 j2 with h | h
    · exact h
    · have e : i2 = j2 := by omega
      have y1 := b1.2.2.2 (by omega)
      have y2 := b2.2.2.2 hle (by omega)
      rw [e] at y1
      have y3 : ltl d0[j2]! d0[a]! = false := y1
      have y4 : (!ltl d0[j2]! d0[a]!) = false := y2
      rw [y3] at y4
      cases y4
  have L1 := fun W (hW : To b N w d0 W) (p q : Nat) (hp : p < n) (hq : q < n) => by
    have := hW.less c p q (by rw [HS.out]; exact hp) (by rw [HS.out]; exact hq)
    rw [HS.out] at this
    exact this
  rw [hi2, hj2] at hE
  clear hi2 hj2 b1 b2
  obtain ⟨P, hP⟩ : ∃ P, Sort.partition ltl d a e pv = P := ⟨_, rfl⟩
  rw [hP] at hE ⊢
  have HP : Hid (P = _) := hE
  clear hE hP
  go_enter Tryz.func190, Tryz.ntmps190
  go_wp2_with fail
  refine hsw0.mono ?_
  rintro ee w0 ⟨rfl, hT0⟩
  have HT0 : Hid (To b N w d0 w0) := hT0
  clear hT0 hsw0
  go_upto_block 0 with fail
  go_cut [10] from 20 to 30 (fun v W => v = .int .i64 i2 ∧ To b N w d0 W)
  case first =>
    go_wp2_with fail
    go_loopw [10] (fun vi wr => ∃ (k : Nat), vi = .int .i64 k ∧ a + 1 ≤ k ∧ k ≤ e - 1 + 1 ∧ Hid (Sort.scanUp (fun x => ltl x d0[a]!) d0 (e - 1) k = i2) ∧ Hid (To b N w d0 wr)) (fun vi _ => (e - 1 + 1 - (intOf vi).toNat))
    case atStart => exact ⟨a + 1, by go_num, by omega, by omega, HI2, HT0⟩
    case round =>
      obtain ⟨k, rfl, hik, hkj, HU, HT1⟩ := hrel
      clear HT0
      by_cases hkj2 : k ≤ e - 1
      · have hz : (k : Int) ≤ (e : Int) - 1 := by omega
        have hl := L1 _ HT1.out k a (by omega) (by omega)
        cases hlv : ltl d0[k]! d0[a]! with
        | false =>
          rw [hlv] at hl
          have e : k = i2 := by rw [← HU.out, su_end _ d0 (e - 1) k (.inr hlv)]
          have HEk : Hid (k = i2) := e
          clear e hlv HU
          go_wp2_with fail
          refine hl.mono ?_
          rintro ee w2 ⟨rfl, hT2⟩
          have HT2 : Hid (To b N w d0 w2) := hT2
          clear hT2 hl
          go_wp2_with fail
          go_meet
          exact ⟨by rw [HEk.out], HT2.out⟩
        | true =>
          rw [hlv] at hl
          have HU2 : Hid (Sort.scanUp (fun x => ltl x d0[a]!) d0 (e - 1) (k + 1) = i2) := by rw [← HU.out, su_go _ d0 (e - 1) k hkj2 hlv]; exact rfl
          clear hlv HU
          go_wp2_with fail
          refine hl.mono ?_
          rintro ee w2 ⟨rfl, hT2⟩
          have HT2 : Hid (To b N w d0 w2) := hT2
          clear hT2 hl
          go_wp2_with fail
          go_roundw
          case rel => exact ⟨k + 1, by go_num, by omega, by omega, HU2, HT2⟩
          case measure => simp [intOf]; omega
      · have hz : ¬ (k : Int) ≤ (e : Int) - 1 := by omega
        have e : k = i2 := by rw [← HU.out, su_end _ d0 (e - 1) k (.inl hkj2)]
        have HEk : Hid (k = i2) := e
        clear e HU
        go_wp2_with fail
        go_meet
        exact ⟨by rw [HEk.out], HT1.out⟩
  obtain ⟨rfl, hTc⟩ := hcut
  have HTc : Hid (To b N w d0 wc) := hTc
  clear hTc HT0 HI2
  go_upto_block 2 with fail
  go_cut [11] from 31 to 42 (fun v W => v = .int .i64 j2 ∧ To b N w d0 W)
  case first =>
    go_wp2_with fail
    go_loopw [11] (fun vi wr => ∃ (k : Nat), vi = .int .i64 k ∧ k ≤ e - 1 ∧ i2 ≤ k + 1 ∧ Hid (Sort.scanDown (fun x => !ltl x d0[a]!) d0 i2 k = j2) ∧ Hid (To b N w d0 wr)) (fun vi _ => (intOf vi).toNat)
    case atStart => exact ⟨e - 1, by congr 1; omega, by omega, by omega, HJ2, HTc⟩
    case round =>
      obtain ⟨k, rfl, hkj, hik, HU, HT1⟩ := hrel
      clear HTc
      by_cases hkj2 : i2 ≤ k
      · have hz : (i2 : Int) ≤ (k : Int) := by omega
        have hl := L1 _ HT1.out k a (by omega) (by omega)
        cases hlv : ltl d0[k]! d0[a]! with
        | true =>
          rw [hlv] at hl
          have e : k = j2 := by rw [← HU.out, sn_end _ d0 i2 k (.inr (by simp [hlv]))]
          have HEk : Hid (k = j2) := e
          clear e hlv HU
          go_wp2_with fail
          refine hl.mono ?_
          rintro ee w2 ⟨rfl, hT2⟩
          have HT2 : Hid (To b N w d0 w2) := hT2
          clear hT2 hl
          go_wp2_with fail
          go_meet
          exact ⟨by rw [HEk.out], HT2.out⟩
        | false =>
          rw [hlv] at hl
          have HU2 : Hid (Sort.scanDown (fun x => !ltl x d0[a]!) d0 i2 (k - 1) = j2) := by rw [← HU.out, sn_go _ d0 i2 k hkj2 (by omega) (by simp [hlv])]; exact rfl
          clear hlv HU
          go_wp2_with fail
          refine hl.mono ?_
          rintro ee w2 ⟨rfl, hT2⟩
          have HT2 : Hid (To b N w d0 w2) := hT2
          clear hT2 hl
          go_wp2_with fail
          go_roundw
          case rel => exact ⟨k - 1, by congr 1; omega, by omega, by omega, HU2, HT2⟩
          case measure => simp [intOf]; omega
      · have hz : ¬ (i2 : Int) ≤ (k : Int) := by omega
        have e : k = j2 := by rw [← HU.out, sn_end _ d0 i2 k (.inl hkj2)]
        have HEk : Hid (k = j2) := e
        clear e HU
        go_wp2_with fail
        go_meet
        exact ⟨by rw [HEk.out], HT1.out⟩
  obtain ⟨rfl, hTd⟩ := hcut
  have HTd : Hid (To b N w d0 wc) := hTd
  clear hTd HTc HJ2
  by_cases hgt : j2 < i2
  · have hz : (j2 : Int) < (i2 : Int) := by omega
    have HQ : Hid (P = (j2, true, Sort.swp d0 j2 a)) := by rw [HP.out, if_pos hgt]; exact rfl
    clear HP
    have hsw := HTd.out.swap c j2 a (by rw [HS.out]; omega) (by rw [HS.out]; omega)
    rw [HS.out] at hsw
    generalize Sort.swp d0 j2 a = d2 at *
    clear L1 HS x5
    go_wp2_with fail
    refine hsw.mono ?_
    rintro ee w4 ⟨rfl, hT4⟩
    have HT4 : Hid (To b N w d2 w4) := hT4
    clear hT4 hsw
    go_wp2_with fail
    go_ret2
    exact ⟨by rw [HQ.out]; rfl, by rw [HQ.out]; exact HT4.out⟩
  · have hz : ¬ (j2 : Int) < (i2 : Int) := by omega
    have HQ : Hid (P = ((Sort.partLoop ltl a (i2 + 1) (j2 - 1) (Sort.swp d0 i2 j2)).1, false, Sort.swp (Sort.partLoop ltl a (i2 + 1) (j2 - 1) (Sort.swp d0 i2 j2)).2 (Sort.partLoop ltl a (i2 + 1) (j2 - 1) (Sort.swp d0 i2 j2)).1 a)) := by rw [HP.out, if_neg hgt]; exact rfl
    clear HP
    have x6 : i2 + 1 ≤ j2 := x5 (by omega)
    have hsw := HTd.out.swap c i2 j2 (by rw [HS.out]; omega) (by rw [HS.out]; omega)
    rw [HS.out] at hsw
    have HZ : Hid ((Sort.swp d0 i2 j2).size = n) := by rw [swp_size]; exact HS
    generalize Sort.swp d0 i2 j2 = d2 at *
    obtain ⟨R, hR⟩ : ∃ R, Sort.partLoop ltl a (i2 + 1) (j2 - 1) d2 = R := ⟨_, rfl⟩
    rw [hR] at HQ
    have HR : Hid (Sort.partLoop ltl a (i2 + 1) (j2 - 1) d2 = R) := hR
    clear hR L1 HS x5 HTd
    go_wp2_with fail
    refine hsw.mono ?_
    rintro ee w4 ⟨rfl, hT4⟩
    have HT4 : Hid (To b N w d2 w4) := hT4
    clear hT4 hsw
    go_wp2_with fail
    go_loopw [10, 11] (fun vi vj wr => ∃ (i j : Nat) (dk : Array (List Int)), vi = .int .i64 i ∧ vj = .int .i64 j ∧ a < i ∧ i ≤ j + 1 ∧ j < n ∧ Hid (dk.size = n) ∧ Hid (To b N w dk wr) ∧ Hid (Sort.partLoop ltl a i j dk = R)) (fun vi vj _ => ((intOf vj) + 1 - (intOf vi)).toNat)
    case atStart => exact ⟨i2 + 1, j2 - 1, d2, by go_num, by congr 1; omega, by omega, by omega, by omega, HZ, HT4, HR⟩
    case round =>
      obtain ⟨i, j, dk, rfl, rfl, hai, hij, hjn, HS, HT, HE⟩ := hrel
      clear HT4 HZ HR x1 x2 x3 x4 x6 hgt hz
      obtain ⟨i3, hi2⟩ : ∃ i2, Sort.scanUp (fun x => ltl x dk[a]!) dk (j) (i) = i2 := ⟨_, rfl⟩
      obtain ⟨j3, hj2⟩ : ∃ j2, Sort.scanDown (fun x => !ltl x dk[a]!) dk i3 (j) = j2 := ⟨_, rfl⟩
      have HI2 : Hid (Sort.scanUp (fun x => ltl x dk[a]!) dk (j) (i) = i3) := hi2
      have HJ2 : Hid (Sort.scanDown (fun x => !ltl x dk[a]!) dk i3 (j) = j3) := hj2
      have b1 := Sort.scanUp_spec (fun x => ltl x dk[a]!) dk (j) _ (i) rfl
      rw [hi2] at b1
      have b2 := Sort.scanDown_spec (fun x => !ltl x dk[a]!) dk i3 (j)
      rw [hj2] at b2
      have x1 : i ≤ i3 := b1.1
      have x2 : i3 ≤ j + 1 := b1.2.1 hij
      have x3 : j3 ≤ j := b2.1
      have x4 : i3 ≤ j3 + 1 := b2.2.1 x2
      have x5 : i3 ≤ j3 → i3 + 1 ≤ j3 := fun hle => by
        rcases Nat.lt_or_ge i3 j3 with h | h
        · exact h
        · have e : i3 = j3 := by omega
          have y1 := b1.2.2.2 (by omega)
          have y2 := b2.2.2.2 hle (by omega)
          rw [e] at y1
          have y3 : ltl dk[j3]! dk[a]! = false := y1
          have y4 : (!ltl dk[j3]! dk[a]!) = false := y2
          rw [y3] at y4
          cases y4
      have L1 := fun W (hW : To b N w dk W) (p q : Nat) (hp : p < n) (hq : q < n) => by
        have := hW.less c p q (by rw [HS.out]; exact hp) (by rw [HS.out]; exact hq)
        rw [HS.out] at this
        exact this
      have hstep := Sort.partLoop_eq (lt := ltl) a i j dk
      rw [hi2, hj2] at hstep
      have HST : Hid _ := hstep
      clear hi2 hj2 b1 b2 hstep
      go_upto_block 6 with fail
      go_cut [10] from 59 to 69 (fun v W => v = .int .i64 i3 ∧ To b N w dk W)
      case first =>
        go_wp2_with fail
        go_loopw [10] (fun vi wr => ∃ (k : Nat), vi = .int .i64 k ∧ i ≤ k ∧ k ≤ j + 1 ∧ Hid (Sort.scanUp (fun x => ltl x dk[a]!) dk (j) k = i3) ∧ Hid (To b N w dk wr)) (fun vi _ => (j + 1 - (intOf vi).toNat))
        case atStart => exact ⟨i, rfl, by omega, by omega, HI2, HT⟩
        case round =>
          obtain ⟨k, rfl, hik, hkj, HU, HT1⟩ := hrel
          clear HT
          by_cases hkj2 : k ≤ j
          · have hz : (k : Int) ≤ (j : Int) := by omega
            have hl := L1 _ HT1.out k a (by omega) (by omega)
            cases hlv : ltl dk[k]! dk[a]! with
            | false =>
              rw [hlv] at hl
              have e : k = i3 := by rw [← HU.out, su_end _ dk (j) k (.inr hlv)]
              have HEk : Hid (k = i3) := e
              clear e hlv HU
              go_wp2_with fail
              refine hl.mono ?_
              rintro ee w2 ⟨rfl, hT2⟩
              have HT2 : Hid (To b N w dk w2) := hT2
              clear hT2 hl
              go_wp2_with fail
              go_meet
              exact ⟨by rw [HEk.out], HT2.out⟩
            | true =>
              rw [hlv] at hl
              have HU2 : Hid (Sort.scanUp (fun x => ltl x dk[a]!) dk (j) (k + 1) = i3) := by rw [← HU.out, su_go _ dk (j) k hkj2 hlv]; exact rfl
              clear hlv HU
              go_wp2_with fail
              refine hl.mono ?_
              rintro ee w2 ⟨rfl, hT2⟩
              have HT2 : Hid (To b N w dk w2) := hT2
              clear hT2 hl
              go_wp2_with fail
              go_roundw
              case rel => exact ⟨k + 1, by go_num, by omega, by omega, HU2, HT2⟩
              case measure => simp [intOf]; omega
          · have hz : ¬ (k : Int) ≤ (j : Int) := by omega
            have e : k = i3 := by rw [← HU.out, su_end _ dk (j) k (.inl hkj2)]
            have HEk : Hid (k = i3) := e
            clear e HU
            go_wp2_with fail
            go_meet
            exact ⟨by rw [HEk.out], HT1.out⟩
      obtain ⟨rfl, hTc⟩ := hcut
      have HTc : Hid (To b N w dk wc) := hTc
      clear hTc HT HI2
      go_upto_block 8 with fail
      go_cut [11] from 70 to 81 (fun v W => v = .int .i64 j3 ∧ To b N w dk W)
      case first =>
        go_wp2_with fail
        go_loopw [11] (fun vi wr => ∃ (k : Nat), vi = .int .i64 k ∧ k ≤ j ∧ i3 ≤ k + 1 ∧ Hid (Sort.scanDown (fun x => !ltl x dk[a]!) dk i3 k = j3) ∧ Hid (To b N w dk wr)) (fun vi _ => (intOf vi).toNat)
        case atStart => exact ⟨j, rfl, by omega, by omega, HJ2, HTc⟩
        case round =>
          obtain ⟨k, rfl, hkj, hik, HU, HT1⟩ := hrel
          clear HTc
          by_cases hkj2 : i3 ≤ k
          · have hz : (i3 : Int) ≤ (k : Int) := by omega
            have hl := L1 _ HT1.out k a (by omega) (by omega)
            cases hlv : ltl dk[k]! dk[a]! with
            | true =>
              rw [hlv] at hl
              have e : k = j3 := by rw [← HU.out, sn_end _ dk i3 k (.inr (by simp [hlv]))]
              have HEk : Hid (k = j3) := e
              clear e hlv HU
              go_wp2_with fail
              refine hl.mono ?_
              rintro ee w2 ⟨rfl, hT2⟩
              have HT2 : Hid (To b N w dk w2) := hT2
              clear hT2 hl
              go_wp2_with fail
              go_meet
              exact ⟨by rw [HEk.out], HT2.out⟩
            | false =>
              rw [hlv] at hl
              have HU2 : Hid (Sort.scanDown (fun x => !ltl x dk[a]!) dk i3 (k - 1) = j3) := by rw [← HU.out, sn_go _ dk i3 k hkj2 (by omega) (by simp [hlv])]; exact rfl
              clear hlv HU
              go_wp2_with fail
              refine hl.mono ?_
              rintro ee w2 ⟨rfl, hT2⟩
              have HT2 : Hid (To b N w dk w2) := hT2
              clear hT2 hl
              go_wp2_with fail
              go_roundw
              case rel => exact ⟨k - 1, by congr 1; omega, by omega, by omega, HU2, HT2⟩
              case measure => simp [intOf]; omega
          · have hz : ¬ (i3 : Int) ≤ (k : Int) := by omega
            have e : k = j3 := by rw [← HU.out, sn_end _ dk i3 k (.inl hkj2)]
            have HEk : Hid (k = j3) := e
            clear e HU
            go_wp2_with fail
            go_meet
            exact ⟨by rw [HEk.out], HT1.out⟩
      obtain ⟨rfl, hTd⟩ := hcut
      have HTd : Hid (To b N w dk wc) := hTd
      clear hTd HTc HJ2
      by_cases hgt : j3 < i3
      · have hz : (j3 : Int) < (i3 : Int) := by omega
        have HF : Hid (R = (j3, dk)) := by rw [← HE.out, HST.out, if_pos hgt]; exact rfl
        have hsw := HTd.out.swap c j3 a (by rw [HS.out]; omega) (by rw [HS.out]; omega)
        rw [HS.out] at hsw
        clear HST HE L1 x5
        go_wp2_with fail
        refine hsw.mono ?_
        rintro ee w4 ⟨rfl, hT4⟩
        have HT4 : Hid (To b N w (Sort.swp dk j3 a) w4) := hT4
        clear hT4 hsw
        go_wp2_with fail
        go_ret2
        exact ⟨by rw [HQ.out, HF.out]; rfl, by rw [HQ.out, HF.out]; exact HT4.out⟩
      · have hz : ¬ (j3 : Int) < (i3 : Int) := by omega
        have x6 : i3 + 1 ≤ j3 := x5 (by omega)
        have hsw := HTd.out.swap c i3 j3 (by rw [HS.out]; omega) (by rw [HS.out]; omega)
        rw [HS.out] at hsw
        have HZ : Hid ((Sort.swp dk i3 j3).size = n) := by rw [swp_size]; exact HS
        have HE2 : Hid (Sort.partLoop ltl a (i3 + 1) (j3 - 1) (Sort.swp dk i3 j3) = R) := by rw [← HE.out, HST.out, if_neg hgt]; exact rfl
        generalize Sort.swp dk i3 j3 = d3 at *
        clear HST HE L1 x5
        go_wp2_with fail
        refine hsw.mono ?_
        rintro ee w4 ⟨rfl, hT4⟩
        have HT4 : Hid (To b N w d3 w4) := hT4
        clear hT4 hsw
        go_wp2_with fail
        go_roundw
        case rel => exact ⟨i3 + 1, j3 - 1, d3, by go_num, by congr 1; omega, by omega, by omega, by omega, HZ, HT4, HE2⟩
        case measure => simp [intOf]; omega

end Go.Proofs.YtojgablpjdlegaaGreatDoor
