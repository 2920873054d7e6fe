/- sort.xorshift.Next, sort.nextPowerOfTwo, sort.breakPatterns. -/
import Derived.Test.YtmjcikomcnokkaaDoorWPivot
import Derived.Test.YtmjcikomcnokkaaDoorWSort
import Derived.Sort.LotD5
import Derived.Sort.Row
import Derived.Laws.Bits64
import Derived.Laws.Bits64b
namespace Go.Proofs.YtmjcikomcnokkaaDoor
open Go.RowKit

/-- The names d, and the generator's number in a block of its own. -/
structure Sq (b N S : Nat) (w : World) (d : Array (List Int)) (x : Nat) (W : World) : Prop where
  tt : To b N w d W
  cell : W.rowIs S 109 1 (fun _ => .int .u64 x)
  new : w.heap.size ≤ S
  old : b < w.heap.size

theorem Sq.swap {b N S : Nat} {w W : World} {d : Array (List Int)} {x : Nat} (h : Sq b N S w d x W) (c n i j : Nat) (hn : d.size = n) (hi : i < n) (hj : j < n) :
    Calls Tryd.prog 103 #[sl b n c, .int .i64 i, .int .i64 j] W fun e W' => e = .returned (.tuple #[]) ∧ Sq b N S w (Sort.swp d i j) x W' := by
  have := swap_any b N c d W h.tt.rw i j (by omega) (by omega)
  rw [hn] at this
  have h1 := h.new
  have h2 := h.old
  exact this.mono fun _ _ ⟨g1, g2, g3⟩ => ⟨g1, h.tt.then ⟨g2, g3⟩, rowIs_fr h.cell g3 (by omega), h.new, h.old⟩

theorem Sq.set {b N S : Nat} {w W : World} {d : Array (List Int)} {x : Nat} (h : Sq b N S w d x W) (t : Nat) : Sq b N S w d t (W.setCell ⟨S, 0, none⟩ (.int .u64 t)) := by
  have f := set_fr W S 0 (.int .u64 t)
  have h1 := h.new
  have h2 := h.old
  refine ⟨⟨h.tt.rw.fr f (by omega), ?_⟩, set_row h.cell 0 _ (fun j hj => by rw [if_pos (by omega)]), h1, h2⟩
  exact h.tt.fr.trans (P' := fun k => k = S) f (fun i hi e => by omega)

theorem Sq.drew {b N S : Nat} {w W : World} {d : Array (List Int)} {x : Nat} (h : Sq b N S w d x W) : Sq b N S w d x W.drew :=
  ⟨h.tt.drew, rowIs_fr (P := fun _ => False) h.cell (Fr.refl _ W).drew (fun h => h), h.new, h.old⟩

theorem Sq.start {b N : Nat} {w : World} {d : Array (List Int)} (h : Rw w b N d) (x : Nat) : Sq b N w.heap.size w d x (w.alloc (.cells #[.int .u64 x] 109)) :=
  ⟨⟨h.keep (new_below w _), (Fr.refl _ w).alloc _⟩, World.rowIs_alloc w #[.int .u64 x] 109 (fun _ => .int .u64 (x : Int)) (fun i hi => by simp at hi; subst hi; rfl), Nat.le_refl _, h.lt⟩

theorem Sq.ld {b N S : Nat} {w W : World} {d : Array (List Int)} {x : Nat} (h : Sq b N S w d x W) : W.cell? ⟨S, 0, none⟩ = some (.int .u64 x) := h.cell.cell (i := 0) (by omega)

theorem set_set (w : World) (S : Nat) (v u : Value) : (w.setCell ⟨S, 0, none⟩ v).setCell ⟨S, 0, none⟩ u = w.setCell ⟨S, 0, none⟩ u := by
  rw [Sort.setCell_eq, Sort.setCell_eq, Sort.mapBlock_mapBlock, Sort.setCell_eq]
  congr 1
  funext c
  simp

set_option maxHeartbeats 2000000 in
set_option maxRecDepth 100000 in
theorem next_any (b N S x : Nat) (d : Array (List Int)) (w W : World) (h : Sq b N S w d x W) (hx : x < 18446744073709551616) :
    Calls Tryd.prog 77 #[.pointer (some ⟨S, 0, none⟩)] W fun e W' => e = .returned (.int .u64 (Sort.xorNextN x : Nat)) ∧ Sq b N S w d (Sort.xorNextN x) W' := by
  obtain ⟨A, hA⟩ : ∃ A : Nat, A = x ^^^ (x * 8192 % 18446744073709551616) := ⟨_, rfl⟩
  obtain ⟨B, hB⟩ : ∃ B : Nat, B = A ^^^ (A / 128) := ⟨_, rfl⟩
  obtain ⟨C, hC⟩ : ∃ C : Nat, C = B ^^^ (B * 131072 % 18446744073709551616) := ⟨_, rfl⟩
  have lA : A < 18446744073709551616 := by rw [hA]; exact Nat.xor_lt_two_pow (n := 64) (by omega) (by omega)
  have lB : B < 18446744073709551616 := by rw [hB]; exact Nat.xor_lt_two_pow (n := 64) (by omega) (by omega)
  have e1 : bits .xor .u64 (x : Int) (IntKind.u64.wrap ((x : Int) * 8192)) = (A : Int) := by
    rw [IntKind.wrap_u64, show ((x : Int) * 8192 % 18446744073709551616) = ((x * 8192 % 18446744073709551616 : Nat) : Int) by omega, bits_xor_u64_nat _ _ hx (by omega), hA]
  have e2 : bits .xor .u64 (A : Int) ((A : Int) / 128) = (B : Int) := by
    rw [show ((A : Int) / 128) = ((A / 128 : Nat) : Int) by omega, bits_xor_u64_nat _ _ lA (by omega), hB]
  have e3 : bits .xor .u64 (B : Int) (IntKind.u64.wrap ((B : Int) * 131072)) = (C : Int) := by
    rw [IntKind.wrap_u64, show ((B : Int) * 131072 % 18446744073709551616) = ((B * 131072 % 18446744073709551616 : Nat) : Int) by omega, bits_xor_u64_nat _ _ lB (by omega), hC]
  have hv : Sort.xorNextN x = C := by unfold Sort.xorNextN; simp only []; rw [← hA, ← hB, ← hC]
  rw [hv]
  have hc := h.ld
  have hf := h.cell.frozen 0
  have HH : Hid (Sq b N S w d x W) := h
  clear hA hB hC hv h
  have hss : ∀ v v', (W.setCell ⟨S, 0, none⟩ v).setCell ⟨S, 0, none⟩ v' = W.setCell ⟨S, 0, none⟩ v' := set_set W S
  go_enter Tryd.func77, Tryd.ntmps77
  go_wp2
  go_region
  all_goals go_wp2
  all_goals go_region
  all_goals go_wp2
  all_goals go_region
  all_goals go_wp2
  go_ret
  exact ⟨rfl, (HH.out.set C).drew.drew.drew⟩

theorem bl_all (m : Nat) : ∀ n : Nat, n ≤ m → n < 2 ^ 64 → Lib.bitLen n = Sort.bitsLen n := by
  induction m with
  | zero => intro n h _; obtain rfl : n = 0 := by omega
            rfl
  | succ m ih =>
    intro n h hb
    by_cases h0 : n = 0
    · subst h0; rfl
    · rw [Lib.bitLen_half n h0 hb, ih (n / 2) (by omega) (by omega)]
      unfold Sort.bitsLen
      rw [if_neg h0, Nat.log2_def n]
      by_cases h2 : 2 ≤ n
      · rw [if_pos h2, if_neg (by omega)]; omega
      · obtain rfl : n = 1 := by omega
        simp

theorem bl_eq (n : Nat) (h : n < 100000) : Lib.bitLen n = Sort.bitsLen n := bl_all n n (Nat.le_refl _) (by omega)

set_option maxHeartbeats 2000000 in
set_option maxRecDepth 100000 in
theorem npow_any (n : Nat) (hn : n < 100000) (w : World) :
    Calls Tryd.prog 76 #[.int .i64 n] w fun e w' => e = .returned (.int .u64 ((1 <<< Sort.bitsLen n : Nat) : Int)) ∧ w' = w := by
  have hb := fun w => Any.bits_Len Tryd.blen (n : Int) w (by omega) (by omega)
  change ∀ w, Calls Tryd.prog 55 _ w _ at hb
  rw [Int.toNat_natCast, bl_eq n hn] at hb
  have hk : Sort.bitsLen n ≤ 62 := (Sort.bitsLen_le_iff n 62).2 (by omega)
  obtain ⟨M, hM⟩ : ∃ M : Nat, M = 1 <<< Sort.bitsLen n := ⟨_, rfl⟩
  have hp : IntKind.u64.wrap ((2 : Int) ^ Sort.bitsLen n) = (M : Int) := by
    have h : (2 : Nat) ^ Sort.bitsLen n ≤ 2 ^ 62 := Nat.pow_le_pow_right (by decide) hk
    rw [hM, IntKind.wrap_u64, Nat.one_shiftLeft, show ((2 : Int) ^ Sort.bitsLen n) = ((2 ^ Sort.bitsLen n : Nat) : Int) by push_cast; rfl]
    generalize (2 : Nat) ^ Sort.bitsLen n = p at h
    omega
  have hw1 : IntKind.u64.wrap (n : Int) = n := wraps_u64 _ (by omega) (by omega)
  rw [← hM]
  clear hM
  generalize Sort.bitsLen n = K at *
  go_enter Tryd.func76, Tryd.ntmps76
  go_wp2_with (go_at_call 55; refine (hb _).mono ?_; rintro e w' ⟨rfl, rfl⟩)
  go_ret
  exact ⟨rfl, rfl⟩

/-- So many rounds of breakPatterns are left; t are made. -/
def bq (a L M I : Nat) : Nat → Nat → UInt64 → Array (List Int) → Array (List Int)
  | 0, _, _, d => d
  | k + 1, t, r, d => bq a L M I k (t + 1) (Sort.breakStep a L M (r, d) (I + t)).1 (Sort.breakStep a L M (r, d) (I + t)).2

theorem bq_all (d : Array (List Int)) (a L : Nat) (h8 : 8 ≤ L) : Sort.breakPatterns d a (a + L) = bq a L (1 <<< Sort.bitsLen L) (a + L / 4 * 2 - 1) 3 0 (UInt64.ofNat L) d := by
  unfold Sort.breakPatterns
  simp only [Nat.add_sub_cancel_left]
  rw [if_pos h8]
  rfl

theorem bq_step (a L M I k t : Nat) (r : UInt64) (d : Array (List Int)) (o : Nat) (ho : (if (Sort.xorNext r).toNat &&& (M - 1) ≥ L then ((Sort.xorNext r).toNat &&& (M - 1)) - L else (Sort.xorNext r).toNat &&& (M - 1)) = o) :
    bq a L M I (k + 1) t r d = bq a L M I k (t + 1) (Sort.xorNext r) (Sort.swp d (I + t) (a + o)) := by
  rw [bq]
  unfold Sort.breakStep
  simp only [ho]

set_option maxHeartbeats 4000000 in
set_option maxRecDepth 100000 in
theorem brk_big (b N c n A L M J : Nat) (a e : Int) (d R : Array (List Int)) (w : World) (HS0 : Hid (Sq b N w.heap.size w d (UInt64.ofNat L).toNat (w.alloc (.cells #[.int .u64 (L : Int)] 109)))) (HN : Hid (d.size = n))
    (hz1 : IntKind.i64.wrap (e - a) = (L : Int)) (q3 : IntKind.i64.wrap (a + (L : Int) / 4 * 2) = (J : Int)) (hu : IntKind.u64.wrap (L : Int) = (L : Int))
    (hz3 : (8 : Int) ≤ (L : Int)) (HA : Hid (a = (A : Int))) (hLn : A + L ≤ n) (hsz : n < 100000) (hJ1 : 1 ≤ J) (hJ2 : J + 1 < A + L) (hM1 : 1 ≤ M) (hM2 : M ≤ 2 * L)
    (hnp : ∀ W, Calls Tryd.prog 76 #[.int .i64 (L : Int)] W fun e W' => e = .returned (.int .u64 (M : Int)) ∧ W' = W)
    (HR : Hid (bq A L M (J - 1) 3 0 (UInt64.ofNat L) d = R)) :
    Calls Tryd.prog 66 #[iv b n c, .int .i64 a, .int .i64 e] w fun ee w' => ee = .returned (.tuple #[]) ∧ To b N w R w' := by
  have m2 := mSwap b n c
  go_enter Tryd.func66, Tryd.ntmps66
  go_wp2_with fail
  refine (hnp _).mono ?_
  rintro ee W1 ⟨rfl, rfl⟩
  clear hnp
  go_wp2_with fail
  go_loopw [9] (fun vi wr => ∃ (k t s : Nat) (r : UInt64) (dk : Array (List Int)), vi = .int .i64 k ∧ Hid (k = J - 1 + t) ∧ k + s = J + 2 ∧ t + s = 3 ∧ Hid (dk.size = n) ∧ Hid (Sq b N w.heap.size w dk r.toNat wr) ∧ Hid (bq A L M (J - 1) s t r dk = R)) (fun vi _ => J + 3 - (intOf vi).toNat)
  case atStart => exact ⟨J - 1, 0, 3, UInt64.ofNat L, d, by congr 1; omega, rfl, by omega, rfl, HN, HS0, HR⟩
  case round =>
    obtain ⟨k, t, s, r, dk, rfl, HK, hks, hts, HSz, HSq, HE⟩ := hrel
    clear HS0 HN HR
    cases s with
    | zero =>
      have hz : ¬ (k : Int) ≤ (J : Int) + 1 := by omega
      have HF : Hid (dk = R) := HE
      clear HE
      go_wp2_with fail
      go_end0
      exact ⟨rfl, by rw [← HF.out]; exact HSq.out.tt⟩
    | succ s =>
      have hz : (k : Int) ≤ (J : Int) + 1 := by omega
      obtain ⟨X, hX⟩ : ∃ X : Nat, X = r.toNat := ⟨_, rfl⟩
      have lX : X < 18446744073709551616 := by rw [hX]; exact r.toNat_lt
      have hnx := next_any b N w.heap.size X dk w wr (by rw [hX]; exact HSq.out) lX
      obtain ⟨Y, hY⟩ : ∃ Y : Nat, Y = Sort.xorNextN X := ⟨_, rfl⟩
      have lY : Y < 18446744073709551616 := by rw [hY]; exact Sort.xorNextN_lt X lX
      rw [← hY] at hnx
      have eY : Y = (Sort.xorNext r).toNat := by rw [hY, hX, Sort.xorNext_toNat]
      obtain ⟨O, hO⟩ : ∃ O : Nat, O = Y &&& (M - 1) := ⟨_, rfl⟩
      have lO : O ≤ M - 1 := by rw [hO]; exact Nat.and_le_right
      have eAnd : bits .and .u64 (Y : Int) ((M : Int) - 1) = (O : Int) := by
        rw [show ((M : Int) - 1) = ((M - 1 : Nat) : Int) by omega, bits_and_u64_nat _ _ lY (by omega), hO]
      have wO : IntKind.i64.wrap (O : Int) = (O : Int) := wraps_i64 _ (by omega) (by omega)
      by_cases hLO : L ≤ O
      · have hzo : (L : Int) ≤ (O : Int) := by omega
        have hst := bq_step A L M (J - 1) s t r dk (O - L) (by rw [← eY, ← hO, if_pos hLO])
        rw [← HK.out] at hst
        have HE2 : Hid (bq A L M (J - 1) s (t + 1) (Sort.xorNext r) (Sort.swp dk k (A + (O - L))) = R) := by rw [← HE.out, hst]; exact rfl
        obtain ⟨P, hP⟩ : ∃ P : Nat, P = A + (O - L) := ⟨_, rfl⟩
        rw [← hP] at HE2
        have hPn : P < n := by omega
        have wP : IntKind.i64.wrap (a + ((O : Int) - (L : Int))) = (P : Int) := by rw [HA.out, wraps_i64 _ (by omega) (by omega)]; omega
        have hsw := fun W (hW : Sq b N w.heap.size w dk Y W) => hW.swap c n k P HSz.out (by omega) hPn
        have HS2 : Hid ((Sort.swp dk k P).size = n) := by rw [swp_size]; exact HSz
        have HY : Hid (Y = (Sort.xorNext r).toNat) := eY
        generalize Sort.swp dk k P = d2 at *
        clear hst HE hX hY hO eY HSq hP lX
        go_wp2_with fail
        refine hnx.mono ?_
        rintro ee W2 ⟨rfl, hS2⟩
        have HSW : Hid (Sq b N w.heap.size w dk Y W2) := hS2
        clear hS2 hnx
        go_wp2_with fail
        refine (hsw _ HSW.out).mono ?_
        rintro ee W3 ⟨rfl, hS3⟩
        have HS3 : Hid (Sq b N w.heap.size w d2 (Sort.xorNext r).toNat W3) := by rw [← HY.out]; exact hS3
        clear hS3 hsw
        have HK2 : Hid (k + 1 = J - 1 + (t + 1)) := by rw [HK.out]; exact rfl
        go_wp2_with fail
        go_roundw
        case rel => exact ⟨k + 1, t + 1, s, Sort.xorNext r, d2, by go_num, HK2, by omega, by omega, HS2, HS3, HE2⟩
        case measure => simp [intOf]; omega
      · have hzo : ¬ (L : Int) ≤ (O : Int) := by omega
        have hst := bq_step A L M (J - 1) s t r dk O (by rw [← eY, ← hO, if_neg hLO])
        rw [← HK.out] at hst
        have HE2 : Hid (bq A L M (J - 1) s (t + 1) (Sort.xorNext r) (Sort.swp dk k (A + O)) = R) := by rw [← HE.out, hst]; exact rfl
        obtain ⟨P, hP⟩ : ∃ P : Nat, P = A + O := ⟨_, rfl⟩
        rw [← hP] at HE2
        have hPn : P < n := by omega
        have wP : IntKind.i64.wrap (a + (O : Int)) = (P : Int) := by rw [HA.out, wraps_i64 _ (by omega) (by omega)]; omega
        have hsw := fun W (hW : Sq b N w.heap.size w dk Y W) => hW.swap c n k P HSz.out (by omega) hPn
        have HS2 : Hid ((Sort.swp dk k P).size = n) := by rw [swp_size]; exact HSz
        have HY : Hid (Y = (Sort.xorNext r).toNat) := eY
        generalize Sort.swp dk k P = d2 at *
        clear hst HE hX hY hO eY HSq hP lX
        go_wp2_with fail
        refine hnx.mono ?_
        rintro ee W2 ⟨rfl, hS2⟩
        have HSW : Hid (Sq b N w.heap.size w dk Y W2) := hS2
        clear hS2 hnx
        go_wp2_with fail
        refine (hsw _ HSW.out).mono ?_
        rintro ee W3 ⟨rfl, hS3⟩
        have HS3 : Hid (Sq b N w.heap.size w d2 (Sort.xorNext r).toNat W3) := by rw [← HY.out]; exact hS3
        clear hS3 hsw
        have HK2 : Hid (k + 1 = J - 1 + (t + 1)) := by rw [HK.out]; exact rfl
        go_wp2_with fail
        go_roundw
        case rel => exact ⟨k + 1, t + 1, s, Sort.xorNext r, d2, by go_num, HK2, by omega, by omega, HS2, HS3, HE2⟩
        case measure => simp [intOf]; omega

end Go.Proofs.YtmjcikomcnokkaaDoor
