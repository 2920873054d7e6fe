/- What is written, with any effort, is read again, by any reader; it is never longer than stored. -/
import Derived.Test.YtiahbicodlgmhaaGreatDoorM44
namespace Go.Proofs.YtiahbicodlgmhaaGreatDoor.D
open Go.RowKit
open Go.Proofs.YtiahbicodlgmhaaGreatDoor.Z

theorem none_bytes (w : World) (base : Nat) (hb : base ≤ w.heap.size) : (w.alloc (.cells #[] 5)).ownsRow base 5 1 (.slice (some ⟨w.heap.size, 0, none⟩) 0 0) 0 (([] : List Int).map (Value.int .u8)) :=
  World.ownsRow_lit (base := base) (e := 5) (size := 1) w #[] 0 hb (by unfold maxLen; omega) rfl

theorem back_skip (a0 : Option Addr) (A ca : Nat) (t0 : Option Addr) (T ct : Nat) (eff : Int) (w : World) (h0 : Tab w 0) (h1 : Tab w 1) (hA : 3000 < A ∨ 100 < T) :
    Calls Tryz.prog 4 #[.slice a0 A ca, .int .i64 eff, .slice t0 T ct] w fun e w' => e = .returned (.bool true) ∧ Below w.heap.size w w' := by
  have hkn := known_yes w h0 h1
  by_cases c1 : 3000 < A
  · have d1 : decide ((3000 : Int) < A) = true := by simp; omega
    have d2 : decide (3000 < A) = true := by simp; omega
    clear hA
    go_enter Tryz.func4, Tryz.ntmps4
    go_wp2_with (go_at_call 8; refine hkn.mono ?_; rintro e w1 ⟨rfl, hb1⟩)
    go_ret
    exact ⟨rfl, hb1⟩
  · have c2 : 100 < T := by omega
    have d1 : decide ((3000 : Int) < A) = false := by simp; omega
    have d2 : decide (3000 < A) = false := by simp; omega
    have d3 : decide ((100 : Int) < T) = true := by simp; omega
    have d4 : decide (100 < T) = true := by simp; omega
    clear hA
    go_enter Tryz.func4, Tryz.ntmps4
    go_wp2_with (go_at_call 8; refine hkn.mono ?_; rintro e w1 ⟨rfl, hb1⟩)
    go_ret
    exact ⟨rfl, hb1⟩

set_option maxRecDepth 100000 in
set_option maxHeartbeats 8000000 in
theorem back_go (a0 : Option Addr) (A ca : Nat) (xs : List Int) (t0 : Option Addr) (T ct : Nat) (ts : List Int) (eff : Int) (w : World) (hra : Rd w a0 A ca xs) (hrt : Rd w t0 T ct ts) (hA : A ≤ 3000) (hT : T ≤ 100) (he : eff < 9223372036854775808) (h0 : Tab w 0) (h1 : Tab w 1) :
    Calls Tryz.prog 4 #[.slice a0 A ca, .int .i64 eff, .slice t0 T ct] w fun e w' => e = .returned (.bool true) ∧ Below w.heap.size w w' := by
  have hkn := known_yes w h0 h1
  have d1 : decide ((3000 : Int) < A) = false := by simp; omega
  have d2 : decide (3000 < A) = false := by simp; omega
  have d3 : decide ((100 : Int) < T) = false := by simp; omega
  have d4 : decide (100 < T) = false := by simp; omega
  have HT0 : Hid (Tab w 0) := h0
  have HT1 : Hid (Tab w 1) := h1
  have HRA : Hid (Rd w a0 A ca xs) := hra
  have HRT : Hid (Rd w t0 T ct ts) := hrt
  have HLX : Hid (xs.length = A ∧ ts.length = T) := ⟨hra.len, hrt.len⟩
  have HBX : Hid ((∀ x ∈ xs, 0 ≤ x ∧ x < 256) ∧ ∀ x ∈ ts, 0 ≤ x ∧ x < 256) := ⟨hra.byt, hrt.byt⟩
  obtain ⟨S, hS⟩ : ∃ S, S = ssz A := ⟨_, rfl⟩
  have HS : Hid (S = ssz A) := hS
  have hSb : S ≤ 3005 := by rw [hS]; unfold ssz nck; omega
  obtain ⟨Q, hQ⟩ : ∃ Q, Q = S + 6 := ⟨_, rfl⟩
  have HBD : Hid (∀ W, Calls Tryz.prog 13 #[.int .i64 A] W fun e w' => e = .returned (.int .i64 (Q : Int)) ∧ w' = W) := fun W => by
    rw [hQ, hS]
    exact bound_yes A W (by omega)
  have yQ : (Q : Int) - 6 = S := by omega
  have yS : IntKind.i64.wrap (S : Int) = S := wraps_i64 _ (by omega) (by omega)
  have hQb : Q ≤ 3011 := by omega
  have HQ : Hid (Q = S + 6) := hQ
  clear h0 h1 hra hrt hS hQ
  go_enter Tryz.func4, Tryz.ntmps4
  go_wp2_with fail
  refine hkn.mono ?_
  rintro e w1 ⟨rfl, B1⟩
  clear hkn
  go_wp2_with fail
  refine (deflate_any a0 A ca xs eff w1 (HRA.out.keep B1) (by omega) he (tab_keep HT1.out B1)).mono ?_
  rintro e w2 ⟨v, F, rfl, hd, ho, b2⟩
  obtain ⟨ao, c, rfl, hrd, _⟩ := Lzz.own_rd ho (by8_byt _ _)
  have B2 := B1.trans (b2.mono B1.size)
  have hle := hd.le
  have hi := rinflate hd.dfl hd.ft HBX.out.1 (by have := HLX.out.1; omega) [] ao _ c A w2 (by rw [List.append_nil]; exact hrd) (by have := HS.out; omega) (by have := HLX.out.1; omega) (by omega)
  rw [HLX.out.1] at hi
  obtain ⟨k1, hk1⟩ : ∃ k1, k1 = (fb F + 7) / 8 := ⟨_, rfl⟩
  rw [← hk1] at hi ⊢
  have m1 : k1 ≤ S := by have := HS.out; omega
  have HB2 : Hid (Below w.heap.size w w2) := B2
  clear hd ho hrd b2 B1 B2 hle hk1
  go_wp2_with fail
  refine hi.mono ?_
  rintro e w3 ⟨xo, xc, rfl, hx, b3⟩
  have B3 := HB2.out.trans (b3.mono HB2.out.size)
  have q1 := str22 hx
  have q2 := str22 (HRA.out.keep B3)
  obtain ⟨sx, hsx⟩ : ∃ sx, sx = strOfNums xs := ⟨_, rfl⟩
  have HSX : Hid (sx = strOfNums xs) := hsx
  rw [← hsx] at q1 q2
  have d5 : decide ((S : Int) < k1) = false := by simp; omega
  have d6 : decide (S < k1) = false := by simp; omega
  have HB3 : Hid (Below w.heap.size w w3) := B3
  clear hi hx b3 B3 hsx HB2 m1
  go_wp2_with fail
  refine (HBD.out w3).mono ?_
  rintro e W3 ⟨rfl, hW3⟩
  subst W3
  clear q1 q2
  go_wp2_with fail
  refine (pack_any a0 A ca xs eff w3 (HRA.out.keep HB3.out) (by omega) he (tab_keep HT1.out HB3.out)).mono ?_
  rintro e w4 ⟨v, F', rfl, hd, ho, b4⟩
  obtain ⟨ao', c', rfl, hrd, _⟩ := Lzz.own_rd ho (pkF_byt _ _)
  have B4 := HB3.out.trans (b4.mono HB3.out.size)
  have HD : Hid (Dd xs eff A F') := hd
  have hle := hd.le
  obtain ⟨l1, hl1⟩ : ∃ l1, l1 = 2 + (fb F' + 7) / 8 + 4 := ⟨_, rfl⟩
  rw [← hl1] at hrd ⊢
  have HL : Hid (l1 = 2 + (fb F' + 7) / 8 + 4) := hl1
  have m1 : 6 ≤ l1 := by omega
  have m2 : l1 ≤ Q := by have := HS.out; have := HQ.out; omega
  have HR4 : Hid (Rd w4 ao' l1 c' (pkF F' xs)) := hrd
  have HB4 : Hid (Below w.heap.size w w4) := B4
  clear hd ho hrd b4 B4 hle hl1 HB3 d5 d6
  have bE : Below w4.heap.size w4 (w4.alloc (.cells #[] 5)) := (Below.refl _ _).alloc (Nat.le_refl _) _
  have HO0 : Hid ((w4.alloc (.cells #[] 5)).ownsRow w4.heap.size 5 1 (.slice (some ⟨w4.heap.size, 0, none⟩) 0 0) 0 (([] : List Int).map (Value.int .u8))) := none_bytes w4 w4.heap.size (Nat.le_refl _)
  have r20 := HR4.out.keep bE
  go_wp2_with (first
    | (refine Sum.wpList_append_v rfl _ _ rfl w4.heap.size (0 + l1) v5 ([] ++ pkF F' xs) rfl o5 t0 T ct ts rfl r31 (by omega) B5.size ?_; intro v6 w6 o6 g6; have o6' : w6.ownsRow w4.heap.size 5 1 v6 (l1 + T) ((pkF F' xs ++ ts).map (Value.int .u8)) := (by simpa using o6); have hbb : ∀ x ∈ pkF F' xs ++ ts, 0 ≤ x ∧ x < 256 := (fun x hx => by rcases List.mem_append.1 hx with h | h; exact pkF_byt _ _ x h; exact HBX.out.2 x h); obtain ⟨vo, vc, rfl, hrd6, _⟩ := Lzz.own_rd o6' hbb; have B6 : Below w4.heap.size w4 w6 := B5.grown g6 B5.size (fun q hq => (o5.lt q hq).1))
    | (refine Sum.wpList_append_v rfl _ _ rfl w4.heap.size 0 (.slice (some ⟨w4.heap.size, 0, none⟩) 0 0) [] rfl HO0.out ao' l1 c' (pkF F' xs) rfl r20 (by omega) (by simp) ?_; intro v5 w5 o5 g5; have B5 : Below w4.heap.size w4 w5 := bE.grown g5 (by simp) (fun q hq => by cases hq; exact Nat.le_refl _); have r31 := HRT.out.keep (HB4.out.trans (B5.mono HB4.out.size))))
  obtain ⟨L, hL⟩ : ∃ L, L = l1 + T := ⟨_, rfl⟩
  rw [← hL] at hrd6 ⊢
  have hu1 := runpack_read HD.out.dfl HD.out.ft HBX.out.1 (by have := HLX.out.1; omega) ts vo L vc A w6 hrd6 (by omega) (by have := HLX.out.1; omega) (by omega)
  rw [show 2 + (((fb F' + 7) / 8 : Nat) : Int) + 4 = (l1 : Int) by have := HL.out; omega, HLX.out.1] at hu1
  have HB6 : Hid (Below w4.heap.size w4 w6) := B6
  clear hrd6 B6 o6 o6' g6 o5 g5 B5 r31 r20 bE hbb hL HO0
  go_wp2_with fail
  refine hu1.mono ?_
  rintro e w7 ⟨yo, yc, rfl, hy, b7⟩
  have B7 := HB6.out.trans (b7.mono HB6.out.size)
  have HY : Hid (Rd w7 yo A yc xs) := hy
  have HR7 : Hid (Rd w7 ao' l1 c' (pkF F' xs)) := HR4.out.keep B7
  have HB7 : Hid (Below w.heap.size w w7) := HB4.out.trans (B7.mono HB4.out.size)
  clear hu1 hy b7 B7 HB6 HR4 HB4
  have bE : Below w7.heap.size w7 (w7.alloc (.cells #[] 5)) := (Below.refl _ _).alloc (Nat.le_refl _) _
  have HO0 : Hid ((w7.alloc (.cells #[] 5)).ownsRow w7.heap.size 5 1 (.slice (some ⟨w7.heap.size, 0, none⟩) 0 0) 0 (([] : List Int).map (Value.int .u8))) := none_bytes w7 w7.heap.size (Nat.le_refl _)
  have r20 := HR7.out.keep bE
  go_wp2_with (first
    | (refine Sum.wpList_append_v rfl _ _ rfl w7.heap.size (0 + l1) v8 ([] ++ pkF F' xs) rfl o8 t0 T ct ts rfl r31 (by omega) B8.size ?_; intro v9 w9 o9 g9; have o9' : w9.ownsRow w7.heap.size 5 1 v9 (l1 + T) ((pkF F' xs ++ ts).map (Value.int .u8)) := (by simpa using o9); have hbb : ∀ x ∈ pkF F' xs ++ ts, 0 ≤ x ∧ x < 256 := (fun x hx => by rcases List.mem_append.1 hx with h | h; exact pkF_byt _ _ x h; exact HBX.out.2 x h); obtain ⟨vo', vc', rfl, hrd9, _⟩ := Lzz.own_rd o9' hbb; have B9 : Below w7.heap.size w7 w9 := B8.grown g9 B8.size (fun q hq => (o8.lt q hq).1))
    | (refine Sum.wpList_append_v rfl _ _ rfl w7.heap.size 0 (.slice (some ⟨w7.heap.size, 0, none⟩) 0 0) [] rfl HO0.out ao' l1 c' (pkF F' xs) rfl r20 (by omega) (by simp) ?_; intro v8 w8 o8 g8; have B8 : Below w7.heap.size w7 w8 := bE.grown g8 (by simp) (fun q hq => by cases hq; exact Nat.le_refl _); have r31 := HRT.out.keep (HB7.out.trans (B8.mono HB7.out.size))))
  obtain ⟨L', hL⟩ : ∃ L', L' = l1 + T := ⟨_, rfl⟩
  rw [← hL] at hrd9 ⊢
  have B9w : Below w.heap.size w w9 := HB7.out.trans (B9.mono HB7.out.size)
  have hu1 := unpack_read HD.out.dfl HD.out.ft HBX.out.1 ts vo' L' vc' A w9 hrd9 (by omega) (tab_below HT0.out B9w) (by have := HLX.out.1; omega) (by omega)
  rw [show 2 + (((fb F' + 7) / 8 : Nat) : Int) + 4 = (l1 : Int) by have := HL.out; omega, HLX.out.1] at hu1
  have HB9 : Hid (Below w7.heap.size w7 w9) := B9
  clear hrd9 B9 B9w o9 o9' g9 o8 g8 B8 r31 r20 bE hbb hL HO0
  go_wp2_with fail
  refine hu1.mono ?_
  rintro e w10 ⟨zo, zc, rfl, hz, b10⟩
  have B10 := HB9.out.trans (b10.mono HB9.out.size)
  have BW := HB7.out.trans (B10.mono HB7.out.size)
  have q1 := str22 (HY.out.keep B10)
  have q2 := str22 (HRA.out.keep BW)
  have q3 := str22 hz
  rw [← HSX.out] at q1 q2 q3
  have HR10 : Hid (Rd w10 ao' l1 c' (pkF F' xs)) := HR7.out.keep B10
  have HBW : Hid (Below w.heap.size w w10) := BW
  obtain ⟨zb, zp, rfl, _⟩ := HR10.out.plain (by omega)
  have d9 : 0 < l1 := by omega
  have z0 : w10.cell? ⟨zb, zp, none⟩ = some (.int .u8 120) := by
    have := HR10.out.cells _ rfl 0 (by omega)
    rw [Addr.add_lit, Nat.add_zero] at this
    exact this
  have qi := ix0 w10 zb zp l1 c' d9
  have d10 : (0 : Int) < l1 := by omega
  have d7 : decide ((Q : Int) < l1) = false := by simp; omega
  have d8 : decide (Q < l1) = false := by simp; omega
  clear hu1 hz b10 B10 BW HB9 HY HR7 HB7
  go_wp2_with fail
  refine (HBD.out w10).mono ?_
  rintro e W10 ⟨rfl, hW10⟩
  subst W10
  clear q1 q2 q3 z0 qi
  by_cases hz0 : A = 0
  · have e1 : decide ((A : Int) = 0) = true := by simp; omega
    have e2 : decide (A = 0) = true := by simp; omega
    have e3 : ((A : Int) = 0) := by omega
    go_wp2_with fail
    go_ret
    exact ⟨rfl, HBW.out⟩
  · have e1 : decide ((A : Int) = 0) = false := by simp; omega
    have e2 : decide (A = 0) = false := by simp; omega
    have e3 : ¬ ((A : Int) = 0) := by omega
    obtain ⟨A1, hA1⟩ : ∃ A1, A1 = A - 1 := ⟨_, rfl⟩
    have y1 : (A : Int) - 1 = A1 := by omega
    have y2 : IntKind.i64.wrap (A1 : Int) = A1 := wraps_i64 _ (by omega) (by omega)
    have hu1 := unpack_long HD.out.dfl HD.out.ft (by have := HLX.out.1; omega) [] (some ⟨zb, zp, none⟩) l1 c' A1 w10 (by rw [List.append_nil]; exact HR10.out) (by omega) (tab_below HT0.out HBW.out) (by have := HLX.out.1; omega) (by omega)
    clear hA1
    go_wp2_with fail
    refine hu1.mono ?_
    rintro e w11 ⟨rfl, b11⟩
    have B11 : Hid (Below w.heap.size w w11) := HBW.out.trans (b11.mono HBW.out.size)
    clear hu1 b11
    go_wp2
    go_ret
    exact ⟨rfl, B11.out⟩

theorem back_any (a0 : Option Addr) (A ca : Nat) (xs : List Int) (t0 : Option Addr) (T ct : Nat) (ts : List Int) (eff : Int) (w : World) (hra : Rd w a0 A ca xs) (hrt : Rd w t0 T ct ts) (he : eff < 9223372036854775808) (h0 : Tab w 0) (h1 : Tab w 1) :
    Calls Tryz.prog 4 #[.slice a0 A ca, .int .i64 eff, .slice t0 T ct] w fun e w' => e = .returned (.bool true) ∧ Below w.heap.size w w' := by
  by_cases hA : A ≤ 3000
  · by_cases hB : T ≤ 100
    · exact back_go a0 A ca xs t0 T ct ts eff w hra hrt hA hB he h0 h1
    · exact back_skip a0 A ca t0 T ct eff w h0 h1 (.inr (by omega))
  · exact back_skip a0 A ca t0 T ct eff w h0 h1 (.inl (by omega))

end Go.Proofs.YtiahbicodlgmhaaGreatDoor.D
