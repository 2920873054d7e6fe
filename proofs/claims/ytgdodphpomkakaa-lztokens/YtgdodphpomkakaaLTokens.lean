/- The walk of LzTokens. -/
import Derived.Test.YtgdodphpomkakaaWKnown
import Derived.Test.YtgdodphpomkakaaXSize
namespace Go.Proofs.Ytgdodphpomkakaa
open Go.RowKit

theorem tokens_skip (lo : Option Addr) (n c : Nat) (most : Int) (w : World) (h : 3000 < n) :
    Calls Try.prog 3 #[.slice lo n c, .int .i64 most] w fun e w' => e = .returned (.bool true) ∧ Below w.heap.size w w' := by
  have h1 : (3000 : Int) < n := by omega
  go_enter Try.func3, Try.ntmps3
  go_wp2_with (go_at_call 7; refine (known_any _).mono ?_; rintro e w1 ⟨rfl, hb⟩)
  go_ret
  exact ⟨rfl, hb⟩

set_option maxRecDepth 100000 in
set_option maxHeartbeats 2000000 in
theorem tokens_go (lo : Option Addr) (n c : Nat) (ts : List Tok) (most : Int) (w : World) (hT : Tk w lo n ts) (hn : n ≤ 3000) (hm0 : -9223372036854775808 ≤ most) (hm1 : most < 9223372036854775808) :
    Calls Try.prog 3 #[.slice lo n c, .int .i64 most] w fun e w' => e = .returned (.bool true) ∧ Below w.heap.size w w' := by
  have d1 : decide ((3000 : Int) < n) = false := by simp; omega
  have hlen := hT.len
  have htot := tot_max ts
  have HT : Hid (Tk w lo n ts) := hT
  have HL : Hid (ts.length = n) := hlen
  have htot : tot ts ≤ 1000000 := by omega
  clear hT hlen
  go_enter Try.func3, Try.ntmps3
  go_wp2_with (go_at_call 7; refine (known_any _).mono ?_; rintro e w1 ⟨rfl, b1⟩)
  refine (of_any lo n c ts w1 (HT.out.keep b1) (by omega)).mono ?_
  rintro e w2 ⟨v2, rfl, o2, b2⟩
  have B2 := b1.trans (b2.mono b1.size)
  obtain ⟨ro, rc, rfl, _, rk, _⟩ := own_tk o2 HT.out.byt
  clear o2 b1 b2
  go_wp2_with fail
  refine (expand_any lo n c ts most w2 (HT.out.keep B2) (by omega)).mono ?_
  rintro e w3 ⟨v3, g3, os3, rfl, x3, o3, b3⟩
  have B3 := B2.trans (b3.mono B2.size)
  have rk3 := rk.keep b3
  clear rk b3 B2
  go_wp2_with fail
  refine (xexpand_any ro n rc ts most w3 rk3 (by omega) htot hm0 hm1).mono ?_
  rintro e w4 ⟨v4, g4, os4, rfl, x4, o4, b4⟩
  obtain ⟨rfl, rfl⟩ := x3.det x4
  have B4 := B3.trans (b4.mono B3.size)
  have rk4 := rk3.keep b4
  have lk4 := HT.out.keep B4
  obtain ⟨ao3, c3, rfl, r3, _⟩ := own_rd o3 (x3.byt HT.out.byt)
  obtain ⟨ao4, c4, rfl, r4, _⟩ := own_rd o4 (x3.byt HT.out.byt)
  have r3' := r3.keep b4
  have i5 := check_any lo n c ts w4 lk4 (by omega)
  clear x3 x4 o3 o4 r3 rk3 B3 b4
  have HB4 : Hid (Below w.heap.size w w4) := B4
  have HR3 : Hid (Rd w4 ao3 os3.length c3 os3) := r3'
  have HR4 : Hid (Rd w4 ao4 os3.length c4 os3) := r4
  have HRK : Hid (Tk w4 ro n ts) := rk4
  have HLK : Hid (Tk w4 lo n ts) := lk4
  clear B4 r3' r4 rk4 lk4
  go_wp2_with fail
  refine i5.mono ?_
  rintro e w5 ⟨g5, rfl, hg5, b5⟩
  have i6 := xcheck_any ro n rc ts w5 (HRK.out.keep b5) (by omega)
  clear i5
  go_wp2_with fail
  refine i6.mono ?_
  rintro e w6 ⟨g6, rfl, hg6, b6⟩
  obtain rfl : g5 = g6 := by
    rcases hg5 with ⟨rfl, h5⟩ | ⟨rfl, h5⟩ <;> rcases hg6 with ⟨rfl, h6⟩ | ⟨rfl, h6⟩ <;> first | rfl | contradiction
  have b56 := b5.trans (b6.mono b5.size)
  have s1 := (HR3.out.keep b56).str
  have s2 := (HR4.out.keep b56).str
  have i7 := size_all lo n c ts w6 (HLK.out.keep b56) (by omega)
  have HRK6 : Hid (Tk w6 ro n ts) := HRK.out.keep b56
  have HB6 : Hid (Below w.heap.size w w6) := HB4.out.trans (b56.mono HB4.out.size)
  clear i6 hg5 hg6 b5 b6 b56 HRK HLK HR3 HR4 HB4
  go_wp2_with (first | (go_at_call 13; refine i7.mono ?_; rintro e w7 ⟨rfl, b7⟩) | (go_at_call 14; refine (xsize_any ro n rc ts w7 (HRK6.out.keep b7) (by omega)).mono ?_; rintro e w8 ⟨rfl, e8⟩; subst w8))
  go_ret
  exact ⟨rfl, HB6.out.trans (b7.mono HB6.out.size)⟩

end Go.Proofs.Ytgdodphpomkakaa
