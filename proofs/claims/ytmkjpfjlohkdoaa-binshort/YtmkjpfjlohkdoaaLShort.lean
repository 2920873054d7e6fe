/- The walk of BinShort. -/
import Derived.Test.YtmkjpfjlohkdoaaWKnown
import Derived.Test.YtmkjpfjlohkdoaaWPre
import Derived.Test.YtmkjpfjlohkdoaaMath
namespace Go.Proofs.Ytmkjpfjlohkdoaa
open Go.RowKit

set_option maxHeartbeats 1000000 in
theorem short_skip (v u : Int) (w : World) (h : v < 0 ∨ u < 0 ∨ v = u) :
    Calls Try.prog 4 #[.int .i64 v, .int .i64 u] w fun e w' => e = .returned (.bool true) ∧ Below w.heap.size w w' := by
  by_cases h1 : v < 0
  · clear h
    go_enter Try.func4, Try.ntmps4
    go_wp2_with (go_at_call 7; refine (known_any _).mono ?_; rintro e w1 ⟨rfl, hb⟩)
    go_ret
    exact ⟨rfl, hb⟩
  · by_cases h2 : u < 0
    · clear h
      go_enter Try.func4, Try.ntmps4
      go_wp2_with (go_at_call 7; refine (known_any _).mono ?_; rintro e w1 ⟨rfl, hb⟩)
      go_ret
      exact ⟨rfl, hb⟩
    · obtain rfl : v = u := by omega
      clear h
      go_enter Try.func4, Try.ntmps4
      go_wp2_with (go_at_call 7; refine (known_any _).mono ?_; rintro e w1 ⟨rfl, hb⟩)
      go_ret
      exact ⟨rfl, hb⟩

set_option maxHeartbeats 2000000 in
theorem short_go (v u : Int) (w : World) (h0 : 0 ≤ v) (h1 : v ≤ 9223372036854775807) (k0 : 0 ≤ u) (k1 : u ≤ 9223372036854775807) (hne : v ≠ u) :
    Calls Try.prog 4 #[.int .i64 v, .int .i64 u] w fun e w' => e = .returned (.bool true) ∧ Below w.heap.size w w' := by
  have hq : (v == u) = false := by simp [hne]
  have d1 : decide ((ofsBack v).reverse <+: (ofsBack u).reverse) = false := decide_eq_false (ofs_front v u h0 h1 k0 k1 hne)
  have d2 : decide ((ofsBack u).reverse <+: (ofsBack v).reverse) = false := decide_eq_false (ofs_front u v k0 k1 h0 h1 (Ne.symm hne))
  have d3 : decide (sz 9 v <+: sz 9 u) = false := decide_eq_false (sz_front v u h0 h1 k0 k1 hne)
  have d4 : decide (sz 9 u <+: sz 9 v) = false := decide_eq_false (sz_front u v k0 k1 h0 h1 (Ne.symm hne))
  have lo : v < u → (ofsBack v).length ≤ (ofsBack u).length := fun h => ofs_len v u (by omega)
  have ls : v < u → (sz 9 v).length ≤ (sz 9 u).length := fun h => sz_len 9 v u h0 (by omega)
  have D1 : Hid (decide ((ofsBack v).reverse <+: (ofsBack u).reverse) = false) := d1
  have D2 : Hid (decide ((ofsBack u).reverse <+: (ofsBack v).reverse) = false) := d2
  have D3 : Hid (decide (sz 9 v <+: sz 9 u) = false) := d3
  have D4 : Hid (decide (sz 9 u <+: sz 9 v) = false) := d4
  have LO : Hid (v < u → (ofsBack v).length ≤ (ofsBack u).length) := lo
  have LS : Hid (v < u → (sz 9 v).length ≤ (sz 9 u).length) := ls
  clear d1 d2 d3 d4 lo ls hne
  have lv : (ofsBack v).length ≤ 9 := (ofsBack_length v).2
  have lu : (ofsBack u).length ≤ 9 := (ofsBack_length u).2
  have mv := sz_len_le 9 v
  have mu := sz_len_le 9 u
  go_enter Try.func4, Try.ntmps4
  go_wp2_with (go_at_call 7; refine (known_any _).mono ?_; rintro e w1 ⟨rfl, hb⟩)
  refine (putOffset_any none 0 0 v [] w1 (Rd.nil _) (by omega) h0 h1).mono ?_
  rintro e w2 ⟨g1, rfl, o1, b1⟩
  rw [List.nil_append, Nat.zero_add] at o1
  rw [Nat.zero_add]
  have r1 := Rd.ofOwn o1 (fun x hx => ofsBack_byt v x (by simpa using hx))
  have B1 := hb.trans (b1.mono hb.size)
  clear o1 b1 hb
  go_wp2_with fail
  refine (putOffset_any none 0 0 u [] w2 (Rd.nil _) (by omega) k0 k1).mono ?_
  rintro e w3 ⟨g2, rfl, o2, b2⟩
  rw [List.nil_append, Nat.zero_add] at o2
  rw [Nat.zero_add]
  have r2 := Rd.ofOwn o2 (fun x hx => ofsBack_byt u x (by simpa using hx))
  have r1' := r1.keep b2
  have B2 := B1.trans (b2.mono B1.size)
  clear o2 b2 B1 r1
  go_wp2_with fail
  refine (putSize_any none 0 0 v [] w3 (Rd.nil _) (by omega) h0 h1).mono ?_
  rintro e w4 ⟨rfl, o3, b3⟩
  rw [List.nil_append, Nat.zero_add] at o3
  rw [Nat.zero_add]
  have r3 := Rd.ofOwn o3 (sz_byt 9 v h0)
  have r1 := r1'.keep b3
  have r2' := r2.keep b3
  have B3 := B2.trans (b3.mono B2.size)
  clear o3 b3 B2 r1' r2
  go_wp2_with fail
  refine (putSize_any none 0 0 u [] w4 (Rd.nil _) (by omega) k0 k1).mono ?_
  rintro e w5 ⟨rfl, o4, b4⟩
  rw [List.nil_append, Nat.zero_add] at o4
  rw [Nat.zero_add]
  have r4 := Rd.ofOwn o4 (sz_byt 9 u k0)
  have r1' := r1.keep b4
  have r2 := r2'.keep b4
  have r3' := r3.keep b4
  have B4 := B3.trans (b4.mono B3.size)
  clear o4 b4 B3 r1 r2' r3
  by_cases hlt : v < u
  · have lo := LO.out hlt
    have ls := LS.out hlt
    go_wp2_with fail
    refine (pre_any _ _ _ _ _ _ _ _ w5 r1' r2).mono ?_
    rintro e w6 ⟨rfl, c6⟩
    rw [D1.out]
    have q1 := r1'.keep c6
    have q2 := r2.keep c6
    have q3 := r3'.keep c6
    have q4 := r4.keep c6
    have C6 := B4.trans (c6.mono B4.size)
    clear c6 B4 r1' r2 r3' r4
    go_wp2_with fail
    refine (pre_any _ _ _ _ _ _ _ _ w6 q2 q1).mono ?_
    rintro e w7 ⟨rfl, c7⟩
    rw [D2.out]
    have r3 := q3.keep c7
    have r4 := q4.keep c7
    have C7 := C6.trans (c7.mono C6.size)
    clear c7 C6 q1 q2 q3 q4
    go_wp2_with fail
    refine (pre_any _ _ _ _ _ _ _ _ w7 r3 r4).mono ?_
    rintro e w8 ⟨rfl, c8⟩
    rw [D3.out]
    have q3 := r3.keep c8
    have q4 := r4.keep c8
    have C8 := C7.trans (c8.mono C7.size)
    clear c8 C7 r3 r4
    go_wp2_with fail
    refine (pre_any _ _ _ _ _ _ _ _ w8 q4 q3).mono ?_
    rintro e w9 ⟨rfl, c9⟩
    rw [D4.out]
    have C9 := C8.trans (c9.mono C8.size)
    clear c9 C8 q3 q4
    go_wp2
    go_ret
    exact ⟨rfl, C9⟩
  · go_wp2_with fail
    refine (pre_any _ _ _ _ _ _ _ _ w5 r1' r2).mono ?_
    rintro e w6 ⟨rfl, c6⟩
    rw [D1.out]
    have q1 := r1'.keep c6
    have q2 := r2.keep c6
    have q3 := r3'.keep c6
    have q4 := r4.keep c6
    have C6 := B4.trans (c6.mono B4.size)
    clear c6 B4 r1' r2 r3' r4
    go_wp2_with fail
    refine (pre_any _ _ _ _ _ _ _ _ w6 q2 q1).mono ?_
    rintro e w7 ⟨rfl, c7⟩
    rw [D2.out]
    have r3 := q3.keep c7
    have r4 := q4.keep c7
    have C7 := C6.trans (c7.mono C6.size)
    clear c7 C6 q1 q2 q3 q4
    go_wp2_with fail
    refine (pre_any _ _ _ _ _ _ _ _ w7 r3 r4).mono ?_
    rintro e w8 ⟨rfl, c8⟩
    rw [D3.out]
    have q3 := r3.keep c8
    have q4 := r4.keep c8
    have C8 := C7.trans (c8.mono C7.size)
    clear c8 C7 r3 r4
    go_wp2_with fail
    refine (pre_any _ _ _ _ _ _ _ _ w8 q4 q3).mono ?_
    rintro e w9 ⟨rfl, c9⟩
    rw [D4.out]
    have C9 := C8.trans (c9.mono C8.size)
    clear c9 C8 q3 q4
    go_wp2
    go_ret
    exact ⟨rfl, C9⟩

end Go.Proofs.Ytmkjpfjlohkdoaa
