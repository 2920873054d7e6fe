/- The walk of BinRows. -/
import Derived.Test.YtmkjpfjlohkdoaaWKnown
import Derived.Test.YtmkjpfjlohkdoaaMath3
namespace Go.Proofs.Ytmkjpfjlohkdoaa
open Go.RowKit

theorem rows_skip (ao : Option Addr) (n c : Nat) (w : World) (h : 200 < n) :
    Calls Try.prog 5 #[.slice ao n c] w fun e w' => e = .returned (.bool true) ∧ Below w.heap.size w w' := by
  go_enter Try.func5, Try.ntmps5
  go_wp2_with (go_at_call 7; refine (known_any _).mono ?_; rintro e w1 ⟨rfl, hb⟩)
  go_ret
  exact ⟨rfl, hb⟩

theorem rd_step {w2 wr : World} {L : List Int} {k m s : Nat} {z : Int} (hk : k < L.length) (hz : z = L.getD k 0) (hw : wd k = s)
    (o2 : w2.ownsRow wr.heap.size 5 1 (.slice (some ⟨wr.heap.size, 0, none⟩) (m + s) (m + s)) (m + s) ((rows 0 (L.take k) ++ be z s).map (Value.int .u8))) :
    Rd w2 (some ⟨wr.heap.size, 0, none⟩) (m + s) (m + s) (rows 0 (L.take (k + 1))) := by
  rw [rows_take L k hk, ← hz, hw]
  refine Rd.ofOwn o2 fun x hx => ?_
  rcases List.mem_append.1 hx with h | h
  · exact rows_byt _ _ x h
  · exact be_byt _ _ x h

set_option maxRecDepth 100000 in
set_option maxHeartbeats 4000000 in
theorem rows_go (ao : Option Addr) (n c : Nat) (L : List Int) (w : World) (hn : n ≤ 200) (hL : L.length = n)
    (hcell : ∀ j, j < n → ∃ b off, ao = some ⟨b, off, none⟩ ∧ w.cell? ⟨b, off + j, none⟩ = some (.int .i64 (L.getD j 0)))
    (hbd : ∀ j, j < n → -9223372036854775808 ≤ L.getD j 0 ∧ L.getD j 0 ≤ 9223372036854775807) :
    Calls Try.prog 5 #[.slice ao n c] w fun e w' => e = .returned (.bool true) ∧ Below w.heap.size w w' := by
  go_enter Try.func5, Try.ntmps5
  go_wp2_with (go_at_call 7; refine (known_any _).mono ?_; rintro e w1 ⟨rfl, hb⟩)
  go_loopw [3, 4] (fun o i wr => ∃ (k : Nat) (bo : Option Addr) (m d : Nat), k ≤ n ∧ i = .int .i64 k ∧ o = .slice bo m d ∧ Rd wr bo m d (rows 0 (L.take k)) ∧ Below w.heap.size w wr)
    (fun _ i _ => n - (intOf i).toNat)
  case atStart => exact ⟨0, none, 0, 0, by omega, rfl, rfl, Rd.nil _, hb⟩
  case round =>
    obtain ⟨k, bo, m, d, hk, rfl, rfl, hr, hbel⟩ := hrel
    have hm : m ≤ 8 * k := by
      have h1 := hr.len
      have h2 := rows_len (L.take k) 0
      simp only [List.length_take] at h2
      omega
    by_cases hlt : k < n
    · obtain ⟨b, off, rfl, hc0⟩ := hcell k hlt
      have hc : wr.cell? ⟨b, off + k, none⟩ = some (.int .i64 (L.getD k 0)) := by
        rw [hbel.cell (World.block_lt_of_cell? w _ hc0)]; exact hc0
      obtain ⟨z, hz⟩ : ∃ z, z = L.getD k 0 := ⟨_, rfl⟩
      rw [← hz] at hc
      have HZ : Hid (z = L.getD k 0) := hz
      clear hz hcell hc0
      rcases (show k % 3 = 0 ∨ k % 3 = 1 ∨ k % 3 = 2 by omega) with h3 | h3 | h3
      · have HX : Hid (k % 3 = 0) := h3
        have t0 : ((k : Int) % 3 == 0) = true := by simp; omega
        have t1 : ((k : Int) % 3 == 1) = false := by simp; omega
        clear h3
        go_wp2_with (go_at_call 23; refine (put16_any bo m d z _ wr hr (by omega)).mono ?_; rintro e w2 ⟨rfl, o2, b2⟩)
        have hs := rd_step (by omega) HZ.out (by simp [wd, HX.out]) o2
        have B2 := hbel.trans (b2.mono hbel.size)
        clear o2 b2
        go_roundw
        case rel => exact ⟨k + 1, _, _, _, by omega, by go_num, rfl, hs, B2⟩
        case measure => simp [intOf]; omega
      · have HX : Hid (k % 3 = 1) := h3
        have t0 : ((k : Int) % 3 == 0) = false := by simp; omega
        have t1 : ((k : Int) % 3 == 1) = true := by simp; omega
        clear h3
        go_wp2_with (go_at_call 24; refine (put32_any bo m d z _ wr hr (by omega)).mono ?_; rintro e w2 ⟨rfl, o2, b2⟩)
        have hs := rd_step (by omega) HZ.out (by simp [wd, HX.out]) o2
        have B2 := hbel.trans (b2.mono hbel.size)
        clear o2 b2
        go_roundw
        case rel => exact ⟨k + 1, _, _, _, by omega, by go_num, rfl, hs, B2⟩
        case measure => simp [intOf]; omega
      · have HX : Hid (k % 3 = 2) := h3
        have t0 : ((k : Int) % 3 == 0) = false := by simp; omega
        have t1 : ((k : Int) % 3 == 1) = false := by simp; omega
        clear h3
        go_wp2_with (go_at_call 25; refine (put64_any bo m d z _ wr hr (by omega)).mono ?_; rintro e w2 ⟨rfl, o2, b2⟩)
        have hs := rd_step (by omega) HZ.out (by simp [wd, HX.out]) o2
        have B2 := hbel.trans (b2.mono hbel.size)
        clear o2 b2
        go_roundw
        case rel => exact ⟨k + 1, _, _, _, by omega, by go_num, rfl, hs, B2⟩
        case measure => simp [intOf]; omega
    · obtain rfl : k = n := by omega
      rw [List.take_of_length_le (by omega)] at hr
      obtain ⟨X, hX⟩ : ∃ X, X = rows 0 L := ⟨_, rfl⟩
      rw [← hX] at hr
      have HX0 : Hid (X = rows 0 L) := hX
      have hXl := hr.len
      clear hX
      go_wp2_with fail
      refine (new_any bo m d X wr hr (by omega)).mono ?_
      rintro e w2 ⟨R, ro, rd, rfl, hR, hRl, _, b2⟩
      have hRw : w.heap.size ≤ R := Nat.le_trans hbel.size hRl
      have B2 := hbel.trans (b2.mono hbel.size)
      clear b2 hr hRl hbel
      go_wp2_with fail
      go_loopw [6, 7, 8, 9] (fun a i _ _ ws => ∃ (t p : Nat), t ≤ k ∧ i = .int .i64 t ∧ a = .int .i64 p ∧ p ≤ m ∧ X.drop p = rows t (L.drop t) ∧ IsR ws R ro m rd X p 0 ∧ Below w.heap.size w ws)
        (fun _ i _ _ _ => k - (intOf i).toNat)
      case atStart => exact ⟨0, 0, by omega, rfl, rfl, by omega, by simpa using HX0.out, hR, B2⟩
      case round =>
        obtain ⟨t, p, ht, rfl, rfl, hp, hd, hR', hB⟩ := hrel
        have HD : Hid (X.drop p = rows t (L.drop t)) := hd
        clear hd B2 hR
        by_cases htk : t < k
        · obtain ⟨b, off, rfl, hc0⟩ := hcell t htk
          have hc : wr.cell? ⟨b, off + t, none⟩ = some (.int .i64 (L.getD t 0)) := by
            rw [hB.cell (World.block_lt_of_cell? w _ hc0)]; exact hc0
          have hzb := hbd t htk
          clear hbd hcell hc0
          rcases (show t % 3 = 0 ∨ t % 3 = 1 ∨ t % 3 = 2 by omega) with h3 | h3 | h3
          · have q := rows_16 (X := X) (L := L) (k := t) (p := p) (by omega) HD.out h3
            have t0 : ((t : Int) % 3 == 0) = true := by simp; omega
            have t1 : ((t : Int) % 3 == 1) = false := by simp; omega
            clear h3 HD
            generalize L.getD t 0 = z at *
            have hand := i64_and16 z
            obtain ⟨q1, q2, q3, q4, q5⟩ := q
            have Q1 : Hid (num 0 (tk X p 0 2).1 = z % 65536) := q1
            have Q2 : Hid ((tk X p 0 2).2.1 = p + 2) := q2
            have Q3 : Hid ((tk X p 0 2).2.2 = 0) := q3
            have Q4 : Hid (X.drop (p + 2) = rows (t + 1) (L.drop (t + 1))) := q4
            clear q1 q2 q3 q4
            go_wp2_with fail
            refine (u16_any R ro m rd X p 0 wr hR').mono ?_
            rintro e w3 ⟨rfl, hR3, hg3⟩
            rw [Q1.out]
            rw [Q2.out, Q3.out] at hR3
            have B3 := hB.trans (grown_below hg3 hRw hB.size)
            clear hg3 hB hR'
            go_wp2_with fail
            refine (at_any R ro m rd X (p + 2) 0 w3 hR3).mono ?_
            rintro e w4 ⟨rfl, rfl⟩
            go_wp2_with fail
            refine (left_ok R ro m rd X (p + 2) _ hR3).mono ?_
            rintro e w5 ⟨rfl, rfl⟩
            have R5 := hR3.drew
            have B5 := B3.drew
            clear hR3 B3
            go_wp2
            go_roundw
            case rel => exact ⟨t + 1, p + 2, by omega, by go_num, by go_num, by omega, Q4.out, R5, B5⟩
            case measure => simp [intOf]; omega
          · have q := rows_32 (X := X) (L := L) (k := t) (p := p) (by omega) HD.out h3
            have t0 : ((t : Int) % 3 == 0) = false := by simp; omega
            have t1 : ((t : Int) % 3 == 1) = true := by simp; omega
            clear h3 HD
            generalize L.getD t 0 = z at *
            have hand := i64_and32 z
            obtain ⟨q1, q2, q3, q4, q5⟩ := q
            have Q1 : Hid (num 0 (tk X p 0 4).1 = z % 4294967296) := q1
            have Q2 : Hid ((tk X p 0 4).2.1 = p + 4) := q2
            have Q3 : Hid ((tk X p 0 4).2.2 = 0) := q3
            have Q4 : Hid (X.drop (p + 4) = rows (t + 1) (L.drop (t + 1))) := q4
            clear q1 q2 q3 q4
            go_wp2_with fail
            refine (u32_any R ro m rd X p 0 wr hR').mono ?_
            rintro e w3 ⟨rfl, hR3, hg3⟩
            rw [Q1.out]
            rw [Q2.out, Q3.out] at hR3
            have B3 := hB.trans (grown_below hg3 hRw hB.size)
            clear hg3 hB hR'
            go_wp2_with fail
            refine (at_any R ro m rd X (p + 4) 0 w3 hR3).mono ?_
            rintro e w4 ⟨rfl, rfl⟩
            go_wp2_with fail
            refine (left_ok R ro m rd X (p + 4) _ hR3).mono ?_
            rintro e w5 ⟨rfl, rfl⟩
            have R5 := hR3.drew
            have B5 := B3.drew
            clear hR3 B3
            go_wp2
            go_roundw
            case rel => exact ⟨t + 1, p + 4, by omega, by go_num, by go_num, by omega, Q4.out, R5, B5⟩
            case measure => simp [intOf]; omega
          · have t0 : ((t : Int) % 3 == 0) = false := by simp; omega
            have t1 : ((t : Int) % 3 == 1) = false := by simp; omega
            by_cases hneg : L.getD t 0 < 0
            · have q := rows_64n (X := X) (L := L) (k := t) (p := p) (by omega) HD.out h3 hneg hzb.1
              clear h3 HD
              generalize L.getD t 0 = z at *
              obtain ⟨q1, q2, q3⟩ := q
              have Q1 : Hid ((u64r X p 0).1 = 0) := q1
              have Q2 : Hid ((u64r X p 0).2.1 = p) := q2
              have Q3 : Hid ((u64r X p 0).2.2 = 5) := q3
              clear q1 q2 q3
              go_wp2_with fail
              refine (u64_any R ro m rd X p 0 wr hR').mono ?_
              rintro e w3 ⟨rfl, hR3, hg3⟩
              rw [Q1.out]
              rw [Q2.out, Q3.out] at hR3
              have B3 := hB.trans (grown_below hg3 hRw hB.size)
              clear hg3 hB hR'
              go_wp2_with fail
              refine (err_any R ro m rd X p 5 w3 hR3).mono ?_
              rintro e w4 ⟨rfl, rfl⟩
              go_wp2_with fail
              refine (left_bad R ro m rd X p 5 _ hR3 (by decide)).mono ?_
              rintro e w5 ⟨rfl, rfl⟩
              clear hR3
              go_wp2
              go_ret
              exact ⟨rfl, B3⟩
            · have q := rows_64 (X := X) (L := L) (k := t) (p := p) (by omega) HD.out h3 (by omega) hzb.2
              clear h3 HD
              generalize L.getD t 0 = z at *
              obtain ⟨q1, q2, q3, q4, q5⟩ := q
              have Q1 : Hid ((u64r X p 0).1 = z) := q1
              have Q2 : Hid ((u64r X p 0).2.1 = p + 8) := q2
              have Q3 : Hid ((u64r X p 0).2.2 = 0) := q3
              have Q4 : Hid (X.drop (p + 8) = rows (t + 1) (L.drop (t + 1))) := q4
              clear q1 q2 q3 q4
              go_wp2_with fail
              refine (u64_any R ro m rd X p 0 wr hR').mono ?_
              rintro e w3 ⟨rfl, hR3, hg3⟩
              rw [Q1.out]
              rw [Q2.out, Q3.out] at hR3
              have B3 := hB.trans (grown_below hg3 hRw hB.size)
              clear hg3 hB hR'
              go_wp2_with fail
              refine (at_any R ro m rd X (p + 8) 0 w3 hR3).mono ?_
              rintro e w4 ⟨rfl, rfl⟩
              go_wp2_with fail
              refine (left_ok R ro m rd X (p + 8) _ hR3).mono ?_
              rintro e w5 ⟨rfl, rfl⟩
              have R5 := hR3.drew
              have B5 := B3.drew
              clear hR3 B3
              go_wp2
              go_roundw
              case rel => exact ⟨t + 1, p + 8, by omega, by go_num, by go_num, by omega, Q4.out, R5, B5⟩
              case measure => simp [intOf]; omega
        · obtain rfl : t = k := by omega
          have hXp : X.length ≤ p := by
            have h := congrArg List.length HD.out
            rw [List.drop_of_length_le (l := L) (by omega)] at h
            simp [rows] at h
            omega
          have q := tk_end hXp
          have Q : Hid (tk X p 0 1 = ([], p, 3)) := q
          clear q HD hcell hbd
          go_wp2_with fail
          refine (u8_any R ro m rd X p 0 wr hR').mono ?_
          rintro e w3 ⟨rfl, hR3, hg3⟩
          rw [Q.out] at hR3 ⊢
          have B3 := hB.trans (grown_below hg3 hRw hB.size)
          clear hg3 hB hR'
          go_wp2_with fail
          refine (err_any R ro m rd X p 3 w3 hR3).mono ?_
          rintro e w4 ⟨rfl, rfl⟩
          clear hR3
          go_wp2
          go_ret
          exact ⟨rfl, B3⟩

end Go.Proofs.Ytmkjpfjlohkdoaa
