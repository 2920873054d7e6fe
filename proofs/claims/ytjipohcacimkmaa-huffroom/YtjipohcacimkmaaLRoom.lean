/- The walk of HuffRoom. -/
import Derived.Test.YtjipohcacimkmaaLCodes
import Derived.Laws.OwnMore
namespace Go.Proofs.Ytjipohcacimkmaa
open Go.RowKit

theorem pow_eq (x : Nat) (h : x ≤ 15) : (2 : Int) ^ x * 2 ^ (15 - x) = 32768 := by
  rw [← Int.pow_add, show x + (15 - x) = 15 by omega]
  rfl

/-- All of x bits. -/
def allx (x : Nat) : Nat → Int := fun _ => x
/-- One of fifteen bits behind M of x. -/
def morex (x M : Nat) : Nat → Int := fun j => if j < M then x else 15
/-- One of none among those of x. -/
def lessx (x r : Nat) : Nat → Int := fun j => if j = r then 0 else x

theorem G_all (x : Nat) (L : Nat → Int) (k : Nat) (h0 : 0 < x) (h : x ≤ 15) (hL : ∀ j, j < k → L j = x) : G L 15 k = k * 2 ^ (15 - x) := by
  induction k with
  | zero => simp [G]
  | succ k ih =>
    rw [G_put L k x (hL k (by omega)) h0 h, ih (fun j hj => hL j (by omega))]
    rw [show ((k + 1 : Nat) : Int) = (k : Int) + 1 by omega, Int.add_mul, Int.one_mul]

theorem G_less (x r k : Nat) (h0 : 0 < x) (h : x ≤ 15) : G (lessx x r) 15 k = ((k : Int) - (if r < k then 1 else 0)) * 2 ^ (15 - x) := by
  induction k with
  | zero => simp [G]
  | succ k ih =>
    by_cases e : k = r
    · subst e
      rw [G_same _ k (by simp [lessx]), ih, if_neg (by omega), if_pos (by omega)]
      congr 1
      omega
    · rw [G_put (lessx x r) k x (by simp [lessx, e]) h0 h, ih]
      by_cases hr : r < k
      · rw [if_pos hr, if_pos (by omega), show ((k + 1 : Nat) : Int) - 1 = ((k : Int) - 1) + 1 by omega, Int.add_mul, Int.one_mul]
      · rw [if_neg hr, if_neg (by omega), show ((k + 1 : Nat) : Int) - 0 = ((k : Int) - 0) + 1 by omega, Int.add_mul, Int.one_mul]

theorem SM_less (x r k : Nat) : SM (lessx x r) k = ((k : Int) - (if r < k then 1 else 0)) * x := by
  induction k with
  | zero => simp [SM]
  | succ k ih =>
    rw [show SM (lessx x r) (k + 1) = SM (lessx x r) k + lessx x r k from rfl, ih]
    by_cases e : k = r
    · subst e
      rw [if_neg (by omega), if_pos (by omega)]
      simp only [lessx, if_pos]
      rw [Int.add_zero]
      congr 1
      omega
    · simp only [lessx, if_neg e]
      by_cases hr : r < k
      · rw [if_pos hr, if_pos (by omega), show ((k + 1 : Nat) : Int) - 1 = ((k : Int) - 1) + 1 by omega, Int.add_mul, Int.one_mul]
      · rw [if_neg hr, if_neg (by omega), show ((k + 1 : Nat) : Int) - 0 = ((k : Int) - 0) + 1 by omega, Int.add_mul, Int.one_mul]

theorem all_room (x M : Nat) (h0 : 0 < x) (h8 : x ≤ 8) (hM : (2 : Int) ^ x = M) (h256 : M ≤ 256) : fu (allx x) M = true ∧ er (allx x) M = 0 := by
  have hg : G (allx x) 15 M = 32768 := by rw [G_all x (allx x) M h0 (by omega) (fun _ _ => rfl), ← hM]; exact pow_eq x (by omega)
  have := er_fits (allx x) M (by omega) (fun j _ => by simp only [allx, Lm]; omega) (by omega)
  rw [hg] at this
  exact this

theorem more_room (x M : Nat) (h0 : 0 < x) (h8 : x ≤ 8) (hM : (2 : Int) ^ x = M) (h256 : M ≤ 256) : fu (morex x M) (M + 1) = false ∧ er (morex x M) (M + 1) = 2 := by
  have hg : G (morex x M) 15 M = 32768 := by rw [G_all x (morex x M) M h0 (by omega) (fun j hj => by simp [morex, hj]), ← hM]; exact pow_eq x (by omega)
  have hg2 : G (morex x M) 15 (M + 1) = 32769 := by rw [G_put (morex x M) M 15 (by simp [morex]) (by omega) (by omega), hg]; rfl
  refine er_over (morex x M) (M + 1) (by omega) (fun j _ => ?_) (by omega)
  simp only [morex, Lm]
  split <;> omega

theorem less_room (x M r : Nat) (h0 : 0 < x) (h8 : x ≤ 8) (hM : (2 : Int) ^ x = M) (h256 : M ≤ 256) (hr : r < M) : fu (lessx x r) M = false ∧ er (lessx x r) M = 0 := by
  have hp := p2 (15 - x)
  have hg : G (lessx x r) 15 M = 32768 - 2 ^ (15 - x) := by
    rw [G_less x r M h0 (by omega), if_pos hr, Int.sub_mul, Int.one_mul, ← hM, pow_eq x (by omega)]
  have := er_fits (lessx x r) M (by omega) (fun j _ => by simp only [lessx, Lm]; split <;> omega) (by omega)
  rw [hg] at this
  refine ⟨?_, this.2⟩
  rw [this.1]
  simp
  omega

theorem less_sum (x M r : Nat) (h0 : 0 < x) (h8 : x ≤ 8) (hM : (2 : Int) ^ x = M) (hr : r < M) : SM (lessx x r) M ≤ 1 ↔ x = 1 := by
  rw [SM_less, if_pos hr, ← hM]
  have h : x = 1 ∨ x = 2 ∨ x = 3 ∨ x = 4 ∨ x = 5 ∨ x = 6 ∨ x = 7 ∨ x = 8 := by omega
  rcases h with rfl | rfl | rfl | rfl | rfl | rfl | rfl | rfl <;> simp

theorem less_new (x M r : Nat) (h0 : 0 < x) (h8 : x ≤ 8) (hM : (2 : Int) ^ x = M) (h256 : M ≤ 256) (hr : r < M) : nw (lessx x r) M true = if x = 1 then 0 else 2 := by
  obtain ⟨h1, h2⟩ := less_room x M r h0 h8 hM h256 hr
  have h3 := less_sum x M r h0 h8 hM hr
  unfold nw
  rw [if_pos h2, h1]
  by_cases e : x = 1
  · rw [if_pos e, if_pos (.inr ⟨rfl, h3.2 e⟩)]
  · rw [if_neg e, if_neg]
    rintro (h | h)
    · cases h
    · exact e (h3.1 h.2)

theorem room_skip (x r : Int) (w : World) (h : x < 1 ∨ 8 < x ∨ r < 0 ∨ (1 ≤ x ∧ x ≤ 8 ∧ 0 ≤ r ∧ 2 ^ x.toNat ≤ r)) :
    Calls Try.prog 6 #[.int .i64 x, .int .i64 r] w fun e w' => e = .returned (.bool true) ∧ Below w.heap.size w w' := by
  by_cases h1 : x < 1
  · have d1 : decide (x < 1) = true := by simp; omega
    clear h h1
    go_enter Try.func6, Try.ntmps6
    go_wp2_with (go_at_call 9; refine (known_any _).mono ?_; rintro e w1 ⟨rfl, hb⟩)
    go_ret
    exact ⟨rfl, hb⟩
  by_cases h2 : 8 < x
  · have d1 : decide (x < 1) = false := by simp; omega
    have d2 : decide (8 < x) = true := by simp; omega
    clear h h1 h2
    go_enter Try.func6, Try.ntmps6
    go_wp2_with (go_at_call 9; refine (known_any _).mono ?_; rintro e w1 ⟨rfl, hb⟩)
    go_ret
    exact ⟨rfl, hb⟩
  by_cases h3 : r < 0
  · have d1 : decide (x < 1) = false := by simp; omega
    have d2 : decide (8 < x) = false := by simp; omega
    have d3 : decide (r < 0) = true := by simp; omega
    clear h h1 h2 h3
    go_enter Try.func6, Try.ntmps6
    go_wp2_with (go_at_call 9; refine (known_any _).mono ?_; rintro e w1 ⟨rfl, hb⟩)
    go_ret
    exact ⟨rfl, hb⟩
  · obtain ⟨_, _, _, h4⟩ : 1 ≤ x ∧ x ≤ 8 ∧ 0 ≤ r ∧ 2 ^ x.toNat ≤ r := by
      rcases h with h | h | h | h
      · omega
      · omega
      · omega
      · exact h
    obtain ⟨y, rfl⟩ := Int.eq_ofNat_of_zero_le (show 0 ≤ x by omega)
    rw [Int.toNat_natCast] at h4
    have hp := p2_le y 8 (by omega)
    have hp8 : (2 : Int) ^ 8 = 256 := rfl
    have hpp := p2 y
    obtain ⟨M, hM⟩ := Int.eq_ofNat_of_zero_le (show (0 : Int) ≤ 2 ^ y by omega)
    have d1 : decide ((y : Int) < 1) = false := by simp; omega
    have d2 : decide ((8 : Int) < y) = false := by simp; omega
    have d3 : decide (r < 0) = false := by simp; omega
    have d4 : decide ((M : Int) ≤ r) = true := by simp; omega
    have hy8 : y ≤ 8 := by omega
    have hM256 : M ≤ 256 := by omega
    clear h h1 h2 h3 hp hp8 hpp h4
    go_enter Try.func6, Try.ntmps6
    go_wp2_with (go_at_call 9; refine (known_any _).mono ?_; rintro e w1 ⟨rfl, hb⟩)
    go_ret
    exact ⟨rfl, hb⟩

theorem vals_app (g : Nat → Value) (a b : Nat) : vals g (a + b) = vals g a ++ vals (fun j => g (a + j)) b := by
  unfold vals
  rw [List.range_add, List.map_append, List.map_map]
  rfl

theorem vals_set (g : Nat → Value) (n r : Nat) (u : Value) : (vals g n).set r u = vals (fun j => if j = r then u else g j) n := by
  apply List.ext_getElem?
  intro j
  by_cases hj : j < n
  · rw [vals_get _ _ _ hj, List.getElem?_set, vals_len, vals_get _ _ _ hj]
    by_cases e : r = j
    · subst e
      rw [if_pos rfl, if_pos hj, if_pos rfl]
    · rw [if_neg e, if_neg (fun h => e h.symm)]
  · rw [List.getElem?_eq_none (by rw [List.length_set, vals_len]; omega), List.getElem?_eq_none (by rw [vals_len]; omega)]

theorem more_list (x M : Nat) : ivs (allx x) M ++ ivs (fun _ => 15) 1 = ivs (morex x M) (M + 1) := by
  show _ = vals _ (M + 1)
  rw [vals_app]
  congr 1
  · exact vals_congr _ _ _ (fun i hi => by simp [allx, morex, hi])
  · exact vals_congr _ _ _ (fun i hi => by simp only [morex]; rw [if_neg (by omega)])

theorem less_list (x r M : Nat) : (ivs (allx x) M).set r (.int .i64 0) = ivs (lessx x r) M := by
  show (vals _ M).set r _ = vals _ M
  rw [vals_set]
  exact vals_congr _ _ _ (fun i hi => by
    by_cases e : i = r
    · simp [lessx, e]
    · simp [lessx, allx, e])

theorem one_int (w : World) (z : Int) : Ri (w.alloc (.cells #[.int .i64 z] 3)) (some ⟨w.heap.size, 0, none⟩) 1 1 (fun _ => z) :=
  Ri.row (World.rowIs_alloc w _ 3 _ (fun i hi => by
    simp at hi
    rcases i with _ | i <;> first | rfl | omega))

theorem own_form {w : World} {base n : Nat} {v : Value} {xs : List Value} (h : w.ownsRow base 3 1 v n xs) (hn : 0 < n) : ∃ g cap, v = .slice (some ⟨g, 0, none⟩) n cap ∧ base ≤ g := by
  rcases h.2 with ⟨_, h2⟩ | ⟨g, cap, cur, rfl, hg, _⟩
  · omega
  · exact ⟨g, cap, rfl, hg⟩

set_option maxRecDepth 100000 in
set_option maxHeartbeats 4000000 in
theorem room_go (x r M : Nat) (w : World) (h0 : 0 < x) (h8 : x ≤ 8) (hM : (2 : Int) ^ x = M) (h256 : M ≤ 256) (hr : r < M) :
    Calls Try.prog 6 #[.int .i64 x, .int .i64 r] w fun e w' => e = .returned (.bool true) ∧ Below w.heap.size w w' := by
  obtain ⟨i0, hi, hz0, hz1, hz2⟩ := info_parts Try.info3
  have d1 : decide ((x : Int) < 1) = false := by simp; omega
  have d2 : decide ((8 : Int) < x) = false := by simp; omega
  have d3 : decide ((r : Int) < 0) = false := by simp
  have d4 : decide ((M : Int) ≤ r) = false := by simp; omega
  go_enter Try.func6, Try.ntmps6
  go_wp2_with (first
    | (go_at_call 9; refine (known_any _).mono ?_; rintro e w1 ⟨rfl, b1⟩)
    | (at_make; refine wpList_make_row _ rfl _ _ 22 rfl 3 i0 (.int .i64 0) Try.underlying22 hi hz0 hz1 rfl .i64 .i64 M rfl rfl (by rw [hz2]; omega) (by omega) ?_))
  have r0 : (w1.alloc (.cells (madeCells #[Value.int .i64 0] M) 3)).rowIs w1.heap.size 3 M (fun j => .int .i64 (if j < 0 then allx x j else 0)) := (made_row w1 M).congr (fun j _ => by rw [if_neg (by omega)])
  have b0 : Below w.heap.size w (w1.alloc (.cells (madeCells #[Value.int .i64 0] M) 3)) := b1.alloc b1.size _
  have hwB : w.heap.size ≤ w1.heap.size := b1.size
  generalize (w1.alloc (.cells (madeCells #[Value.int .i64 0] M) 3)) = W at *
  generalize w1.heap.size = B at *
  have HM : Hid ((2 : Int) ^ x = M) := hM
  clear hi hz0 hz1 hz2 b1 hM
  go_loopw [6] (fun iv wr => ∃ k : Nat, k ≤ M ∧ iv = .int .i64 k ∧ wr.rowIs B 3 M (fun j => .int .i64 (if j < k then allx x j else 0)) ∧ Below w.heap.size w wr) (fun iv _ => M - (intOf iv).toNat)
  case atStart => exact ⟨0, by omega, rfl, r0, b0⟩
  case round =>
    obtain ⟨k, hk, rfl, hr1, hb1⟩ := hrel
    clear r0 b0
    by_cases hlt : k < M
    · have ck := hr1.cell (i := k) hlt
      have fk := hr1.frozen k
      have hr2 := put_row hr1
      have hb2 : Below w.heap.size w (wr.setCell ⟨B, k, none⟩ (.int .i64 (allx x k))) := hb1.setCell (by simpa using hwB) _
      rw [show allx x k = (x : Int) from rfl] at hr2 hb2
      clear hr1 hb1
      go_wp2
      go_roundw
      case rel => exact ⟨k + 1, by omega, by go_num, hr2, hb2⟩
      case measure => simp [intOf]; omega
    · obtain rfl : k = M := by omega
      have hr2 : wr.rowIs B 3 k (fun j => .int .i64 (allx x j)) := hr1.congr (fun j hj => by rw [if_pos hj])
      have ri2 := Ri.row hr2
      obtain ⟨fa, ea⟩ := all_room x k h0 h8 HM.out h256
      obtain ⟨fm, em⟩ := more_room x k h0 h8 HM.out h256
      obtain ⟨fl, el⟩ := less_room x k r h0 h8 HM.out h256 hr
      have hnw := less_new x k r h0 h8 HM.out h256 hr
      have HNW : Hid (nw (lessx x r) k true = if x = 1 then 0 else 2) := hnw
      have HFM : Hid (fu (morex x k) (k + 1) = false ∧ er (morex x k) (k + 1) = 2) := ⟨fm, em⟩
      have HFL : Hid (fu (lessx x r) k = false ∧ er (lessx x r) k = 0) := ⟨fl, el⟩
      clear hr1 fm em fl el hnw
      have hc := check_any _ k k (allx x) wr ri2
      rw [fa, ea] at hc
      clear fa ea
      go_wp2_with fail
      refine hc.mono ?_
      rintro e w3 ⟨rfl, b3⟩
      have B3 := hb1.trans (b3.mono hb1.size)
      have ri3 := ri2.keep b3
      have HB3 : Hid (Below w.heap.size w w3) := B3
      have HR3 : Hid (Ri w3 (some ⟨B, 0, none⟩) k k (allx x)) := ri3
      clear hb1 b3 ri2 hr2 B3 hc
      have o4 := none_ints w3 w3.heap.size (Nat.le_refl _)
      have ri4 := ri3.keep ((Below.refl _ _).alloc (Nat.le_refl _) (.cells #[] 3) : Below w3.heap.size w3 (w3.alloc (.cells #[] 3)))
      go_wp2_with (first
        | (refine wpList_append_iv rfl _ _ rfl w3.heap.size 0 (.slice (some ⟨w3.heap.size, 0, none⟩) 0 0) [] rfl o4 _ k k (allx x) rfl ri4 (by omega) (by simp) ?_; intro v5 w5 o5 g5; rw [Nat.zero_add, List.nil_append] at o5; have b5 : Below w3.heap.size w3 w5 := ((Below.refl _ _).alloc (Nat.le_refl _) _).grown g5 (by simp) (fun q hq => by cases hq; exact Nat.le_refl _))
        | (refine wpList_append_iv rfl _ _ rfl w3.heap.size k v5 (ivs (allx x) k) rfl (o5.alloc _) _ 1 1 (fun _ => 15) rfl (one_int w5 15) (by omega) (by have := b5.size; simp; omega) ?_; intro v6 w6 o6 g6; have b6 : Below w3.heap.size w3 w6 := (b5.alloc b5.size _).grown g6 (by have := b5.size; simp; omega) (fun q hq => (o5.lt q hq).1)))
      rw [more_list] at o6
      obtain ⟨mo, mc, rfl, ri6, _⟩ := own_ri o6
      have hc2 := check_any mo (k + 1) mc (morex x k) w6 ri6
      rw [HFM.out.1, HFM.out.2] at hc2
      refine hc2.mono ?_
      rintro e w7 ⟨rfl, b7⟩
      have b37 : Below w3.heap.size w3 w7 := b6.trans (b7.mono b6.size)
      have HB7 : Hid (Below w.heap.size w w7) := HB3.out.trans (b37.mono HB3.out.size)
      have ri7 := ri3.keep b37
      clear o4 ri4 o5 g5 b5 o6 g6 b6 ri6 b7 b37 hc2 HB3 HR3 ri3
      have o8 := none_ints w7 w7.heap.size (Nat.le_refl _)
      have ri8 := ri7.keep ((Below.refl _ _).alloc (Nat.le_refl _) (.cells #[] 3) : Below w7.heap.size w7 (w7.alloc (.cells #[] 3)))
      go_wp2_with (refine wpList_append_iv rfl _ _ rfl w7.heap.size 0 (.slice (some ⟨w7.heap.size, 0, none⟩) 0 0) [] rfl o8 _ k k (allx x) rfl ri8 (by omega) (by simp) ?_; intro v9 w9 o9 g9; rw [Nat.zero_add, List.nil_append] at o9; have b9 : Below w7.heap.size w7 w9 := ((Below.refl _ _).alloc (Nat.le_refl _) _).grown g9 (by simp) (fun q hq => by cases hq; exact Nat.le_refl _); obtain ⟨g, cap, rfl, hgb⟩ := own_form o9 (by omega); have c9 := o9.cellAt r (by omega); have f9 := o9.frozenAt r; rw [vals_get _ _ _ hr] at c9)
      have st := (o9.stored r (.int .i64 0)).1
      rw [less_list] at st
      have b10 : Below w7.heap.size w7 (w9.setCell ⟨g, r, none⟩ (.int .i64 0)) := b9.setCell (by simpa using hgb) _
      have HB10 : Hid (Below w.heap.size w (w9.setCell ⟨g, r, none⟩ (.int .i64 0))) := HB7.out.trans (b10.mono HB7.out.size)
      obtain ⟨lo, lc, e9, ri10, _⟩ := own_ri st
      cases e9
      generalize w9.setCell ⟨g, r, none⟩ (.int .i64 0) = W10 at *
      clear o8 ri8 o9 g9 b9 c9 f9 st b10 HB7 ri7
      have hc3 := check_any _ k cap (lessx x r) W10 ri10
      rw [HFL.out.1, HFL.out.2] at hc3
      refine hc3.mono ?_
      rintro e w11 ⟨rfl, b11⟩
      have ri11 := ri10.keep b11
      have HB11 : Hid (Below w.heap.size w w11) := HB10.out.trans (b11.mono HB10.out.size)
      clear hc3 ri10 b11 HB10
      go_wp2_with fail
      refine (new_p _ k cap (lessx x r) true w11 ri11).mono ?_
      rintro e w12 ⟨p1, rfl, hp, b12⟩
      have HB12 : Hid (Below w.heap.size w w12) := HB11.out.trans (b12.mono HB11.out.size)
      clear b12 ri11 HB11
      unfold NP at hp
      rw [HNW.out] at hp
      rw [HNW.out]
      by_cases hx1 : x = 1
      · rw [if_pos hx1] at hp
        rw [if_pos hx1]
        obtain ⟨R1, rfl⟩ : ∃ R1, p1 = .pointer (some ⟨R1, 0, none⟩) := by
          rcases hp with ⟨h', _⟩ | ⟨_, h'⟩
          · exact absurd rfl h'
          · exact h'
        have q1 : ((x : Int) == 1) = true := by simp; omega
        clear hp hx1
        go_wp2_with fail
        go_ret
        exact ⟨rfl, HB12.out⟩
      · rw [if_neg hx1] at hp
        rw [if_neg hx1]
        obtain rfl : p1 = .pointer none := by
          rcases hp with ⟨_, h'⟩ | ⟨h', _⟩
          · exact h'
          · omega
        have q1 : ((x : Int) == 1) = false := by simp; omega
        clear hp hx1
        go_wp2_with fail
        go_ret
        exact ⟨rfl, HB12.out⟩

end Go.Proofs.Ytjipohcacimkmaa
