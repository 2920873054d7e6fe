/- WFirst, WHalf, WNumb, WOrder, WCodes. -/
import Derived.Test.YtiahbicodlgmhaaGreatDoorM02
/- firstCodes, longest, isHalf. -/
namespace Go.Proofs.YtiahbicodlgmhaaGreatDoor
open Go.RowKit

theorem box_row (w : World) (f : Nat → Int) : (w.alloc (.cells (vals (fun j => .int .i64 (f j)) 16).toArray 158)).rowIs w.heap.size 158 16 (fun j => .int .i64 (f j)) := rowIs_vals w _ 16 158

/-- The world behind three rows of sixteen. -/
theorem three (w : World) (f g h : Nat → Int) : ∃ W, W = (((w.alloc (Obj.cells (vals (fun j => Value.int IntKind.i64 (f j)) 16).toArray 158)).alloc (Obj.cells (vals (fun j => Value.int IntKind.i64 (g j)) 16).toArray 158)).alloc (Obj.cells (vals (fun j => Value.int IntKind.i64 (h j)) 16).toArray 158)) ∧
    W.rowIs w.heap.size 158 16 (fun j => .int .i64 (f j)) ∧ W.rowIs (w.heap.size + 1) 158 16 (fun j => .int .i64 (g j)) ∧ W.rowIs (w.heap.size + 1 + 1) 158 16 (fun j => .int .i64 (h j)) ∧ Below w.heap.size w W := by
  refine ⟨_, rfl, ((box_row w f).alloc _).alloc _, ?_, ?_, (((Below.refl _ _).alloc (Nat.le_refl _) _).alloc (by simp) _).alloc (by simp; omega) _⟩
  · have := (box_row (w.alloc (Obj.cells (vals (fun j => Value.int IntKind.i64 (f j)) 16).toArray 158)) g).alloc (Obj.cells (vals (fun j => Value.int IntKind.i64 (h j)) 16).toArray 158)
    simpa using this
  · have := box_row ((w.alloc (Obj.cells (vals (fun j => Value.int IntKind.i64 (f j)) 16).toArray 158)).alloc (Obj.cells (vals (fun j => Value.int IntKind.i64 (g j)) 16).toArray 158)) h
    simpa using this

set_option maxRecDepth 100000 in
set_option maxHeartbeats 1000000 in
theorem first_any (L : Nat → Int) (n : Nat) (w : World) (hf : Fits L n) :
    Calls Tryz.prog 117 #[tal (C L n)] w fun e w' => e = .returned (tal (F L n)) ∧ Below w.heap.size w w' := by
  have z64 := zero64
  go_enter Tryz.func117, Tryz.ntmps117
  go_wp2
  obtain ⟨W, hW, hC, hR, hZ, hb⟩ := three w (C L n) (fun _ => 0) (fun _ => 0)
  rw [← hW]
  clear hW
  obtain ⟨B, hB⟩ : ∃ B, B = w.heap.size := ⟨_, rfl⟩
  rw [← hB] at hC hR hZ ⊢
  have HB : Hid (B = w.heap.size) := hB
  clear hB z64
  go_loopw [4] (fun i wr => ∃ k : Nat, 1 ≤ k ∧ k ≤ 16 ∧ i = .int .i64 k ∧ wr.rowIs B 158 16 (fun j => .int .i64 (C L n j)) ∧ wr.rowIs (B + 1) 158 16 (fun _ => .int .i64 0) ∧ wr.rowIs (B + 1 + 1) 158 16 (fun j => .int .i64 (if j < k then F L n j else 0)) ∧ Below w.heap.size w wr) (fun i _ => 16 - (intOf i).toNat)
  case atStart => exact ⟨1, by omega, by omega, rfl, hC, hR, hZ.congr (fun j _ => by
      by_cases e : j < 1
      · obtain rfl : j = 0 := by omega
        rfl
      · rw [if_neg e]), hb⟩
  case round =>
    obtain ⟨k, hk1, hk, rfl, hC1, hR1, hF1, hb1⟩ := hrel
    clear hC hR hZ hb
    by_cases hlt : k < 16
    · obtain ⟨m, rfl⟩ : ∃ m, k = m + 1 := ⟨k - 1, by omega⟩
      have c1 := hC1.cell (i := m) (by omega)
      have c2 := hF1.cell (i := m) (by omega)
      rw [if_pos (by omega)] at c2
      have f2 := hF1.frozen (m + 1)
      have c3 := hF1.cell (i := m + 1) (by omega)
      rw [if_neg (by omega)] at c3
      have s1 := FC L n m
      have s2 := G_small L n m hf (by omega)
      have HS : Hid (F L n (m + 1) = (F L n m + C L n m) * 2) := F_succ L n m
      have a1 := F_nn L n m
      have a2 := C_nn L n m
      have hF2 : (wr.setCell ⟨B + 1 + 1, m + 1, none⟩ (.int .i64 ((F L n m + C L n m) * 2))).rowIs (B + 1 + 1) 158 16 (fun j => .int .i64 (if j < m + 1 + 1 then F L n j else 0)) := (hF1.set (m + 1) _).congr (fun j _ => by
        by_cases e : j = m + 1
        · subst e
          rw [if_pos rfl, if_pos (by omega), HS.out]
        · rw [if_neg e]
          by_cases e' : j < m + 1
          · rw [if_pos e', if_pos (by omega)]
          · rw [if_neg e', if_neg (by omega)])
      have hC2 := hC1.setOther (a := ⟨B + 1 + 1, m + 1, none⟩) (by show B ≠ B + 1 + 1; omega) (.int .i64 ((F L n m + C L n m) * 2))
      have hR2 := hR1.setOther (a := ⟨B + 1 + 1, m + 1, none⟩) (by show B + 1 ≠ B + 1 + 1; omega) (.int .i64 ((F L n m + C L n m) * 2))
      have hb2 : Below w.heap.size w (wr.setCell ⟨B + 1 + 1, m + 1, none⟩ (.int .i64 ((F L n m + C L n m) * 2))) := hb1.setCell (by simp [HB.out]; omega) _
      have s3 : F L n m + C L n m ≤ 32768 := by omega
      clear hC1 hR1 hF1 hb1 hf s1 s2 hk1 hk
      go_wp2
      go_region
      all_goals
        go_wp2_with fail
        go_roundw
        case rel => exact ⟨m + 1 + 1, by omega, by omega, by go_num, hC2.drew, hR2.drew, hF2.drew, hb2.drew⟩
        case measure => simp [intOf]; omega
    · obtain rfl : k = 16 := by omega
      go_wp2_with (first
          | (refine wpList_ld0 rfl 158 _ rfl (B + 1 + 1) rfl _ hF1 16 (by omega) Tryz.underlying158 rfl size64 ?_)
          | (refine wpList_st rfl 158 _ _ rfl (B + 1) rfl (fun j => .int .i64 (if j < 16 then F L n j else 0)) rfl hR1 size64 (fun j => rfl) ?_; intro w3 h3 f3))
      refine bodyPost_ret (results_row rfl _ rfl h3 Tryz.underlying158 rfl size64) rfl ⟨?_, ?_⟩
      · rw [tal_congr (F L n) (fun j => if j < 16 then F L n j else 0) (fun i hi => by rw [if_pos hi])]
      · exact hb1.trans (f3.below _ hb1.size (fun i hi e => by have := HB.out; omega))

end Go.Proofs.YtiahbicodlgmhaaGreatDoor

/- longest, isHalf. -/
namespace Go.Proofs.YtiahbicodlgmhaaGreatDoor
open Go.RowKit

set_option maxHeartbeats 400000 in
theorem longest_any (c : Nat → Int) (w : World) :
    Calls Tryz.prog 121 #[tal c] w fun e w' => ∃ dp : Nat, e = .returned (.int .i64 dp) ∧ dp ≤ 15 ∧ (∀ j, dp < j → j < 16 → c j = 0) ∧ (dp = 0 ∨ c dp ≠ 0) ∧ Below w.heap.size w w' := by
  go_enter Tryz.func121, Tryz.ntmps121
  go_wp2
  have r0 := box_row w c
  have b0 : Below w.heap.size w (w.alloc (.cells (vals (fun j => .int .i64 (c j)) 16).toArray 158)) := (Below.refl _ _).alloc (Nat.le_refl _) _
  generalize (w.alloc (.cells (vals (fun j => .int .i64 (c j)) 16).toArray 158)) = W at *
  go_loop [3] (fun i => ∃ k : Nat, k ≤ 15 ∧ i = .int .i64 k ∧ ∀ j, k < j → j < 16 → c j = 0) (fun i => (intOf i).toNat)
  case atStart => exact ⟨15, by omega, rfl, fun j h1 h2 => by omega⟩
  case round =>
    obtain ⟨k, hk, rfl, hz⟩ := hrel
    have ck := r0.cell (i := k) (by omega)
    clear r0
    have HB : Hid (Below w.heap.size w W) := b0
    have HZ : Hid (∀ j, k < j → j < 16 → c j = 0) := hz
    clear b0 hz
    by_cases h0 : k = 0
    · subst h0
      go_wp2
      go_ret
      exact ⟨0, rfl, by omega, HZ.out, .inl rfl, HB.out⟩
    · have hp : 0 < k := by omega
      by_cases hc : c k = 0
      · rw [hc] at ck
        have HZ2 : Hid (∀ j, k - 1 < j → j < 16 → c j = 0) := fun j h1 h2 => by
          rcases Nat.lt_or_ge k j with h' | h'
          · exact HZ.out j h' h2
          · obtain rfl : j = k := by omega
            exact hc
        clear hc h0
        go_wp2
        go_round
        case rel => exact ⟨k - 1, by omega, by congr 1; omega, HZ2.out⟩
        case measure => simp [intOf]; omega
      · have hd : (c k == 0) = false := by simp [hc]
        have HC : Hid (c k ≠ 0) := hc
        clear hc h0
        go_wp2
        go_ret
        exact ⟨k, rfl, hk, HZ.out, .inr HC.out, HB.out⟩

/-- Are the first sixteen the same? -/
def same16 (f g : Nat → Int) : List Nat → Bool
  | [] => true
  | i :: l => (f i == g i) && same16 f g l

theorem same16_iff (f g : Nat → Int) (l : List Nat) : same16 f g l = true ↔ ∀ i ∈ l, f i = g i := by
  induction l with
  | nil => simp [same16]
  | cons i l ih => simp [same16, ih]

/-- The same, of the first sixteen. -/
def eq16 (f g : Nat → Int) : Bool := same16 f g (List.range' 0 16 1)

theorem eq16_iff (f g : Nat → Int) : eq16 f g = true ↔ ∀ i, i < 16 → f i = g i := by
  unfold eq16
  rw [same16_iff]
  simp [List.mem_range'_1]

theorem eq_loop (d : Nat) (f g : Nat → Int) (w : World) : (Op.equalIn (d + 2) 158 (tal f) (tal g)).run Tryz.prog w = .ok (eq16 f g) w := by
  have hsz : ∀ w, (sizeOf 3).run Tryz.prog w = .ok 1 w := fun w => by simp [go_sem]
  have he : Tryz.prog.underlying 3 = some (.int .i64) := Tryz.underlying3
  rw [Op.equalIn, eq16]
  simp only [Sem.run_bind, run_underlying Tryz.underlying158, Result.andThen_ok, hsz, Std.Legacy.Range.forIn_eq_forIn_range', Std.Legacy.Range.size, Nat.sub_zero, Nat.add_sub_cancel, Nat.div_one]
  have hl : ∀ i ∈ List.range' 0 16 1, i < 16 := fun i hi => by simpa using (List.mem_range'_1.1 hi).2
  generalize List.range' 0 16 1 = l at hl ⊢
  induction l with
  | nil => simp [same16]
  | cons i l ih =>
    have hi : i < 16 := hl i (by simp)
    have px : ∀ f : Nat → Int, (part 3 (vals (fun j => .int .i64 (f j)) 16).toArray (i * 1)).run Tryz.prog w = .ok (.int .i64 (f i)) w := fun f => by
      have := vals_get (fun j => .int .i64 (f j)) 16 i hi
      simp [part, isAgg, run_underlying he, this]
    have pe : (Op.equalIn (d + 1) 3 (.int .i64 (f i)) (.int .i64 (g i))).run Tryz.prog w = .ok (f i == g i) w := run_equalIn_int w d 3 .i64 .i64 _ _ he
    simp only [List.forIn_cons, Sem.run_bind, px, pe, Result.andThen_ok, same16]
    cases hfg : (f i == g i) with
    | true =>
      simp only [Bool.not_true, Bool.false_eq_true, if_false, Sem.run_pure, Result.andThen_ok, Bool.true_and]
      exact ih fun j hj => hl j (by simp [hj])
    | false => simp [Sem.run_pure, Result.andThen_ok]

theorem wpList_ldW {P : Program} {ops : Array Oper} {rest : List Oper} {op : Oper} {a : Act} {w : World} {Q : Exit → Act → World → Prop} (hw : Region.wanted op (yielded ops a.tmps) = true) (ty : TypeId) (x : Operand) (ho : op.op = .load ty x)
    (b : Nat) (hx : a.eval x = .pointer (some ⟨b, 0, none⟩)) (d : TypeDesc) {t n : Nat} {f : Nat → Value} (h : w.rowIs b t n f) (m : Nat) (hm : m ≤ n)
    (hu : P.underlying ty = some d) (hd : d.isRow = true) (hi : (P.info? ty).map (·.size) = some m)
    (hk : wpList P ops Q rest (a.put op.dst (row f m)) w) : wpList P ops Q (op :: rest) a w :=
  wpList_step fun K hK => by
    rw [if_pos hw]
    have hr := rangeAt_row h 0 m (by omega)
    simp only [Nat.zero_add] at hr
    exact wp_load_mid ty x ho b 0 hx _ d hr hu hd (by rw [vals_len]; exact hi) (hK _ _ hk)

/-- One alone, of one bit. -/
def one1 (j : Nat) : Int := if j = 1 then 1 else 0

theorem one_set : (vals (fun _ => Value.int .i64 0) 16).set 1 (.int .i64 1) = vals (fun j => .int .i64 (one1 j)) 16 := by kernel_rfl

theorem half_yes (c : Nat → Int) (w : World) (h : eq16 c (fun _ => 0) = true) :
    Calls Tryz.prog 116 #[tal c] w fun e w' => e = .returned (.bool true) ∧ Below w.heap.size w w' := by
  have z64 := zero64
  have heq := fun w => eq_loop 9998 c (fun _ => 0) w
  rw [h] at heq
  have r0 := box_row w c
  have b0 : Below w.heap.size w (w.alloc (.cells (vals (fun j => .int .i64 (c j)) 16).toArray 158)) := (Below.refl _ _).alloc (Nat.le_refl _) _
  go_enter Tryz.func116, Tryz.ntmps116
  go_wp2_with (refine wpList_ld0 rfl 158 _ rfl w.heap.size rfl _ r0 16 (by omega) Tryz.underlying158 rfl size64 ?_)
  go_ret
  exact ⟨rfl, b0⟩

theorem half_one (c : Nat → Int) (w : World) (h : eq16 c (fun _ => 0) = false) :
    Calls Tryz.prog 116 #[tal c] w fun e w' => e = .returned (.bool (eq16 c one1)) ∧ Below w.heap.size w w' := by
  have z64 := zero64
  have heq := fun w => eq_loop 9998 c (fun _ => 0) w
  rw [h] at heq
  have hlen := vals_len (fun _ => Value.int .i64 0) 16
  have heq1 : ∀ w, (Op.equalIn 10000 158 (Value.agg (vals (fun j => Value.int .i64 (c j)) 16).toArray) (Value.agg ((vals (fun _ => Value.int .i64 0) 16).set 1 (Value.int .i64 1)).toArray)).run Tryz.prog w = .ok (eq16 c one1) w := fun w => by
    rw [one_set]
    exact eq_loop 9998 c one1 w
  have r0 := box_row w c
  have b0 : Below w.heap.size w (w.alloc (.cells (vals (fun j => .int .i64 (c j)) 16).toArray 158)) := (Below.refl _ _).alloc (Nat.le_refl _) _
  go_enter Tryz.func116, Tryz.ntmps116
  go_wp2_with (first
    | (refine wpList_ld0 rfl 158 _ rfl w.heap.size rfl _ r0 16 (by omega) Tryz.underlying158 rfl size64 ?_)
    | (refine wpList_ldW (by rfl) 158 _ rfl w.heap.size rfl _ r0 16 (by omega) Tryz.underlying158 rfl size64 ?_))
  go_ret
  exact ⟨rfl, b0⟩

/-- Whether isHalf says so. -/
def hv (c : Nat → Int) : Bool := eq16 c (fun _ => 0) || eq16 c one1

theorem hv_iff (c : Nat → Int) : hv c = true ↔ Half c := by
  unfold hv Half
  rw [Bool.or_eq_true, eq16_iff, eq16_iff]
  rfl

theorem half_any (c : Nat → Int) (w : World) : Calls Tryz.prog 116 #[tal c] w fun e w' => e = .returned (.bool (hv c)) ∧ Below w.heap.size w w' := by
  unfold hv
  cases h : eq16 c (fun _ => 0) with
  | true => exact half_yes c w h
  | false => exact half_one c w h

end Go.Proofs.YtiahbicodlgmhaaGreatDoor

/- numbered. -/
namespace Go.Proofs.YtiahbicodlgmhaaGreatDoor
open Go.RowKit

theorem nb_at (L : Nat → Int) (f : Nat → Int) (k x : Nat) (h : L k = x) (hx : 0 < x) : nb L f k = f x + C L k x := by
  rw [nb, if_pos (by omega), h, Int.toNat_natCast, C_pos L k x hx]

theorem nb_zero (L : Nat → Int) (f : Nat → Int) (k : Nat) (h : L k = 0) : nb L f k = 0 := by
  rw [nb, if_neg (by omega)]

/-- One more number. -/
theorem put_row {w : World} {b n k t : Nat} {f : Nat → Int} (h : w.rowIs b t n (fun j => .int .i64 (if j < k then f j else 0))) : (w.setCell ⟨b, k, none⟩ (.int .i64 (f k))).rowIs b t n (fun j => .int .i64 (if j < k + 1 then f j else 0)) :=
  (h.set k _).congr (fun i _ => by
    by_cases e : i = k
    · subst e; rw [if_pos rfl, if_pos (by omega)]
    · rw [if_neg e]
      by_cases h : i < k
      · rw [if_pos h, if_pos (by omega)]
      · rw [if_neg h, if_neg (by omega)])

theorem same_row {w : World} {b n k t : Nat} {f : Nat → Int} (h : w.rowIs b t n (fun j => .int .i64 (if j < k then f j else 0))) (h0 : f k = 0) : w.rowIs b t n (fun j => .int .i64 (if j < k + 1 then f j else 0)) :=
  h.congr (fun i _ => by
    by_cases e : i = k
    · subst e; rw [if_neg (by omega), if_pos (by omega), h0]
    · by_cases h : i < k
      · rw [if_pos h, if_pos (by omega)]
      · rw [if_neg h, if_neg (by omega)])

theorem ri_below {w w' : World} {ao : Option Addr} {n c : Nat} {L : Nat → Int} (h : Ri w ao n c L) (hb : Below w.heap.size w w') : Ri w' ao n c L := h.keep hb

/-- The world behind a row of sixteen and a new slice. -/
theorem two (w : World) (f : Nat → Int) (n : Nat) : ∃ W, W = ((w.alloc (Obj.cells (vals (fun j => Value.int IntKind.i64 (f j)) 16).toArray 158)).alloc (Obj.cells (madeCells #[Value.int IntKind.i64 0] n) 3)) ∧
    W.rowIs w.heap.size 158 16 (fun j => .int .i64 (f j)) ∧ W.rowIs (w.heap.size + 1) 3 n (fun _ => .int .i64 0) ∧ Below w.heap.size w W := by
  refine ⟨_, rfl, (box_row w f).alloc _, ?_, ((Below.refl _ _).alloc (Nat.le_refl _) _).alloc (by simp) _⟩
  have := made_row (w.alloc (Obj.cells (vals (fun j => Value.int IntKind.i64 (f j)) 16).toArray 158)) n
  simpa using this

set_option maxRecDepth 100000 in
set_option maxHeartbeats 1000000 in
theorem numb_any (ao : Option Addr) (n c : Nat) (L f : Nat → Int) (w : World) (h : Ri w ao n c L) (hn : n ≤ 288) (hL : ∀ j, j < n → Lm (L j)) (hf : ∀ j, j < 16 → 0 ≤ f j ∧ f j ≤ 1000000) :
    Calls Tryz.prog 119 #[.slice ao n c, tal f] w fun e w' => ∃ g, e = .returned (.slice (some ⟨g, 0, none⟩) n n) ∧ w'.rowIs g 3 n (fun j => .int .i64 (nb L f j)) ∧ w.heap.size ≤ g ∧ Below w.heap.size w w' := by
  obtain ⟨i0, hi, hz0, hz1, hz2⟩ := info_parts Tryz.info3
  go_enter Tryz.func119, Tryz.ntmps119
  go_wp2_with (at_make; refine wpList_make_row _ rfl _ _ 59 rfl 3 i0 (.int .i64 0) Tryz.underlying59 hi hz0 hz1 rfl .i64 .i64 n rfl rfl (by rw [hz2]; omega) (by omega) ?_)
  obtain ⟨W, hW, hA, hZ, hb⟩ := two w f n
  rw [← hW]
  obtain ⟨B, hB⟩ : ∃ B, B = w.heap.size := ⟨_, rfl⟩
  rw [← hB] at hA hZ ⊢
  have HB : Hid (B = w.heap.size) := hB
  clear hB hW hi hz0 hz1 hz2
  go_loopw [6, 7, 13] (fun _ _ i wr => ∃ k : Nat, k ≤ n ∧ i = .int .i64 k ∧ wr.rowIs B 158 16 (fun j => .int .i64 (f j + C L k j)) ∧ wr.rowIs (B + 1) 3 n (fun j => .int .i64 (if j < k then nb L f j else 0)) ∧ Below w.heap.size w wr) (fun _ _ i _ => n - (intOf i).toNat)
  case atStart => exact ⟨0, by omega, rfl, hA.congr (fun j _ => by rw [C_none, Int.add_zero]), hZ.congr (fun j _ => by rw [if_neg (by omega)]), hb⟩
  case round =>
    obtain ⟨k, hk, rfl, hA1, hZ1, hb1⟩ := hrel
    clear hA hZ hb
    by_cases hlt : k < n
    · obtain ⟨b, off, rfl, hcell⟩ := (h.keep hb1).plain (by omega)
      have hck := hcell k hlt
      obtain ⟨x, hx⟩ := Int.eq_ofNat_of_zero_le (hL k hlt).1
      have hx15 : x ≤ 15 := by have := (hL k hlt).2; omega
      rw [hx] at hck
      by_cases hx0 : x = 0
      · have hA2 : wr.rowIs B 158 16 (fun j => .int .i64 (f j + C L (k + 1) j)) := hA1.congr (fun j _ => by rw [C_same L k (by omega)])
        have hZ2 := same_row hZ1 (nb_zero L f k (by omega))
        subst hx0
        clear hcell h hL hA1 hZ1 hx hf
        go_wp2
        go_roundw
        case rel => exact ⟨k + 1, by omega, by go_num, hA2, hZ2, hb1⟩
        case measure => simp [intOf]; omega
      · have cx := hA1.cell (i := x) (by omega)
        have fx := hA1.frozen x
        have ck := hZ1.cell (i := k) hlt
        rw [if_neg (by omega)] at ck
        have fk := hZ1.frozen k
        have hxp : (0 : Int) < (x : Int) := by omega
        have bf := hf x (by omega)
        have bc := C_nn L k x
        have hnb := nb_at L f k x hx (by omega)
        have hZ2 := put_row hZ1
        rw [hnb] at hZ2
        have hA2 : (wr.setCell ⟨B + 1, k, none⟩ (.int .i64 (f x + C L k x))).rowIs B 158 16 (fun j => .int .i64 (f j + C L k j)) := hA1.setOther (by show B ≠ B + 1; omega) _
        have cx2 := hA2.cell (i := x) (by omega)
        have fx2 := hA2.frozen x
        have hA3 : ((wr.setCell ⟨B + 1, k, none⟩ (.int .i64 (f x + C L k x))).setCell ⟨B, x, none⟩ (.int .i64 (f x + C L k x + 1))).rowIs B 158 16 (fun j => .int .i64 (f j + C L (k + 1) j)) := (hA2.set x _).congr (fun j _ => by
          rw [C_put L k x hx (by omega)]
          by_cases e : j = x
          · subst e; rw [if_pos rfl, if_pos rfl, Int.add_assoc]
          · rw [if_neg e, if_neg e])
        have hZ3 : ((wr.setCell ⟨B + 1, k, none⟩ (.int .i64 (f x + C L k x))).setCell ⟨B, x, none⟩ (.int .i64 (f x + C L k x + 1))).rowIs (B + 1) 3 n (fun j => .int .i64 (if j < k + 1 then nb L f j else 0)) := hZ2.setOther (by show B + 1 ≠ B; omega) _
        have hb3 : Below w.heap.size w ((wr.setCell ⟨B + 1, k, none⟩ (.int .i64 (f x + C L k x))).setCell ⟨B, x, none⟩ (.int .i64 (f x + C L k x + 1))) := (hb1.setCell (by simp [HB.out]) _).setCell (by simp [HB.out]) _
        clear hcell h hL hA1 hZ1 hx hf hb1 hnb hZ2 hA2
        go_wp2
        go_roundw
        case rel => exact ⟨k + 1, by omega, by go_num, hA3, hZ3, hb3⟩
        case measure => simp [intOf]; omega
    · obtain rfl : k = n := by omega
      clear h hL hf hA1
      go_wp2
      go_ret
      exact ⟨B + 1, rfl, hZ1.congr (fun j hj => by rw [if_pos hj]), by have := HB.out; omega, hb1⟩

end Go.Proofs.YtiahbicodlgmhaaGreatDoor

/- inOrder. -/
namespace Go.Proofs.YtiahbicodlgmhaaGreatDoor
open Go.RowKit

theorem nbp_lt (L : Nat → Int) (n i : Nat) (hi : i < n) (h0 : 0 < L i) (h15 : L i ≤ 15) : 0 ≤ nb L (pl L n) i ∧ nb L (pl L n) i < pl L n 16 := by
  obtain ⟨x, hx⟩ := Int.eq_ofNat_of_zero_le (show 0 ≤ L i by omega)
  rw [nb_at L (pl L n) i x hx (by omega), C_pos L i x (by omega)]
  have h1 := (pl_nn L n x).1
  have h2 := (cn_nn L x i).1
  have h3 := cn_lt L x i n hi hx
  have h4 := pl_mono L n (x + 1) 16 (by omega)
  simp only [pl] at h4
  rw [C_pos L n x (by omega)] at h4
  simp only [pl]
  omega

theorem nbp_rise (L : Nat → Int) (n i k : Nat) (hi : i < n) (h0 : 0 < L i) (h1 : L i < L k) (h15 : L k ≤ 15) : nb L (pl L n) i < nb L (pl L n) k := by
  obtain ⟨x, hx⟩ := Int.eq_ofNat_of_zero_le (show 0 ≤ L i by omega)
  obtain ⟨y, hy⟩ := Int.eq_ofNat_of_zero_le (show 0 ≤ L k by omega)
  rw [nb_at L (pl L n) i x hx (by omega), nb_at L (pl L n) k y hy (by omega), C_pos L i x (by omega), C_pos L k y (by omega)]
  have h2 := (cn_nn L y k).1
  have h3 := cn_lt L x i n hi hx
  have h4 := pl_mono L n (x + 1) y (by omega)
  simp only [pl] at h4
  rw [C_pos L n x (by omega)] at h4
  omega

theorem nbp_inj (L : Nat → Int) (n i k : Nat) (hi : i < n) (hk : k < n) (h0 : 0 < L i) (h1 : 0 < L k) (h15 : L i ≤ 15) (k15 : L k ≤ 15) (e : nb L (pl L n) i = nb L (pl L n) k) : i = k := by
  rcases Int.lt_trichotomy (L i) (L k) with h | h | h
  · have := nbp_rise L n i k hi h0 h k15; omega
  · obtain ⟨x, hx⟩ := Int.eq_ofNat_of_zero_le (show 0 ≤ L i by omega)
    have hy : L k = (x : Int) := by omega
    rw [nb_at L (pl L n) i x hx (by omega), nb_at L (pl L n) k x hy (by omega), C_pos L i x (by omega), C_pos L k x (by omega)] at e
    rcases Nat.lt_trichotomy i k with h' | h' | h'
    · have := cn_lt L x i k h' hx; omega
    · exact h'
    · have := cn_lt L x k i h' hy; omega
  · have := nbp_rise L n k i hk h1 h h15; omega

/-- The symbols of which the first k are put. -/
def Sym (L : Nat → Int) (n k : Nat) (sy : Nat → Int) : Prop := ∀ i, i < k → 0 < L i → sy (nb L (pl L n) i).toNat = i

theorem Sym.put {L : Nat → Int} {n k : Nat} {sy : Nat → Int} (h : Sym L n k sy) (hL : ∀ j, j < n → Lm (L j)) (hk : k < n) (h0 : 0 < L k) : Sym L n (k + 1) (fun j => if j = (nb L (pl L n) k).toNat then (k : Int) else sy j) := by
  intro i hi hp
  have hk15 := (hL k hk).2
  have bk := nbp_lt L n k hk h0 hk15
  by_cases e : i = k
  · subst e
    simp only [if_pos]
  · have hin : i < n := by omega
    have hi15 := (hL i hin).2
    have bi := nbp_lt L n i hin hp hi15
    simp only
    rw [if_neg, h i (by omega) hp]
    intro e'
    exact e (nbp_inj L n i k hin hk hp h0 hi15 hk15 (by omega))

theorem Sym.skip {L : Nat → Int} {n k : Nat} {sy : Nat → Int} (h : Sym L n k sy) (h0 : L k = 0) : Sym L n (k + 1) sy := by
  intro i hi hp
  by_cases e : i = k
  · subst e; omega
  · exact h i (by omega) hp

set_option maxRecDepth 100000 in
set_option maxHeartbeats 1000000 in
theorem order_any (ao : Option Addr) (n c : Nat) (L : Nat → Int) (w : World) (h : Ri w ao n c L) (hn : n ≤ 288) (hL : ∀ j, j < n → Lm (L j)) (M : Nat) (hM : pl L n 16 = M) :
    Calls Tryz.prog 120 #[.slice ao n c, tal (C L n)] w fun e w' => ∃ g sy, e = .returned (.slice (some ⟨g, 0, none⟩) M M) ∧ w'.rowIs g 3 M (fun j => .int .i64 (sy j)) ∧ Sym L n n sy ∧ w.heap.size ≤ g ∧ Below w.heap.size w w' := by
  obtain ⟨i0, hi, hz0, hz1, hz2⟩ := info_parts Tryz.info3
  have z64 := zero64
  have r0 := box_row w (C L n)
  go_enter Tryz.func120, Tryz.ntmps120
  have r1 := r0.alloc (Obj.cells (vals (fun _ => Value.int IntKind.i64 0) 16).toArray 158)
  go_wp2_with (refine wpList_ld0 rfl 158 _ rfl w.heap.size rfl _ r1 16 (by omega) Tryz.underlying158 rfl size64 ?_)
  have r2 : ((w.alloc (Obj.cells (vals (fun j => Value.int IntKind.i64 (C L n j)) 16).toArray 158)).alloc (Obj.cells (vals (fun _ => Value.int IntKind.i64 0) 16).toArray 158)).rowIs (w.heap.size + 1) 158 16 (fun j => .int .i64 (if j < 0 then pl L n j else 0)) := by
    have := box_row (w.alloc (Obj.cells (vals (fun j => Value.int IntKind.i64 (C L n j)) 16).toArray 158)) (fun _ => 0)
    exact (by simpa using this : World.rowIs _ (w.heap.size + 1) 158 16 (fun _ => Value.int .i64 0)).congr (fun j _ => by rw [if_neg (by omega)])
  have b2 : Below w.heap.size w ((w.alloc (Obj.cells (vals (fun j => Value.int IntKind.i64 (C L n j)) 16).toArray 158)).alloc (Obj.cells (vals (fun _ => Value.int IntKind.i64 0) 16).toArray 158)) := ((Below.refl _ _).alloc (Nat.le_refl _) _).alloc (by simp) _
  generalize ((w.alloc (Obj.cells (vals (fun j => Value.int IntKind.i64 (C L n j)) 16).toArray 158)).alloc (Obj.cells (vals (fun _ => Value.int IntKind.i64 0) 16).toArray 158)) = W at *
  obtain ⟨B, hB⟩ : ∃ B, B = w.heap.size := ⟨_, rfl⟩
  rw [← hB] at r2 ⊢
  have HB : Hid (B = w.heap.size) := hB
  have HM : Hid (pl L n 16 = M) := hM
  have hpl := (pl_nn L n 16).2
  have hM2 : M ≤ 16 * 288 := by omega
  clear hB r0 r1 z64 hM hpl
  have hsz : ∀ w, (sizeOf 3).run Tryz.prog w = .ok 1 w := fun w => by simp [go_sem]
  have hag : ∀ w, (isAgg 3).run Tryz.prog w = .ok false w := fun w => by simp [go_sem]
  go_loopw [6, 7, 8, 13] (fun tot _ _ i wr => ∃ k : Nat, k ≤ 16 ∧ i = .int .i64 k ∧ tot = .int .i64 (pl L n k) ∧ wr.rowIs (B + 1) 158 16 (fun j => .int .i64 (if j < k then pl L n j else 0)) ∧ Below w.heap.size w wr) (fun _ _ _ i _ => 16 - (intOf i).toNat)
  case atStart => exact ⟨0, by omega, rfl, rfl, r2, b2⟩
  case round =>
    obtain ⟨k, hk, rfl, rfl, hP, hb⟩ := hrel
    clear r2 b2
    by_cases hlt : k < 16
    · have hidx := fun w => run_index_row (P := Tryz.prog) 158 3 16 .i64 (fun j => .int .i64 (C L n j)) k hlt Tryz.underlying158 hag hsz w
      have ck := hP.cell (i := k) hlt
      rw [if_neg (by omega)] at ck
      have fk := hP.frozen k
      have a1 := pl_nn L n k
      have a2 := C_nn L n k
      have hP2 := put_row hP
      have hb2 : Below w.heap.size w (wr.setCell ⟨B + 1, k, none⟩ (.int .i64 (pl L n k))) := hb.setCell (by simp [HB.out]) _
      have HS : Hid (pl L n (k + 1) = pl L n k + C L n k) := rfl
      have a3 : pl L n k ≤ 16 * 288 := by
        have := Int.mul_le_mul (show (k : Int) ≤ 16 by omega) (show (n : Int) ≤ 288 by omega) (by omega) (by omega)
        omega
      clear hP hb h hL a1 hi hz0 hz1 hz2
      have a1 := (pl_nn L n k).1
      go_wp2
      go_roundw
      case rel => exact ⟨k + 1, by omega, by go_num, by rw [HS.out], hP2, hb2⟩
      case measure => simp [intOf]; omega
    · obtain rfl : k = 16 := by omega
      have hP1 : wr.rowIs (B + 1) 158 16 (fun j => .int .i64 (pl L n j)) := hP.congr (fun j hj => by rw [if_pos hj])
      have h1 := h.keep hb
      rw [HM.out]
      have hP2 : (wr.alloc (.cells (madeCells #[Value.int IntKind.i64 0] M) 3)).rowIs (B + 1) 158 16 (fun j => .int .i64 (pl L n j)) := hP1.alloc _
      have hS := made_row wr M
      have h2 := h1.keep ((Below.refl _ _).alloc (Nat.le_refl _) (.cells (madeCells #[Value.int IntKind.i64 0] M) 3) : Below wr.heap.size wr (wr.alloc (.cells (madeCells #[Value.int IntKind.i64 0] M) 3)))
      have hb2 : Below w.heap.size w (wr.alloc (.cells (madeCells #[Value.int IntKind.i64 0] M) 3)) := hb.alloc hb.size _
      have HG : Hid (w.heap.size ≤ wr.heap.size) := hb.size
      have HR : Hid (Ri w ao n c L) := h
      clear hP hP1 h h1 hb hsz hag
      go_wp2_with (first
        | (at_make; refine wpList_make_row _ rfl _ _ 59 rfl 3 i0 (.int .i64 0) Tryz.underlying59 hi hz0 hz1 rfl .i64 .i64 M rfl rfl (by rw [hz2]; omega) (by omega) ?_)
        | (refine wpList_ld0 rfl 158 _ rfl (B + 1) rfl _ hP2 16 (by omega) Tryz.underlying158 rfl size64 ?_))
      have hpb : ∀ j, j < 16 → 0 ≤ pl L n j ∧ pl L n j ≤ 1000000 := fun j hj => by
        have h1 := pl_nn L n j
        have := Int.mul_le_mul (show (j : Int) ≤ 16 by omega) (show (n : Int) ≤ 288 by omega) (by omega) (by omega)
        omega
      refine (numb_any ao n c L (pl L n) _ h2 hn hL hpb).mono ?_
      rintro e w3 ⟨g, rfl, hg, hgs, b3⟩
      have hS3 : w3.rowIs wr.heap.size 3 M (fun _ => .int .i64 0) := hS.of_block (b3.block _ hS.lt)
      have B3 := hb2.trans (b3.mono hb2.size)
      have hgne : wr.heap.size ≠ g := by have := hS.lt; omega
      have hgw : w.heap.size ≤ g := by have := hb2.size; omega
      clear hP2 hS h2 hb2 b3 hgs hpb
      generalize wr.heap.size = S at *
      go_wp2_with fail
      go_loopw [10, 11, 30] (fun _ _ i wq => ∃ (k : Nat) (sy : Nat → Int), k ≤ n ∧ i = .int .i64 k ∧ wq.rowIs S 3 M (fun j => .int .i64 (sy j)) ∧ Sym L n k sy ∧ wq.rowIs g 3 n (fun j => .int .i64 (nb L (pl L n) j)) ∧ Below w.heap.size w wq) (fun _ _ i _ => n - (intOf i).toNat)
      case atStart => exact ⟨0, fun _ => 0, by omega, rfl, hS3, fun i hi => by omega, hg, B3⟩
      case round =>
        obtain ⟨k, sy, hk, rfl, hS4, hsy, hg4, B4⟩ := hrel
        clear hS3 hg B3
        by_cases hlt : k < n
        · have cg := hg4.cell (i := k) hlt
          obtain ⟨b, off, rfl, hcell⟩ := (HR.out.keep B4).plain (by omega)
          have ck := hcell k hlt
          obtain ⟨x, hx⟩ := Int.eq_ofNat_of_zero_le (hL k hlt).1
          have hx15 : x ≤ 15 := by have := (hL k hlt).2; omega
          rw [hx] at ck
          by_cases hx0 : x = 0
          · have hsy2 := hsy.skip (show L k = 0 by omega)
            rw [nb_zero L (pl L n) k (by omega)] at cg
            subst hx0
            clear hcell hx hsy hL
            go_wp2
            go_roundw
            case rel => exact ⟨k + 1, sy, by omega, by go_num, hS4, hsy2, hg4, B4⟩
            case measure => simp [intOf]; omega
          · have hp : 0 < L k := by omega
            have hbd := nbp_lt L n k hlt hp (hL k hlt).2
            have hsy2 := hsy.put hL hlt hp
            obtain ⟨y, hy⟩ := Int.eq_ofNat_of_zero_le hbd.1
            rw [hy, Int.toNat_natCast] at hsy2
            rw [hy] at cg
            have hyM : y < M := by have := hbd.2; rw [HM.out, hy] at this; omega
            have cy := hS4.cell (i := y) hyM
            have fy := hS4.frozen y
            have hS5 : (wr.setCell ⟨S, y, none⟩ (.int .i64 (k : Int))).rowIs S 3 M (fun j => .int .i64 (if j = y then (k : Int) else sy j)) := (hS4.set y _).congr (fun j _ => by
              by_cases e : j = y
              · rw [if_pos e, if_pos e]
              · rw [if_neg e, if_neg e])
            have hg5 : (wr.setCell ⟨S, y, none⟩ (.int .i64 (k : Int))).rowIs g 3 n (fun j => .int .i64 (nb L (pl L n) j)) := hg4.setOther (by show g ≠ S; omega) _
            have HSw : w.heap.size ≤ S := HG.out
            have hb5 : Below w.heap.size w (wr.setCell ⟨S, y, none⟩ (.int .i64 (k : Int))) := B4.setCell (by simpa using HSw) _
            have hxp : (0 : Int) < (x : Int) := by omega
            clear hcell hx hsy hL hp hbd hy hS4 hg4 B4
            go_wp2
            go_roundw
            case rel => exact ⟨k + 1, _, by omega, by go_num, hS5, hsy2, hg5, hb5⟩
            case measure => simp [intOf]; omega
        · obtain rfl : k = n := by omega
          clear hL
          go_wp2
          go_ret
          exact ⟨S, sy, rfl, hS4, hsy, HG.out, B4⟩

end Go.Proofs.YtiahbicodlgmhaaGreatDoor

/- Check and Codes of any lengths. -/
namespace Go.Proofs.YtiahbicodlgmhaaGreatDoor
open Go.RowKit

/-- Whether the first k lengths may be. -/
def alm (L : Nat → Int) : Nat → Bool
  | 0 => true
  | k + 1 => alm L k && (decide (0 ≤ L k) && decide (L k ≤ 15))

theorem alm_iff (L : Nat → Int) (k : Nat) : alm L k = true ↔ ∀ j, j < k → Lm (L j) := by
  induction k with
  | zero => simp [alm]
  | succ k ih =>
    simp only [alm, Bool.and_eq_true, decide_eq_true_eq, ih]
    constructor
    · rintro ⟨h1, h2⟩ j hj
      rcases Nat.lt_or_ge j k with h' | h'
      · exact h1 j h'
      · obtain rfl : j = k := by omega
        exact h2
    · intro h
      exact ⟨fun j hj => h j (by omega), h k (by omega)⟩

/-- Whether lengths may be, so many. -/
def okL (L : Nat → Int) (n : Nat) : Bool := decide (n ≤ 288) && alm L n

theorem okL_iff (L : Nat → Int) (n : Nat) : okL L n = true ↔ n ≤ 288 ∧ ∀ j, j < n → Lm (L j) := by
  rw [okL, Bool.and_eq_true, decide_eq_true_eq, alm_iff]

/-- The error of lengths: none 0, no lengths 1, over full 2. -/
def er (L : Nat → Int) (n : Nat) : Int := if okL L n = true then (if 32768 < G L 15 n then 2 else 0) else 1

/-- Whether they are a complete code. -/
def fu (L : Nat → Int) (n : Nat) : Bool := okL L n && (G L 15 n == 32768)

theorem er_zero (L : Nat → Int) (n : Nat) (h : er L n = 0) : n ≤ 288 ∧ (∀ j, j < n → Lm (L j)) ∧ Fits L n := by
  unfold er at h
  by_cases hk : okL L n = true
  · rw [if_pos hk] at h
    by_cases hg : 32768 < G L 15 n
    · rw [if_pos hg] at h; omega
    · have := (okL_iff L n).1 hk
      exact ⟨this.1, this.2, by unfold Fits; omega⟩
  · rw [if_neg hk] at h; omega

theorem er_range (L : Nat → Int) (n : Nat) : er L n = 0 ∨ er L n = 1 ∨ er L n = 2 := by
  unfold er
  split
  · split <;> simp
  · simp

theorem checked_all (ao : Option Addr) (n c : Nat) (L : Nat → Int) (w : World) (h : Ri w ao n c L) :
    Calls Tryz.prog 115 #[.slice ao n c] w fun e w' => ∃ cc, e = .returned (.tuple #[tal cc, .bool (fu L n), .int .i64 (er L n)]) ∧ (er L n = 0 → cc = C L n) ∧ Below w.heap.size w w' := by
  by_cases hk : okL L n = true
  · obtain ⟨h1, h2⟩ := (okL_iff L n).1 hk
    refine (checked_any ao n c L w h h1 h2).mono ?_
    rintro e w' ⟨rfl, hb⟩
    rw [ckv, er, fu, if_pos hk, hk, Bool.true_and]
    by_cases hg : 32768 < G L 15 n
    · rw [if_pos hg, if_pos hg]
      have e1 : (G L 15 n == 32768) = false := by simp; omega
      rw [e1]
      exact ⟨_, rfl, (fun h => by omega), hb⟩
    · rw [if_neg hg, if_neg hg]
      exact ⟨_, rfl, fun _ => rfl, hb⟩
  · have h1 : 288 < n ∨ ¬ ∀ j, j < n → Lm (L j) := by
      rw [okL_iff] at hk
      by_cases h' : n ≤ 288
      · exact .inr (fun h2 => hk ⟨h', h2⟩)
      · exact .inl (by omega)
    refine (checked_arg ao n c L w h h1).mono ?_
    rintro e w' ⟨rfl, hb⟩
    have e1 : okL L n = false := by simpa using hk
    rw [er, fu, if_neg hk, e1, Bool.false_and]
    exact ⟨_, rfl, (fun h => by omega), hb⟩

end Go.Proofs.YtiahbicodlgmhaaGreatDoor
