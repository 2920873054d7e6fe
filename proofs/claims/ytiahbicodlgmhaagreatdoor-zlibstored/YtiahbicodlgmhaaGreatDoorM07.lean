/- WRep, WFixed, WLen, Fld. -/
import Derived.Test.YtiahbicodlgmhaaGreatDoorM06
import Derived.Laws.CopyRow
import Derived.Lib.AppendZeros
import Derived.Test.YtiahbicodlgmhaaGreatDoorM02
/- copy onto a row of numbers; slices.Repeat of one number. -/
namespace Go.Proofs.YtiahbicodlgmhaaGreatDoor
open Go.RowKit

theorem size3 : (Tryz.prog.info? 3).map (·.size) = some 1 := by
  have := Tryz.info3
  cases h : Tryz.prog.info? 3 with
  | none => rw [h] at this; cases this
  | some i => rw [h] at this; simp at this; simp [this.2.1]

theorem copy_run (w : World) (ty : TypeId) (g o dl dc N cnt : Nat) (f : Nat → Value) (hrow : w.rowIs g 3 N f) (hd : o + dl ≤ N) (ad : Addr) (n c : Nat) (L : Nat → Int) (hr : Ri w (some ad) n c L) (hcnt : cnt = min n dl) :
    ∃ w', (Builtin.copy_ #[59, 59] ty #[.slice (some ⟨g, o, none⟩) dl dc, .slice (some ad) n c]).run Tryz.prog w = .ok (.int .i64 cnt) w' ∧
      w'.rowIs g 3 N (fun j => if o ≤ j ∧ j < o + cnt then .int .i64 (L (j - o)) else f j) ∧ Fr (fun k => k = g) w w' := by
  obtain ⟨cur, hg, hn, hc⟩ := hrow
  have hcs : (ivs L cnt).length = cnt := vals_len _ _
  have hsrc : ∀ j v, (ivs L cnt)[j]? = some v → w.cell? (ad.add j) = some v := fun j v hv => by
    have hj : j < cnt := by
      have := (List.getElem?_eq_some_iff.1 hv).1
      rwa [hcs] at this
    refine hr.cellsOf ad rfl j v ?_
    rw [vals_get _ _ _ hj] at hv
    rw [vals_get _ _ _ (by omega)]
    exact hv
  have hrun := run_copy_row (P := Tryz.prog) w 59 59 ty 3 g o dl dc ad n c cur 3 (ivs L cnt) Tryz.underlying59 size3 hg (by rw [hcs, hcnt]) hsrc (by rw [hcs]; omega) (ivs_one _ _)
  rw [hcs] at hrun
  refine ⟨_, hrun, ?_, (Fr.refl (fun b => b = g) w).setRow rfl _⟩
  refine ⟨_, setRow_heap w g cur _ 3 _ hg, ?_, fun i hi => ?_⟩
  · simp [vals]; omega
  · have hl0 : cur.toList.length = N := by simpa using hn
    have hl1 : (List.take o cur.toList).length = o := by simp; omega
    simp only [List.getElem?_toArray, List.append_assoc]
    by_cases h1 : i < o
    · rw [if_neg (by omega), List.getElem?_append_left (by omega), List.getElem?_take, if_pos h1]
      simpa using hc i hi
    · by_cases h2 : i < o + cnt
      · rw [if_pos (by omega), List.getElem?_append_right (by omega), List.getElem?_append_left (by omega), hl1, vals_get _ _ _ (by omega)]
      · rw [if_neg (by omega), List.getElem?_append_right (by omega), List.getElem?_append_right (by omega), hl1, hcs, List.getElem?_drop, show o + cnt + (i - o - cnt) = i by omega]
        simpa using hc i hi

theorem wp_copy_i {o : Oper} {a : Act} {w : World} {K : Act → World → Prop} {Q : Exit → Act → World → Prop} (d s : Operand)
    (ho : o.op = .call { callee := .builtin .copy, args := #[d, s], argTypes := #[59, 59] }) (g p dl dc N cnt : Nat) (f : Nat → Value) (hd : a.eval d = .slice (some ⟨g, p, none⟩) dl dc) (ad : Addr) (n c : Nat) (hs : a.eval s = .slice (some ad) n c)
    (hrow : w.rowIs g 3 N f) (hdl : p + dl ≤ N) (L : Nat → Int) (hr : Ri w (some ad) n c L) (hcnt : cnt = min n dl)
    (h : ∀ w', w'.rowIs g 3 N (fun j => if p ≤ j ∧ j < p + cnt then .int .i64 (L (j - p)) else f j) → Fr (fun k => k = g) w w' → K (a.put o.dst (.int .i64 cnt)) w') : Oper.wp Tryz.prog o a w K Q := by
  obtain ⟨w', hrun, h1, h2⟩ := copy_run w o.type g p dl dc N cnt f hrow hdl ad n c L hr hcnt
  unfold Oper.wp
  simp only [execOp, ho, resolve, invoke, builtin]
  simp [hd, hs, hrun, Result.andThen]
  exact h w' h1 h2

theorem wpList_copy_i {ops : Array Oper} {rest : List Oper} {o : Oper} {a : Act} {w : World} {Q : Exit → Act → World → Prop} (hgd : o.guard = none) (d s : Operand)
    (ho : o.op = .call { callee := .builtin .copy, args := #[d, s], argTypes := #[59, 59] }) (g p dl dc N cnt : Nat) (f : Nat → Value) (hd : a.eval d = .slice (some ⟨g, p, none⟩) dl dc) (ad : Addr) (n c : Nat) (hs : a.eval s = .slice (some ad) n c)
    (hrow : w.rowIs g 3 N f) (hdl : p + dl ≤ N) (L : Nat → Int) (hr : Ri w (some ad) n c L) (hcnt : cnt = min n dl)
    (h : ∀ w', w'.rowIs g 3 N (fun j => if p ≤ j ∧ j < p + cnt then .int .i64 (L (j - p)) else f j) → Fr (fun k => k = g) w w' → wpList Tryz.prog ops Q rest (a.put o.dst (.int .i64 cnt)) w') : wpList Tryz.prog ops Q (o :: rest) a w := by
  refine wpList_plain hgd fun K hK => ?_
  exact wp_copy_i d s ho g p dl dc N cnt f hd ad n c hs hrow hdl L hr hcnt (fun w' h1 h2 => hK _ _ (h w' h1 h2))

theorem step_copy_i {ops : Array Oper} {o : Oper} {a : Act} {w : World} {K : Act → World → Prop} {Q : Exit → Act → World → Prop} {E : Prop} (hgd : o.guard = none) (d s : Operand)
    (ho : o.op = .call { callee := .builtin .copy, args := #[d, s], argTypes := #[59, 59] }) (g p dl dc N cnt : Nat) (f : Nat → Value) (hd : a.eval d = .slice (some ⟨g, p, none⟩) dl dc) (ad : Addr) (n c : Nat) (hs : a.eval s = .slice (some ad) n c)
    (hrow : w.rowIs g 3 N f) (hdl : p + dl ≤ N) (L : Nat → Int) (hr : Ri w (some ad) n c L) (hcnt : cnt = min n dl)
    (h : ∀ w', w'.rowIs g 3 N (fun j => if p ≤ j ∧ j < p + cnt then .int .i64 (L (j - p)) else f j) → Fr (fun k => k = g) w w' → K (a.put o.dst (.int .i64 cnt)) w') : if Region.wanted o (yielded ops a.tmps) = true then Oper.wp Tryz.prog o a w K Q else E := by
  have hw : Region.wanted o (yielded ops a.tmps) = true := by simp [Region.wanted, hgd]
  rw [if_pos hw]
  exact wp_copy_i d s ho g p dl dc N cnt f hd ad n c hs hrow hdl L hr hcnt h

set_option maxRecDepth 100000 in
set_option maxHeartbeats 1000000 in
theorem repeat_one (A : Nat) (x : Int) (N : Nat) (w : World) (hA : w.cell? ⟨A, 0, none⟩ = some (.int .i64 x)) (h0 : 0 < N) (hN : N ≤ 100000) :
    Calls Tryz.prog 93 #[.slice (some ⟨A, 0, none⟩) 1 1, .int .i64 N] w fun e w' => ∃ g, e = .returned (.slice (some ⟨g, 0, none⟩) N N) ∧ w'.rowIs g 3 N (fun _ => .int .i64 x) ∧ w.heap.size ≤ g ∧ Below w.heap.size w w' := by
  obtain ⟨i0, hi, hz0, hz1, hz2⟩ := info_parts Tryz.info3
  have u1 : IntKind.u64.wrap (N : Int) = N := wraps_u64 _ (by omega) (by omega)
  have d1 : decide ((N : Int) < 0) = false := by simp
  have d2 : decide ((9223372036854775807 : Int) < N) = false := by simp; omega
  have R1 := made_row w N
  have B1 : Below w.heap.size w (w.alloc (.cells (madeCells #[Value.int .i64 0] N) 3)) := (Below.refl _ _).alloc (Nat.le_refl _) _
  have hA1 : Ri (w.alloc (.cells (madeCells #[Value.int .i64 0] N) 3)) (some ⟨A, 0, none⟩) 1 1 (fun _ => x) := ⟨Nat.le_refl _, (fun e => by cases e), fun ad had j hj => by
    cases had
    obtain rfl : j = 0 := by omega
    rw [Addr.add_lit]
    exact (B1.cell (World.block_lt_of_cell? w _ hA)).trans hA⟩
  go_enter Tryz.func93, Tryz.ntmps93
  go_wp2_with (first
    | (go_at_call 126; refine (mul_one N w (by omega)).mono ?_; rintro e w1 ⟨rfl, hw⟩; subst w1)
    | (at_make; refine wpList_make_row _ rfl _ _ 59 rfl 3 i0 (.int .i64 0) Tryz.underlying59 hi hz0 hz1 rfl .i64 .i64 N rfl rfl (by rw [hz2]; omega) (by omega) ?_)
    | (refine wpList_copy_i rfl _ _ rfl w.heap.size 0 N N N 1 (fun _ => .int .i64 0) rfl ⟨A, 0, none⟩ 1 1 rfl R1 (by omega) (fun _ => x) hA1 (by omega) ?_; intro w3 h3 f3))
  have B3 : Below w.heap.size w w3 := B1.trans (f3.below _ B1.size (fun i hi e => by omega))
  have h3' : w3.rowIs w.heap.size 3 N (fun j => .int .i64 (if j < 1 then x else 0)) := h3.congr (fun j _ => by
    by_cases hj : j < 1
    · rw [if_pos (by omega), if_pos hj]
    · rw [if_neg (by omega), if_neg hj])
  have HB3 : Hid (Below w.heap.size w w3) := B3
  clear R1 B1 hA1 h3 f3 B3
  obtain ⟨B, hB⟩ : ∃ B, B = w.heap.size := ⟨_, rfl⟩
  have HB : Hid (B = w.heap.size) := hB
  rw [← hB] at h3' ⊢
  clear hB
  go_loopw [8] (fun nv wr => ∃ k : Nat, nv = .int .i64 k ∧ 1 ≤ k ∧ k ≤ N ∧ wr.rowIs B 3 N (fun j => .int .i64 (if j < k then x else 0)) ∧ Hid (Below w.heap.size w wr)) (fun nv _ => N - (intOf nv).toNat)
  case atStart => exact ⟨1, rfl, by omega, by omega, h3', HB3⟩
  case round =>
    obtain ⟨k, rfl, hk1, hk, hrow, hb⟩ := hrel
    clear h3' HB3
    by_cases hlt : k < N
    · obtain ⟨cnt, hcnt⟩ : ∃ cnt, cnt = min k (N - k) := ⟨_, rfl⟩
      have hr : Ri wr.drew (some ⟨B, 0, none⟩) k N (fun _ => x) := ⟨by omega, (fun e => by cases e), fun ad had j hj => by
        cases had
        rw [Addr.add_lit, Nat.zero_add]
        have := hrow.cell (i := j) (by omega)
        rw [if_pos hj] at this
        exact this⟩
      have hrow' := hrow.drew
      have HC : Hid (cnt = min k (N - k)) := hcnt
      have q1 : (k : Int) ≤ N := by omega
      have q2 : ¬ N = k := by omega
      have q3 : k + cnt ≤ N := by omega
      have q4 : 1 ≤ cnt := by omega
      have q5 : IntKind.i64.wrap ((k : Int) + cnt) = (k : Int) + cnt := wraps_i64 _ (by omega) (by omega)
      clear hcnt
      go_wp2_with fail
      go_region_law (refine step_copy_i (by rfl) (.tmp 41) (.tmp 44) (by rfl) B k (N - k) (N - k) N cnt (fun j => .int .i64 (if j < k then x else 0)) (by simp [Act.eval, Act.put]) ⟨B, 0, none⟩ k N (by simp [Act.eval, Act.put]) hrow' (by omega) (fun _ => x) hr HC.out ?_; intro w4 h4 f4)
      have hc := HC.out
      have h4' : w4.rowIs B 3 N (fun j => .int .i64 (if j < k + cnt then x else 0)) := h4.congr (fun j _ => by
        by_cases hj : j < k + cnt
        · by_cases hj2 : k ≤ j
          · rw [if_pos (by omega), if_pos hj]
          · rw [if_neg (by omega), if_pos (by omega), if_pos hj]
        · rw [if_neg (by omega), if_neg (by omega), if_neg hj])
      have b4 : Hid (Below w.heap.size w w4) := hb.out.drew.trans (f4.below _ hb.out.size (fun i hi e => by have := HB.out; omega))
      clear hc h4 f4 hrow hrow' hr hb
      simp only [List.getElem_toArray, List.getElem_cons_zero, List.getElem_cons_succ, Act.put, List.setIfInBounds_toArray, List.set_cons_zero, List.set_cons_succ]
      go_wp2
      go_roundw
      case rel => exact ⟨k + cnt, by go_num, by omega, by omega, h4', b4⟩
      case measure => simp [intOf]; omega
    · obtain rfl : k = N := by omega
      clear hlt
      go_wp2
      go_ret
      exact ⟨B, rfl, hrow.congr (fun j hj => by rw [if_pos hj]), by have := HB.out; omega, hb.out⟩

end Go.Proofs.YtiahbicodlgmhaaGreatDoor

/- slices.Grow, slices.Concat of rows of numbers; Fixed. -/
namespace Go.Proofs.YtiahbicodlgmhaaGreatDoor
open Go.RowKit

theorem wpList_append_iv {w : World} {ops : Array Oper} {rest : List Oper} {o : Oper} {a : Act} {Q : Exit → Act → World → Prop} (hgd : o.guard = none) (s x : Operand)
    (ho : o.op = .call { callee := .builtin .append, args := #[s, x], argTypes := #[59, 59] })
    (base n : Nat) (v : Value) (xs : List Value) (hs : a.eval s = v) (hown : w.ownsRow base 3 1 v n xs)
    (ao : Option Addr) (m c : Nat) (M : Nat → Int) (hx : a.eval x = .slice ao m c) (hr : Ri w ao m c M) (hlim : n + m ≤ 1000000000) (hbase : base ≤ w.heap.size)
    (h : ∀ v' w', w'.ownsRow base 3 1 v' (n + m) (xs ++ ivs M m) → w.grownBy w' v.ownBlock → wpList Tryz.prog ops Q rest (a.put o.dst v') w') :
    wpList Tryz.prog ops Q (o :: rest) a w := by
  obtain ⟨i0, hi, hz0, hz1, hz2⟩ := info_parts Tryz.info3
  cases ao with
  | none =>
    obtain ⟨rfl, rfl⟩ := hr.nul rfl
    refine wpList_append_own_none hgd s x 59 ho base 3 i0 1 Tryz.underlying59 hi _ n _ hs hown hx ?_
    exact h v w (by simpa [vals] using hown) (World.grownBy.refl _ _)
  | some ad =>
    refine wpList_append_own w hgd s x 59 ho base 3 i0 (.int .i64 0) 1 8 Tryz.underlying59 hi hz0 hz1 hz2 rfl (by decide) _ n _ hs hown ad m c (ivs M m) hx (by rw [vals_len]; omega) (hr.cellsOf ad rfl) (ivs_one _ _)
      (by unfold maxLen; omega) (by omega) hbase ?_
    intro v' w' h1 h2 h3
    exact h v' w' (by simpa using h1) h2

theorem grow_any (n : Nat) (w : World) (h0 : 0 < n) (hn : n ≤ 100000) :
    Calls Tryz.prog 125 #[.slice none 0 0, .int .i64 n] w fun e w' => ∃ v, e = .returned v ∧ w'.ownsRow w.heap.size 3 1 v 0 [] ∧ Below w.heap.size w w' := by
  obtain ⟨i0, hi, hz0, hz1, hz2⟩ := info_parts Tryz.info3
  have d1 : decide ((n : Int) < 0) = false := by simp
  have d2 : decide ((0 : Int) < (n : Int)) = true := by simp; omega
  have hrun := Lib.run_append_nil_zeros (P := Tryz.prog) w 59 3 59 3 i0 (.int .i64 0) .i64 .i64 Tryz.underlying59 Tryz.underlying3 hi hz0 n h0 (by omega) (by omega) (by rw [hz2]; omega)
  go_enter Tryz.func125, Tryz.ntmps125
  go_wp2_with (at_builtin; refine Lib.wpList_append_run _ rfl _ _ _ _ rfl _ _ rfl rfl _ _ hrun ?_)
  go_ret
  refine ⟨_, rfl, World.ownsRow_made w _ _ (Nat.le_refl _) (grownCap_le_maxLen w n 0 3 (by unfold maxLen; omega)) ?_, ((Below.refl _ _).alloc (Nat.le_refl _) _).drew⟩
  have hge := grownCap_ge w n 0 3
  simp only [Array.size_append, size_zeroCells]
  simp
  omega

/-- How many the first k rows are. -/
def tm (n : Nat → Nat) : Nat → Nat
  | 0 => 0
  | k + 1 => tm n k + n k

/-- All of the first k rows. -/
def ct (n : Nat → Nat) (L : Nat → Nat → Int) : Nat → List Value
  | 0 => []
  | k + 1 => ct n L k ++ ivs (L k) (n k)

theorem tm_mono (n : Nat → Nat) (k m : Nat) (h : k ≤ m) : tm n k ≤ tm n m := by
  induction m with
  | zero =>
    obtain rfl : k = 0 := by omega
    omega
  | succ m ih =>
    rcases Nat.lt_or_ge k (m + 1) with hlt | hge
    · have := ih (by omega)
      simp only [tm]
      omega
    · obtain rfl : k = m + 1 := by omega
      omega

set_option maxRecDepth 100000 in
set_option maxHeartbeats 1000000 in
theorem concat_any (R m : Nat) (ao : Nat → Option Addr) (n c : Nat → Nat) (L : Nat → Nat → Int) (w : World) (hr : ∀ j, j < m → Ri w (ao j) (n j) (c j) (L j)) (hm : m ≤ 1000) (h0 : 0 < tm n m) (hn : tm n m ≤ 100000)
    (hk : ∀ j, j < m → w.cell? ⟨R, j, none⟩ = some (.slice (ao j) (n j) (c j))) :
    Calls Tryz.prog 92 #[.slice (some ⟨R, 0, none⟩) m m] w fun e w' => ∃ v, e = .returned v ∧ w'.ownsRow w.heap.size 3 1 v (tm n m) (ct n L m) ∧ Below w.heap.size w w' := by
  have HR : Hid (∀ j, j < m → Ri w (ao j) (n j) (c j) (L j)) := hr
  have HT : Hid (∀ k, k < m → tm n k + n k ≤ 100000) := fun k hk' => by have := tm_mono n (k + 1) m (by omega); simp only [tm] at this; omega
  have HK : Hid (∀ j, j < m → w.cell? ⟨R, j, none⟩ = some (.slice (ao j) (n j) (c j))) := hk
  clear hr hk
  go_enter Tryz.func92, Tryz.ntmps92
  go_wp2
  go_loop [3, 5, 11] (fun sv _ iv => ∃ k : Nat, k ≤ m ∧ iv = .int .i64 k ∧ sv = .int .i64 (tm n k)) (fun _ _ iv => m - (intOf iv).toNat)
  case atStart => exact ⟨0, by omega, rfl, rfl⟩
  case round =>
    obtain ⟨k, hkm, rfl, rfl⟩ := hrel
    by_cases hlt : k < m
    · have ck := HK.out k hlt
      have ht := HT.out k hlt
      have q1 : decide (((tm n k : Nat) : Int) + ((n k : Nat) : Int) < 0) = false := by simp; omega
      have E : Hid (tm n (k + 1) = tm n k + n k) := rfl
      generalize n k = nk at *
      generalize tm n k = tk at *
      go_wp2
      go_round
      case rel => exact ⟨k + 1, by omega, by go_num, by rw [E.out]; go_num⟩
      case measure => simp [intOf]; omega
    · obtain rfl : k = m := by omega
      obtain ⟨N, hN⟩ : ∃ N, N = tm n k := ⟨_, rfl⟩
      rw [← hN] at h0 hn ⊢
      have HN : Hid (N = tm n k) := hN
      clear hN hlt
      go_wp2_with fail
      refine (grow_any N w h0 hn).mono ?_
      rintro e w1 ⟨v1, rfl, o1, b1⟩
      have O1 : Hid (w1.ownsRow w.heap.size 3 1 v1 0 []) := o1
      have B1 : Hid (Below w.heap.size w w1) := b1
      clear o1 b1
      go_wp2
      go_loopw [6, 8, 27] (fun rv _ iv wr => ∃ (v : Value) (j : Nat), rv = v ∧ j ≤ k ∧ iv = .int .i64 j ∧ Hid (Below w.heap.size w wr) ∧ Hid (wr.ownsRow w.heap.size 3 1 v (tm n j) (ct n L j))) (fun _ _ iv _ => k - (intOf iv).toNat)
      case atStart => exact ⟨v1, 0, rfl, by omega, rfl, B1, O1⟩
      case round =>
        clear B1 O1
        obtain ⟨v, j, rfl, hj, rfl, BW, OW⟩ := hrel
        by_cases hlt : j < k
        · have ht := HT.out j hlt
          have c0 : wr.cell? ⟨R, j, none⟩ = some (.slice (ao j) (n j) (c j)) := (BW.out.cell (World.block_lt_of_cell? w _ (HK.out j hlt))).trans (HK.out j hlt)
          go_wp2_with (refine wpList_append_iv rfl _ _ rfl w.heap.size (tm n j) _ (ct n L j) rfl OW.out (ao j) (n j) (c j) (L j) rfl ((HR.out j hlt).keep BW.out) (by omega) BW.out.size ?_; intro v5 w5 o5 g5)
          have o5' : Hid (w5.ownsRow w.heap.size 3 1 v5 (tm n (j + 1)) (ct n L (j + 1))) := o5
          have b5 : Hid (Below w.heap.size w w5) := BW.out.grown g5 BW.out.size (fun q hq => (OW.out.lt q hq).1)
          clear o5 g5 OW BW c0 ht
          go_wp2_with fail
          go_roundw
          case rel => exact ⟨v5, j + 1, rfl, by omega, by go_num, b5, o5'⟩
          case measure => simp [intOf]; omega
        · obtain rfl : j = k := by omega
          clear hlt
          go_wp2
          go_ret
          exact ⟨_, rfl, by rw [HN.out]; exact OW.out, BW.out⟩

/-- The fixed code's lengths. -/
def fl (i : Nat) : Int := if i < 144 then 8 else if i < 256 then 9 else if i < 280 then 7 else 8

/-- The fixed distances'. -/
def dl (_ : Nat) : Int := 5

/-- The four rows of the fixed lengths. -/
def fn4 : Nat → Nat | 0 => 144 | 1 => 112 | 2 => 24 | _ => 8
def fx4 : Nat → Int | 0 => 8 | 1 => 9 | 2 => 7 | _ => 8

theorem ct_fixed : ct fn4 (fun j _ => fx4 j) 4 = ivs fl 288 := by
  kernel_rfl

theorem rep_at (x z : Int) (N : Nat) (w : World) (hz : z = N) (h0 : 0 < N) (hN : N ≤ 100000) :
    Calls Tryz.prog 93 #[.slice (some ⟨w.heap.size, 0, none⟩) 1 1, .int .i64 z] (w.alloc (Obj.cells #[Value.int IntKind.i64 x] 3)) fun e w' => ∃ g, e = .returned (.slice (some ⟨g, 0, none⟩) N N) ∧ w'.rowIs g 3 N (fun _ => .int .i64 x) ∧ Below w.heap.size w w' := by
  subst hz
  refine (repeat_one w.heap.size x N _ ((World.rowIs_alloc w #[Value.int .i64 x] 3 (fun _ => .int .i64 x) (fun i hi => by simp at hi; subst hi; rfl)).cell (i := 0) (by simp)) h0 hN).mono ?_
  rintro e w' ⟨g, rfl, h1, h2, h3⟩
  have b : Below w.heap.size w (w.alloc (Obj.cells #[Value.int IntKind.i64 x] 3)) := (Below.refl _ _).alloc (Nat.le_refl _) _
  exact ⟨g, rfl, h1, b.trans (h3.mono b.size)⟩

/-- Four slices, by number. -/
def four {α : Type} (a b c d : α) : Nat → α | 0 => a | 1 => b | 2 => c | _ => d

set_option maxRecDepth 100000 in
set_option maxHeartbeats 1000000 in
theorem fixed_any (w : World) : Calls Tryz.prog 63 #[] w fun e w' => ∃ la lc da, e = .returned (.tuple #[.slice la 288 lc, .slice (some ⟨da, 0, none⟩) 32 32]) ∧ Ri w' la 288 lc fl ∧ w'.rowIs da 3 32 (fun _ => .int .i64 5) ∧ Below w.heap.size w w' := by
  go_enter Tryz.func63, Tryz.ntmps63
  go_wp2_with fail
  refine (rep_at 8 144 144 w rfl (by omega) (by omega)).mono ?_
  rintro e w1 ⟨g1, rfl, r1, b1⟩
  go_wp2_with fail
  refine (rep_at 9 112 112 w1 rfl (by omega) (by omega)).mono ?_
  rintro e w2 ⟨g2, rfl, r2, b2⟩
  go_wp2_with fail
  refine (rep_at 7 24 24 w2 rfl (by omega) (by omega)).mono ?_
  rintro e w3 ⟨g3, rfl, r3, b3⟩
  go_wp2_with fail
  refine (rep_at 8 8 8 w3 rfl (by omega) (by omega)).mono ?_
  rintro e w4 ⟨g4, rfl, r4, b4⟩
  have r1' := ((r1.of_block (b2.block _ r1.lt)).of_block (b3.block _ (r1.of_block (b2.block _ r1.lt)).lt))
  have r1'' := r1'.of_block (b4.block _ r1'.lt)
  have r2' := r2.of_block (b3.block _ r2.lt)
  have r2'' := r2'.of_block (b4.block _ r2'.lt)
  have r3'' := r3.of_block (b4.block _ r3.lt)
  have B4 := (b1.trans (b2.mono b1.size)).trans ((b3.trans (b4.mono b3.size)).mono (Nat.le_trans b1.size b2.size))
  clear r1 r2 r3 r1' r2' b1 b2 b3 b4
  go_wp2_with fail
  have bA : Below w4.heap.size w4 (w4.alloc (Obj.cells #[Value.slice (some ⟨g1, 0, none⟩) 144 144, Value.slice (some ⟨g2, 0, none⟩) 112 112, Value.slice (some ⟨g3, 0, none⟩) 24 24, Value.slice (some ⟨g4, 0, none⟩) 8 8] 59)) := (Below.refl _ _).alloc (Nat.le_refl _) _
  have rA := World.rowIs_alloc w4 #[Value.slice (some ⟨g1, 0, none⟩) 144 144, Value.slice (some ⟨g2, 0, none⟩) 112 112, Value.slice (some ⟨g3, 0, none⟩) 24 24, Value.slice (some ⟨g4, 0, none⟩) 8 8] 59 (fun j => .slice (four (some ⟨g1, 0, none⟩) (some ⟨g2, 0, none⟩) (some ⟨g3, 0, none⟩) (some ⟨g4, 0, none⟩) j) (fn4 j) (fn4 j)) (fun i hi => by
    simp at hi
    rcases i with _ | _ | _ | _ | i <;> first | rfl | omega)
  refine (concat_any w4.heap.size 4 (four (some ⟨g1, 0, none⟩) (some ⟨g2, 0, none⟩) (some ⟨g3, 0, none⟩) (some ⟨g4, 0, none⟩)) fn4 fn4 (fun j _ => fx4 j) _ (fun j hj => ?_) (by omega) (by decide) (by decide) (fun j hj => rA.cell (by simpa using hj))).mono ?_
  · rcases j with _ | _ | _ | _ | j
    · exact (Ri.row r1'').keep bA
    · exact (Ri.row r2'').keep bA
    · exact (Ri.row r3'').keep bA
    · exact (Ri.row r4).keep bA
    · omega
  rintro e w5 ⟨v5, rfl, o5, b5⟩
  rw [ct_fixed, show tm fn4 4 = 288 from rfl] at o5
  obtain ⟨la, lc, rfl, l5, _⟩ := own_ri o5
  have B5 := B4.trans ((bA.trans (b5.mono bA.size)).mono B4.size)
  have L5 : Hid (Ri w5 la 288 lc fl) := l5
  have HB5 : Hid (Below w.heap.size w w5) := B5
  clear rA r1'' r2'' r3'' r4 B4 bA b5 o5 l5 B5
  go_wp2_with fail
  refine (rep_at 5 32 32 w5 rfl (by omega) (by omega)).mono ?_
  rintro e w6 ⟨g6, rfl, r6, b6⟩
  go_wp2
  go_ret2
  exact ⟨la, lc, g6, rfl, L5.out.keep b6, r6, HB5.out.trans (b6.mono HB5.out.size)⟩

end Go.Proofs.YtiahbicodlgmhaaGreatDoor

/- scaled, Length, Distance. -/
namespace Go.Proofs.YtiahbicodlgmhaaGreatDoor
open Go.RowKit

/-- What scaled answers of step s, by groups of g. -/
def sb (g s : Nat) : Nat := if s < g then s else (g + s % g) * 2 ^ (s / g - 1)
def sx (g s : Nat) : Nat := if s < g then 0 else s / g - 1

theorem scaled4 (s : Nat) (w : World) (h : s < 30) : Calls Tryz.prog 131 #[.int .i64 s, .int .i64 4] w fun e w' => e = .returned (.tuple #[.int .i64 (sb 4 s), .int .i64 (sx 4 s)]) ∧ w' = w := by
  by_cases hs : s < 4
  · have d : (s : Int) < 4 := by omega
    have e1 : sb 4 s = s := by rw [sb, if_pos hs]
    have e2 : sx 4 s = 0 := by rw [sx, if_pos hs]
    rw [e1, e2]
    clear e1 e2 hs
    go_enter Tryz.func131, Tryz.ntmps131
    go_wp2
    go_ret2
    exact ⟨rfl, rfl⟩
  · have d : ¬ (s : Int) < 4 := by omega
    have e1 : sb 4 s = (4 + s % 4) * 2 ^ (s / 4 - 1) := by rw [sb, if_neg hs]
    have e2 : sx 4 s = s / 4 - 1 := by rw [sx, if_neg hs]
    rw [e1, e2]
    obtain ⟨x, hx⟩ : ∃ x, x = s / 4 - 1 := ⟨_, rfl⟩
    have t1 : (s : Int).tdiv 4 = x + 1 := by rw [Int.tdiv_eq_ediv_of_nonneg (by omega)]; omega
    have t1' : (s : Int) / 4 = x + 1 := by omega
    obtain ⟨r, hr⟩ : ∃ r, r = s % 4 := ⟨_, rfl⟩
    have t2 : (s : Int).tmod 4 = r := by rw [Int.tmod_eq_emod_of_nonneg (by omega)]; omega
    have t2' : (s : Int) % 4 = r := by omega
    have hx6 : x ≤ 6 := by omega
    have hr4 : r < 4 := by omega
    rw [← hx, ← hr]
    have hp := p2_le x 6 hx6
    have hp0 := p2 x
    have hb : (4 + (r : Int)) * 2 ^ x ≤ 7 * 64 := Int.mul_le_mul (by omega) (by simpa using hp) (by omega) (by omega)
    have hb0 : 0 ≤ (4 + (r : Int)) * 2 ^ x := Int.mul_nonneg (by omega) (by omega)
    have t3 : IntKind.i64.wrap ((4 + (r : Int)) * 2 ^ x) = (4 + (r : Int)) * 2 ^ x := wraps_i64 _ (by omega) (by omega)
    have t4 : wrap64 ((4 + (r : Int)) * 2 ^ x) = (4 + (r : Int)) * 2 ^ x := IntWalk.wrap64_in _ (by omega)
    have hx64 : ¬ 64 ≤ x := by omega
    clear hp hp0 hb hb0 e1 e2 hs hx hr
    go_enter Tryz.func131, Tryz.ntmps131
    go_wp2
    go_ret2
    refine ⟨?_, rfl⟩
    push_cast
    rfl

theorem scaled2 (s : Nat) (w : World) (h : s < 30) : Calls Tryz.prog 131 #[.int .i64 s, .int .i64 2] w fun e w' => e = .returned (.tuple #[.int .i64 (sb 2 s), .int .i64 (sx 2 s)]) ∧ w' = w := by
  by_cases hs : s < 2
  · have d : (s : Int) < 2 := by omega
    have e1 : sb 2 s = s := by rw [sb, if_pos hs]
    have e2 : sx 2 s = 0 := by rw [sx, if_pos hs]
    rw [e1, e2]
    clear e1 e2 hs
    go_enter Tryz.func131, Tryz.ntmps131
    go_wp2
    go_ret2
    exact ⟨rfl, rfl⟩
  · have d : ¬ (s : Int) < 2 := by omega
    have e1 : sb 2 s = (2 + s % 2) * 2 ^ (s / 2 - 1) := by rw [sb, if_neg hs]
    have e2 : sx 2 s = s / 2 - 1 := by rw [sx, if_neg hs]
    rw [e1, e2]
    obtain ⟨x, hx⟩ : ∃ x, x = s / 2 - 1 := ⟨_, rfl⟩
    have t1 : (s : Int).tdiv 2 = x + 1 := by rw [Int.tdiv_eq_ediv_of_nonneg (by omega)]; omega
    have t1' : (s : Int) / 2 = x + 1 := by omega
    obtain ⟨r, hr⟩ : ∃ r, r = s % 2 := ⟨_, rfl⟩
    have t2 : (s : Int).tmod 2 = r := by rw [Int.tmod_eq_emod_of_nonneg (by omega)]; omega
    have t2' : (s : Int) % 2 = r := by omega
    have hx6 : x ≤ 13 := by omega
    have hr4 : r < 2 := by omega
    rw [← hx, ← hr]
    have hp := p2_le x 13 hx6
    have hp0 := p2 x
    have hb : (2 + (r : Int)) * 2 ^ x ≤ 3 * 8192 := Int.mul_le_mul (by omega) (by simpa using hp) (by omega) (by omega)
    have hb0 : 0 ≤ (2 + (r : Int)) * 2 ^ x := Int.mul_nonneg (by omega) (by omega)
    have t3 : IntKind.i64.wrap ((2 + (r : Int)) * 2 ^ x) = (2 + (r : Int)) * 2 ^ x := wraps_i64 _ (by omega) (by omega)
    have t4 : wrap64 ((2 + (r : Int)) * 2 ^ x) = (2 + (r : Int)) * 2 ^ x := IntWalk.wrap64_in _ (by omega)
    have hx64 : ¬ 64 ≤ x := by omega
    clear hp hp0 hb hb0 e1 e2 hs hx hr
    go_enter Tryz.func131, Tryz.ntmps131
    go_wp2
    go_ret2
    refine ⟨?_, rfl⟩
    push_cast
    rfl

/-- A length's symbol: the least length, the bits behind. -/
def lb (s : Nat) : Nat := if s = 285 then 258 else 3 + sb 4 (s - 257)
def lx (s : Nat) : Nat := if s = 285 then 0 else sx 4 (s - 257)
/-- A distance's. -/
def db (s : Nat) : Nat := 1 + sb 2 s
def dx (s : Nat) : Nat := sx 2 s

theorem lb_le : ∀ s, s < 286 → 257 ≤ s → 3 ≤ lb s ∧ lb s ≤ 258 ∧ lx s ≤ 5 := by decide +kernel
theorem db_le : ∀ s, s < 30 → 1 ≤ db s ∧ db s ≤ 24577 ∧ dx s ≤ 13 := by decide +kernel

theorem sb4_le (s : Nat) (h : s < 28) : sb 4 s ≤ 300 ∧ sx 4 s ≤ 6 := by
  have : ∀ s, s < 28 → sb 4 s ≤ 300 ∧ sx 4 s ≤ 6 := by decide +kernel
  exact this s h

theorem sb2_le (s : Nat) (h : s < 30) : sb 2 s ≤ 30000 ∧ sx 2 s ≤ 13 := by
  have : ∀ s, s < 30 → sb 2 s ≤ 30000 ∧ sx 2 s ≤ 13 := by decide +kernel
  exact this s h

theorem length_yes (s : Nat) (w : World) (h0 : 257 ≤ s) (h1 : s ≤ 285) : Calls Tryz.prog 99 #[.int .i64 s] w fun e w' => e = .returned (.tuple #[.int .i64 (lb s), .int .i64 (lx s), .bool true]) ∧ w' = w := by
  have d1 : decide ((s : Int) < 257) = false := by simp; omega
  have d2 : decide ((285 : Int) < s) = false := by simp; omega
  by_cases hs : s = 285
  · subst hs
    go_enter Tryz.func99, Tryz.ntmps99
    go_wp2
    go_ret3
    exact ⟨rfl, rfl⟩
  · have e1 : lb s = 3 + sb 4 (s - 257) := by rw [lb, if_neg hs]
    have e2 : lx s = sx 4 (s - 257) := by rw [lx, if_neg hs]
    rw [e1, e2]
    obtain ⟨k, rfl⟩ : ∃ k, s = k + 257 := ⟨s - 257, by omega⟩
    rw [show k + 257 - 257 = k by omega]
    have hb := sb4_le k (by omega)
    have hk : ((k + 257 : Nat) : Int) - 257 = k := by omega
    have d3 : (((k + 257 : Nat) : Int) == 285) = false := by simp; omega
    have d4 : ¬ k + 257 = 285 := hs
    clear e1 e2
    obtain ⟨z, hz⟩ : ∃ z : Int, z = ((k + 257 : Nat) : Int) := ⟨_, rfl⟩
    rw [← hz] at d1 d2 d3 hk ⊢
    have HZ : Hid (z = ((k + 257 : Nat) : Int)) := hz
    have hzw : IntKind.i64.wrap (z - 257) = k := by rw [hk]; exact wraps_i64 _ (by omega) (by omega)
    have z1 : 257 ≤ z := by omega
    have z2 : z ≤ 285 := by omega
    clear hz d4 hs h0 h1
    go_enter Tryz.func99, Tryz.ntmps99
    go_wp2_with (go_at_call 131; refine (scaled4 k w (by have := HZ.out; omega)).mono ?_; rintro e w1 ⟨rfl, hw⟩; subst w1)
    go_ret3
    refine ⟨?_, rfl⟩
    push_cast
    rfl

theorem length_no (n : Int) (w : World) (h : n < 257 ∨ 285 < n) : Calls Tryz.prog 99 #[.int .i64 n] w fun e w' => e = .returned (.tuple #[.int .i64 0, .int .i64 0, .bool false]) ∧ w' = w := by
  by_cases h1 : n < 257
  · clear h
    go_enter Tryz.func99, Tryz.ntmps99
    go_wp2
    go_ret3
    exact ⟨rfl, rfl⟩
  · have h2 : 285 < n := by omega
    have d1 : decide (n < 257) = false := by simp; omega
    clear h
    go_enter Tryz.func99, Tryz.ntmps99
    go_wp2
    go_ret3
    exact ⟨rfl, rfl⟩

theorem distance_yes (s : Nat) (w : World) (h : s < 30) : Calls Tryz.prog 100 #[.int .i64 s] w fun e w' => e = .returned (.tuple #[.int .i64 (db s), .int .i64 (dx s), .bool true]) ∧ w' = w := by
  have d1 : decide ((s : Int) < 0) = false := by simp
  have d2 : decide ((30 : Int) ≤ s) = false := by simp; omega
  have hb := sb2_le s h
  unfold db dx
  go_enter Tryz.func100, Tryz.ntmps100
  go_wp2_with (go_at_call 131; refine (scaled2 s w h).mono ?_; rintro e w1 ⟨rfl, hw⟩; subst w1)
  go_ret3
  refine ⟨?_, rfl⟩
  push_cast
  rfl

theorem distance_no (n : Int) (w : World) (h : n < 0 ∨ 29 < n) : Calls Tryz.prog 100 #[.int .i64 n] w fun e w' => e = .returned (.tuple #[.int .i64 0, .int .i64 0, .bool false]) ∧ w' = w := by
  by_cases h1 : n < 0
  · clear h
    go_enter Tryz.func100, Tryz.ntmps100
    go_wp2
    go_ret3
    exact ⟨rfl, rfl⟩
  · have h2 : 30 ≤ n := by omega
    have d1 : decide (n < 0) = false := by simp; omega
    clear h
    go_enter Tryz.func100, Tryz.ntmps100
    go_wp2
    go_ret3
    exact ⟨rfl, rfl⟩

end Go.Proofs.YtiahbicodlgmhaaGreatDoor

/- Bits in fields; the fixed codes; literals and copies, and what they make. -/
namespace Go.Proofs.YtiahbicodlgmhaaGreatDoor
open Go.RowKit

/-- A field: a number, how many bits. -/
abbrev Fd := Int × Nat

/-- Fields as one number, the first one lowest. -/
def fv : List Fd → Int
  | [] => 0
  | x :: r => x.1 + 2 ^ x.2 * fv r

/-- How many bits. -/
def fb : List Fd → Nat
  | [] => 0
  | x :: r => x.2 + fb r

/-- Each number fits. -/
def Ft (l : List Fd) : Prop := ∀ x ∈ l, 0 ≤ x.1 ∧ x.1 < 2 ^ x.2

theorem Ft.cons {x : Fd} {l : List Fd} (h0 : 0 ≤ x.1) (h1 : x.1 < 2 ^ x.2) (h : Ft l) : Ft (x :: l) := by
  intro y hy
  rcases List.mem_cons.1 hy with rfl | hy
  · exact ⟨h0, h1⟩
  · exact h y hy

theorem Ft.nil : Ft [] := fun _ h => by cases h

theorem Ft.app {a b : List Fd} (h : Ft a) (k : Ft b) : Ft (a ++ b) := by
  intro y hy
  rcases List.mem_append.1 hy with hy | hy
  · exact h y hy
  · exact k y hy

theorem Ft.left {a b : List Fd} (h : Ft (a ++ b)) : Ft a := fun y hy => h y (List.mem_append.2 (.inl hy))
theorem Ft.right {a b : List Fd} (h : Ft (a ++ b)) : Ft b := fun y hy => h y (List.mem_append.2 (.inr hy))

theorem fb_app (a b : List Fd) : fb (a ++ b) = fb a + fb b := by
  induction a with
  | nil => simp [fb]
  | cons x a ih => simp only [List.cons_append, fb, ih]; omega

theorem fv_app (a b : List Fd) : fv (a ++ b) = fv a + 2 ^ fb a * fv b := by
  induction a with
  | nil => simp [fb, fv]
  | cons x a ih => simp only [List.cons_append, fb, fv, ih, Int.mul_add, Int.pow_add, Int.mul_assoc]; omega

theorem fv_bound {l : List Fd} (h : Ft l) : 0 ≤ fv l ∧ fv l < 2 ^ fb l := by
  induction l with
  | nil => simp [fv, fb]
  | cons x l ih =>
    have h1 := h x (by simp)
    obtain ⟨h2, h3⟩ := ih (fun y hy => h y (by simp [hy]))
    simp only [fv, fb]
    exact put_bound _ _ _ _ h1.1 h1.2 h2 h3

/-- From bit p on the fields l stand in the n bytes of X. -/
structure Lay (X : Int) (n p : Nat) (l : List Fd) : Prop where
  ft : Ft l
  le : p + fb l ≤ 8 * n
  is : ∃ Y, X / 2 ^ p = fv l + 2 ^ fb l * Y

theorem Lay.head {X : Int} {n p : Nat} {x : Fd} {l : List Fd} (h : Lay X n p (x :: l)) : X / 2 ^ p % 2 ^ x.2 = x.1 ∧ p + x.2 ≤ 8 * n ∧ Lay X n (p + x.2) l := by
  obtain ⟨ft, le, Y, hY⟩ := h
  have h1 := ft x (by simp)
  simp only [fb] at le
  simp only [fv, fb, Int.pow_add, Int.mul_assoc, Int.add_assoc] at hY
  rw [← Int.mul_add] at hY
  refine ⟨?_, by omega, ⟨fun y hy => ft y (by simp [hy]), by omega, Y, ?_⟩⟩
  · rw [hY, put_mod _ _ _ h1.1 h1.2]
  · rw [← div_div, hY, put_high _ _ _ h1.1 h1.2]

theorem Lay.tail {X : Int} {n : Nat} : ∀ {a b : List Fd} {p : Nat}, Lay X n p (a ++ b) → Lay X n (p + fb a) b := by
  intro a
  induction a with
  | nil => intro b p h; simpa [fb] using h
  | cons x a ih =>
    intro b p h
    have := ih h.head.2.2
    simp only [fb]
    rw [← Nat.add_assoc]
    exact this

theorem Lay.front {X : Int} {n p : Nat} {a b : List Fd} (h : Lay X n p (a ++ b)) : Lay X n p a := by
  obtain ⟨ft, le, Y, hY⟩ := h
  rw [fb_app] at le
  refine ⟨ft.left, by omega, fv b + 2 ^ fb b * Y, ?_⟩
  rw [hY, fv_app, fb_app, Int.mul_add, Int.pow_add, Int.mul_assoc, Int.add_assoc]

theorem Lay.of {n : Nat} {l : List Fd} (h : Ft l) (hn : fb l ≤ 8 * n) : Lay (fv l) n 0 l :=
  ⟨h, by omega, 0, by simp⟩

/-- The code of a symbol, in a field. -/
theorem nx_sym {L : Nat → Int} {m : Nat} {X : Int} {nb p i x : Nat} {s g : Int} {q : Nat} (hf : Fits L m) (hi : i < m) (hx : L i = x) (hx0 : 0 < x) (hx15 : x ≤ 15) (hp : p + x ≤ 8 * nb) (hb : X / 2 ^ p % 2 ^ x = T (cd L m i) x) (hN : Nx L m X nb 15 1 0 p s g q) : s = i ∧ g = 0 ∧ q = p + x := by
  have hbit : ∀ j, j < x → X / 2 ^ (p + j) % 2 = cd L m i / 2 ^ (x - 1 - j) % 2 := fun j hj => by
    have e := Int.emod_add_mul_ediv (X / 2 ^ p) (2 ^ x)
    have h2 : X / 2 ^ p / 2 ^ j % 2 ^ 1 = (X / 2 ^ p % 2 ^ x) / 2 ^ j % 2 ^ 1 := by
      conv => lhs; rw [← e]
      exact put_low _ _ j x 1 (by omega)
    rw [hb, div_div] at h2
    rw [← T_bit (cd L m i) x j hj]
    exact h2
  have h2 := Nx.code (L := L) (m := m) (X := X) (nb := nb) (i := i) (N := x) (p := p) hi hx hp hbit (x - 1) 15 1 (by omega) (by omega) (by omega)
  have hc := cd_lt L m i x hf hi hx hx0 hx15
  rw [show x - 1 + 1 = x by omega, Int.ediv_eq_zero_of_lt hc.1 hc.2, show p + (1 - 1) = p by omega] at h2
  exact Nx.one (by omega) hN h2

/-- The fixed code of a symbol, and its length. -/
def fc (i : Nat) : Int := if i < 144 then 48 + i else if i < 256 then 400 + i - 144 else if i < 280 then i - 256 else 192 + i - 280
def fn (i : Nat) : Nat := if i < 144 then 8 else if i < 256 then 9 else if i < 280 then 7 else 8

theorem fl_cd : ∀ i, i < 288 → cd fl 288 i = fc i ∧ fl i = fn i := by decide +kernel
theorem dl_cd : ∀ i, i < 32 → cd dl 32 i = i := by decide +kernel
theorem fl_nw : nw fl 288 true = 0 := by decide +kernel
theorem dl_nw : nw dl 32 true = 0 := by decide +kernel
theorem fl_fits : Fits fl 288 := by unfold Fits; decide +kernel
theorem dl_fits : Fits dl 32 := by unfold Fits; decide +kernel

theorem fn_le (i : Nat) : 7 ≤ fn i ∧ fn i ≤ 9 := by
  unfold fn
  split
  · omega
  · split
    · omega
    · split <;> omega

/-- A symbol's field, a distance's. -/
def sf (i : Nat) : Fd := (T (fc i) (fn i), fn i)
def df (i : Nat) : Fd := (T (i : Int) 5, 5)

/-- A literal, or a copy by its symbols and what stands behind them. -/
inductive It
  | lit (b : Nat)
  | cpy (s v t u : Nat)

def It.ok : It → Prop
  | .lit b => b < 256
  | .cpy s v t u => 257 ≤ s ∧ s ≤ 285 ∧ v < 2 ^ lx s ∧ t < 30 ∧ u < 2 ^ dx t

def It.enc : It → List Fd
  | .lit b => [sf b]
  | .cpy s v t u => [sf s, ((v : Int), lx s), df t, ((u : Int), dx t)]

/-- All of them. -/
def encs : List It → List Fd
  | [] => []
  | i :: l => i.enc ++ encs l

theorem encs_app (a b : List It) : encs (a ++ b) = encs a ++ encs b := by
  induction a with
  | nil => rfl
  | cons i a ih => simp only [List.cons_append, encs, ih, List.append_assoc]

theorem sf_ft (i : Nat) : 0 ≤ (sf i).1 ∧ (sf i).1 < 2 ^ (sf i).2 := T_bound _ _
theorem df_ft (i : Nat) : 0 ≤ (df i).1 ∧ (df i).1 < 2 ^ (df i).2 := T_bound _ _

theorem p2_cast (a b : Nat) (h : a < 2 ^ b) : (a : Int) < 2 ^ b := by
  have := Int.ofNat_lt.2 h
  simpa using this

theorem It.ft {i : It} (h : i.ok) : Ft i.enc := by
  cases i with
  | lit b => exact Ft.cons (sf_ft b).1 (sf_ft b).2 Ft.nil
  | cpy s v t u =>
    obtain ⟨_, _, hv, _, hu⟩ := h
    exact Ft.cons (sf_ft s).1 (sf_ft s).2 (Ft.cons (by simp) (p2_cast _ _ hv) (Ft.cons (df_ft t).1 (df_ft t).2 (Ft.cons (by simp) (p2_cast _ _ hu) Ft.nil)))

theorem encs_ft {l : List It} (h : ∀ i ∈ l, i.ok) : Ft (encs l) := by
  induction l with
  | nil => exact Ft.nil
  | cons i l ih => exact (It.ft (h i (by simp))).app (ih (fun j hj => h j (by simp [hj])))

theorem It.fb_le {i : It} (h : i.ok) : fb i.enc ≤ 32 := by
  cases i with
  | lit b => have := fn_le b; simp only [It.enc, fb, sf]; omega
  | cpy s v t u =>
    obtain ⟨h1, h2, _, h3, _⟩ := h
    have := fn_le s
    have := (lb_le s (by omega) h1).2.2
    have := (db_le t h3).2.2
    simp only [It.enc, fb, sf, df]
    omega

theorem encs_le {l : List It} (h : ∀ i ∈ l, i.ok) : fb (encs l) ≤ 32 * l.length := by
  induction l with
  | nil => simp [encs, fb]
  | cons i l ih =>
    have h1 := It.fb_le (h i (by simp))
    have h2 := ih (fun j hj => h j (by simp [hj]))
    simp only [encs, fb_app, List.length_cons]
    omega

/-- What is there, and k bytes more, each from d behind. -/
def cps : Nat → Nat → List Int → List Int
  | 0, _, os => os
  | k + 1, d, os => cps k d os ++ [(cps k d os).getD ((cps k d os).length - d) 0]

theorem cps_len (k d : Nat) (os : List Int) : (cps k d os).length = os.length + k := by
  induction k with
  | zero => rfl
  | succ k ih => simp [cps, ih]; omega

/-- What literals and copies make behind os, if at most m may come: an error, or 0; what came. -/
def play (m : Nat) : List It → List Int → Int × List Int
  | [], os => (0, os)
  | .lit b :: l, os => if os.length < m then play m l (os ++ [(b : Int)]) else (5, os)
  | .cpy s v t u :: l, os => if os.length < db t + u then (2, os) else if os.length + (lb s + v) ≤ m then play m l (cps (lb s + v) (db t + u) os) else (5, os)

end Go.Proofs.YtiahbicodlgmhaaGreatDoor
