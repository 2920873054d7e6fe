/- copy onto a row of numbers; slices.Repeat of one number. -/
import Derived.Test.YtjkfmnahmbnbnaaDoorWMul
import Derived.Laws.CopyRow
namespace Go.Proofs.YtjkfmnahmbnbnaaDoor
open Go.RowKit

theorem size3 : (Tryd.prog.info? 3).map (·.size) = some 1 := by
  have := Tryd.info3
  cases h : Tryd.prog.info? 3 with
  | none => rw [h] at this; cases this
  | some i => rw [h] at this; simp at this; simp [this.2.1]

theorem copy_run (w : World) (ty : TypeId) (g o dl dc N cnt : Nat) (f : Nat → Value) (hrow : w.rowIs g 3 N f) (hd : o + dl ≤ N) (ad : Addr) (n c : Nat) (L : Nat → Int) (hr : Ri w (some ad) n c L) (hcnt : cnt = min n dl) :
    ∃ w', (Builtin.copy_ #[23, 23] ty #[.slice (some ⟨g, o, none⟩) dl dc, .slice (some ad) n c]).run Tryd.prog w = .ok (.int .i64 cnt) w' ∧
      w'.rowIs g 3 N (fun j => if o ≤ j ∧ j < o + cnt then .int .i64 (L (j - o)) else f j) ∧ Fr (fun k => k = g) w w' := by
  obtain ⟨cur, hg, hn, hc⟩ := hrow
  have hcs : (ivs L cnt).length = cnt := vals_len _ _
  have hsrc : ∀ j v, (ivs L cnt)[j]? = some v → w.cell? (ad.add j) = some v := fun j v hv => by
    have hj : j < cnt := by
      have := (List.getElem?_eq_some_iff.1 hv).1
      rwa [hcs] at this
    refine hr.cellsOf ad rfl j v ?_
    rw [vals_get _ _ _ hj] at hv
    rw [vals_get _ _ _ (by omega)]
    exact hv
  have hrun := run_copy_row (P := Tryd.prog) w 23 23 ty 3 g o dl dc ad n c cur 3 (ivs L cnt) Tryd.underlying23 size3 hg (by rw [hcs, hcnt]) hsrc (by rw [hcs]; omega) (ivs_one _ _)
  rw [hcs] at hrun
  refine ⟨_, hrun, ?_, (Fr.refl (fun b => b = g) w).setRow rfl _⟩
  refine ⟨_, setRow_heap w g cur _ 3 _ hg, ?_, fun i hi => ?_⟩
  · simp [vals]; omega
  · have hl0 : cur.toList.length = N := by simpa using hn
    have hl1 : (List.take o cur.toList).length = o := by simp; omega
    simp only [List.getElem?_toArray, List.append_assoc]
    by_cases h1 : i < o
    · rw [if_neg (by omega), List.getElem?_append_left (by omega), List.getElem?_take, if_pos h1]
      simpa using hc i hi
    · by_cases h2 : i < o + cnt
      · rw [if_pos (by omega), List.getElem?_append_right (by omega), List.getElem?_append_left (by omega), hl1, vals_get _ _ _ (by omega)]
      · rw [if_neg (by omega), List.getElem?_append_right (by omega), List.getElem?_append_right (by omega), hl1, hcs, List.getElem?_drop, show o + cnt + (i - o - cnt) = i by omega]
        simpa using hc i hi

theorem wp_copy_i {o : Oper} {a : Act} {w : World} {K : Act → World → Prop} {Q : Exit → Act → World → Prop} (d s : Operand)
    (ho : o.op = .call { callee := .builtin .copy, args := #[d, s], argTypes := #[23, 23] }) (g p dl dc N cnt : Nat) (f : Nat → Value) (hd : a.eval d = .slice (some ⟨g, p, none⟩) dl dc) (ad : Addr) (n c : Nat) (hs : a.eval s = .slice (some ad) n c)
    (hrow : w.rowIs g 3 N f) (hdl : p + dl ≤ N) (L : Nat → Int) (hr : Ri w (some ad) n c L) (hcnt : cnt = min n dl)
    (h : ∀ w', w'.rowIs g 3 N (fun j => if p ≤ j ∧ j < p + cnt then .int .i64 (L (j - p)) else f j) → Fr (fun k => k = g) w w' → K (a.put o.dst (.int .i64 cnt)) w') : Oper.wp Tryd.prog o a w K Q := by
  obtain ⟨w', hrun, h1, h2⟩ := copy_run w o.type g p dl dc N cnt f hrow hdl ad n c L hr hcnt
  unfold Oper.wp
  simp only [execOp, ho, resolve, invoke, builtin]
  simp [hd, hs, hrun, Result.andThen]
  exact h w' h1 h2

theorem wpList_copy_i {ops : Array Oper} {rest : List Oper} {o : Oper} {a : Act} {w : World} {Q : Exit → Act → World → Prop} (hgd : o.guard = none) (d s : Operand)
    (ho : o.op = .call { callee := .builtin .copy, args := #[d, s], argTypes := #[23, 23] }) (g p dl dc N cnt : Nat) (f : Nat → Value) (hd : a.eval d = .slice (some ⟨g, p, none⟩) dl dc) (ad : Addr) (n c : Nat) (hs : a.eval s = .slice (some ad) n c)
    (hrow : w.rowIs g 3 N f) (hdl : p + dl ≤ N) (L : Nat → Int) (hr : Ri w (some ad) n c L) (hcnt : cnt = min n dl)
    (h : ∀ w', w'.rowIs g 3 N (fun j => if p ≤ j ∧ j < p + cnt then .int .i64 (L (j - p)) else f j) → Fr (fun k => k = g) w w' → wpList Tryd.prog ops Q rest (a.put o.dst (.int .i64 cnt)) w') : wpList Tryd.prog ops Q (o :: rest) a w := by
  refine wpList_plain hgd fun K hK => ?_
  exact wp_copy_i d s ho g p dl dc N cnt f hd ad n c hs hrow hdl L hr hcnt (fun w' h1 h2 => hK _ _ (h w' h1 h2))

theorem step_copy_i {ops : Array Oper} {o : Oper} {a : Act} {w : World} {K : Act → World → Prop} {Q : Exit → Act → World → Prop} {E : Prop} (hgd : o.guard = none) (d s : Operand)
    (ho : o.op = .call { callee := .builtin .copy, args := #[d, s], argTypes := #[23, 23] }) (g p dl dc N cnt : Nat) (f : Nat → Value) (hd : a.eval d = .slice (some ⟨g, p, none⟩) dl dc) (ad : Addr) (n c : Nat) (hs : a.eval s = .slice (some ad) n c)
    (hrow : w.rowIs g 3 N f) (hdl : p + dl ≤ N) (L : Nat → Int) (hr : Ri w (some ad) n c L) (hcnt : cnt = min n dl)
    (h : ∀ w', w'.rowIs g 3 N (fun j => if p ≤ j ∧ j < p + cnt then .int .i64 (L (j - p)) else f j) → Fr (fun k => k = g) w w' → K (a.put o.dst (.int .i64 cnt)) w') : if Region.wanted o (yielded ops a.tmps) = true then Oper.wp Tryd.prog o a w K Q else E := by
  have hw : Region.wanted o (yielded ops a.tmps) = true := by simp [Region.wanted, hgd]
  rw [if_pos hw]
  exact wp_copy_i d s ho g p dl dc N cnt f hd ad n c hs hrow hdl L hr hcnt h

set_option maxRecDepth 100000 in
set_option maxHeartbeats 1000000 in
theorem repeat_one (A : Nat) (x : Int) (N : Nat) (w : World) (hA : w.cell? ⟨A, 0, none⟩ = some (.int .i64 x)) (h0 : 0 < N) (hN : N ≤ 100000) :
    Calls Tryd.prog 23 #[.slice (some ⟨A, 0, none⟩) 1 1, .int .i64 N] w fun e w' => ∃ g, e = .returned (.slice (some ⟨g, 0, none⟩) N N) ∧ w'.rowIs g 3 N (fun _ => .int .i64 x) ∧ w.heap.size ≤ g ∧ Below w.heap.size w w' := by
  obtain ⟨i0, hi, hz0, hz1, hz2⟩ := info_parts Tryd.info3
  have u1 : IntKind.u64.wrap (N : Int) = N := wraps_u64 _ (by omega) (by omega)
  have d1 : decide ((N : Int) < 0) = false := by simp
  have d2 : decide ((9223372036854775807 : Int) < N) = false := by simp; omega
  have R1 := made_row w N
  have B1 : Below w.heap.size w (w.alloc (.cells (madeCells #[Value.int .i64 0] N) 3)) := (Below.refl _ _).alloc (Nat.le_refl _) _
  have hA1 : Ri (w.alloc (.cells (madeCells #[Value.int .i64 0] N) 3)) (some ⟨A, 0, none⟩) 1 1 (fun _ => x) := ⟨Nat.le_refl _, (fun e => by cases e), fun ad had j hj => by
    cases had
    obtain rfl : j = 0 := by omega
    rw [Addr.add_lit]
    exact (B1.cell (World.block_lt_of_cell? w _ hA)).trans hA⟩
  go_enter Tryd.func23, Tryd.ntmps23
  go_wp2_with (first
    | (go_at_call 29; refine (mul_one N w (by omega)).mono ?_; rintro e w1 ⟨rfl, hw⟩; subst w1)
    | (at_make; refine wpList_make_row _ rfl _ _ 23 rfl 3 i0 (.int .i64 0) Tryd.underlying23 hi hz0 hz1 rfl .i64 .i64 N rfl rfl (by rw [hz2]; omega) (by omega) ?_)
    | (refine wpList_copy_i rfl _ _ rfl w.heap.size 0 N N N 1 (fun _ => .int .i64 0) rfl ⟨A, 0, none⟩ 1 1 rfl R1 (by omega) (fun _ => x) hA1 (by omega) ?_; intro w3 h3 f3))
  have B3 : Below w.heap.size w w3 := B1.trans (f3.below _ B1.size (fun i hi e => by omega))
  have h3' : w3.rowIs w.heap.size 3 N (fun j => .int .i64 (if j < 1 then x else 0)) := h3.congr (fun j _ => by
    by_cases hj : j < 1
    · rw [if_pos (by omega), if_pos hj]
    · rw [if_neg (by omega), if_neg hj])
  have HB3 : Hid (Below w.heap.size w w3) := B3
  clear R1 B1 hA1 h3 f3 B3
  obtain ⟨B, hB⟩ : ∃ B, B = w.heap.size := ⟨_, rfl⟩
  have HB : Hid (B = w.heap.size) := hB
  rw [← hB] at h3' ⊢
  clear hB
  go_loopw [8] (fun nv wr => ∃ k : Nat, nv = .int .i64 k ∧ 1 ≤ k ∧ k ≤ N ∧ wr.rowIs B 3 N (fun j => .int .i64 (if j < k then x else 0)) ∧ Hid (Below w.heap.size w wr)) (fun nv _ => N - (intOf nv).toNat)
  case atStart => exact ⟨1, rfl, by omega, by omega, h3', HB3⟩
  case round =>
    obtain ⟨k, rfl, hk1, hk, hrow, hb⟩ := hrel
    clear h3' HB3
    by_cases hlt : k < N
    · obtain ⟨cnt, hcnt⟩ : ∃ cnt, cnt = min k (N - k) := ⟨_, rfl⟩
      have hr : Ri wr.drew (some ⟨B, 0, none⟩) k N (fun _ => x) := ⟨by omega, (fun e => by cases e), fun ad had j hj => by
        cases had
        rw [Addr.add_lit, Nat.zero_add]
        have := hrow.cell (i := j) (by omega)
        rw [if_pos hj] at this
        exact this⟩
      have hrow' := hrow.drew
      have HC : Hid (cnt = min k (N - k)) := hcnt
      have q1 : (k : Int) ≤ N := by omega
      have q2 : ¬ N = k := by omega
      have q3 : k + cnt ≤ N := by omega
      have q4 : 1 ≤ cnt := by omega
      have q5 : IntKind.i64.wrap ((k : Int) + cnt) = (k : Int) + cnt := wraps_i64 _ (by omega) (by omega)
      clear hcnt
      go_wp2_with fail
      go_region_law (refine step_copy_i (by rfl) (.tmp 41) (.tmp 44) (by rfl) B k (N - k) (N - k) N cnt (fun j => .int .i64 (if j < k then x else 0)) (by simp [Act.eval, Act.put]) ⟨B, 0, none⟩ k N (by simp [Act.eval, Act.put]) hrow' (by omega) (fun _ => x) hr HC.out ?_; intro w4 h4 f4)
      have hc := HC.out
      have h4' : w4.rowIs B 3 N (fun j => .int .i64 (if j < k + cnt then x else 0)) := h4.congr (fun j _ => by
        by_cases hj : j < k + cnt
        · by_cases hj2 : k ≤ j
          · rw [if_pos (by omega), if_pos hj]
          · rw [if_neg (by omega), if_pos (by omega), if_pos hj]
        · rw [if_neg (by omega), if_neg (by omega), if_neg hj])
      have b4 : Hid (Below w.heap.size w w4) := hb.out.drew.trans (f4.below _ hb.out.size (fun i hi e => by have := HB.out; omega))
      clear hc h4 f4 hrow hrow' hr hb
      simp only [List.getElem_toArray, List.getElem_cons_zero, List.getElem_cons_succ, Act.put, List.setIfInBounds_toArray, List.set_cons_zero, List.set_cons_succ]
      go_wp2
      go_roundw
      case rel => exact ⟨k + cnt, by go_num, by omega, by omega, h4', b4⟩
      case measure => simp [intOf]; omega
    · obtain rfl : k = N := by omega
      clear hlt
      go_wp2
      go_ret
      exact ⟨B, rfl, hrow.congr (fun j hj => by rw [if_pos hj]), by have := HB.out; omega, hb.out⟩

end Go.Proofs.YtjkfmnahmbnbnaaDoor
