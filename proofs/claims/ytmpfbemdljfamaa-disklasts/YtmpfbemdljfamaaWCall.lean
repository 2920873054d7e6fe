/- call: a call that changes the disk is done. -/
import Derived.Test.YtmpfbemdljfamaaWRoom
namespace Go.Proofs.Ytmpfbemdljfamaa
open Go.RowKit Go.Maps

/-- The disk with one call more. -/
def ticked (S : St) : St := { S with left := max (S.left - 1) 0, calls := S.calls + 1 }

theorem wpList_max {ops : Array Oper} {rest : List Oper} {op : Oper} {a : Act} {w : World} {Q : Exit → Act → World → Prop} (hgd : op.guard = none) (x y : Operand) (ho : op.op = .call { callee := .builtin .max, args := #[x, y], argTypes := #[3, 3] })
    (p q : Int) (hx : a.eval x = .int .i64 p) (hy : a.eval y = .int .i64 q) (ht : op.type = 3) (r : Int) (hr : r = max p q)
    (hk : wpList Try.prog ops Q rest (a.put op.dst (.int .i64 r)) w) : wpList Try.prog ops Q (op :: rest) a w := by
  refine wpList_plain hgd fun K hK => ?_
  have hk' := hK _ _ hk
  subst hr
  unfold Oper.wp
  have hm : (Builtin.max2 (.int .i64 p) (.int .i64 q)).run Try.prog w = .ok (.int .i64 (max p q)) w := by
    by_cases h : q < p
    · rw [show max p q = p by omega]
      simp [Builtin.max2, go_sem]; omega
    · rw [show max p q = q by omega]
      simp [Builtin.max2, go_sem]; omega
  simp [execOp, ho, resolve, invoke, builtin, hx, hy, ht, Builtin.max_, hm, Result.andThen]
  exact hk'

set_option maxRecDepth 100000 in
set_option maxHeartbeats 1000000 in
theorem call_25 (d : Nat) (O : Nat → Prop) (S : St) (b1 b2 b3 : Nat) (w : World) (R : World → Prop) (h : Dk w O d S) (hl : S.left ≠ 1) (hl2 : -1000000000 ≤ S.left ∧ S.left ≤ 9223372036854775807) (hc : 0 ≤ S.calls ∧ S.calls ≤ 1000000000)
    (hw : ∀ w1, Dk w1 O d (ticked S) → Fr (fun k => k = d) w w1 → Calls Try.prog 25 #[.pointer (some ⟨b1, 0, none⟩), .pointer (some ⟨b2, 0, none⟩), .pointer (some ⟨b3, 0, none⟩)] w1 fun e w' => e = .returned (.tuple #[]) ∧ R w') :
    Calls Try.prog 24 #[.pointer (some ⟨d, 0, none⟩), .func (.func 25) #[] #[.pointer (some ⟨b1, 0, none⟩), .pointer (some ⟨b2, 0, none⟩), .pointer (some ⟨b3, 0, none⟩)]] w fun e w' => e = .returned (.int .i64 0) ∧ R w' := by
  have hr := h.row
  have c6 := hr.cell (i := 6) (by omega)
  have c5 := hr.cell (i := 5) (by omega)
  simp only [dc] at c6 c5
  have f6 := hr.frozen 6
  have f5 := hr.frozen 5
  have hr1 := set_row (g := dc { S with left := max (S.left - 1) 0 }) hr 6 (.int .i64 (max (S.left - 1) 0)) (by
    intro j hj
    match j, hj with
    | 0, _ | 1, _ | 2, _ | 3, _ | 4, _ | 5, _ | 6, _ | 7, _ => rfl)
  have hr2 := set_row (g := dc (ticked S)) hr1 5 (.int .i64 (S.calls + 1)) (by
    intro j hj
    match j, hj with
    | 0, _ | 1, _ | 2, _ | 3, _ | 4, _ | 5, _ | 6, _ | 7, _ => rfl)
  have hf : Fr (fun k => k = d) w ((w.setCell ⟨d, 6, none⟩ (.int .i64 (max (S.left - 1) 0))).setCell ⟨d, 5, none⟩ (.int .i64 (S.calls + 1))) := (set_fr w d 6 _).setCell rfl _
  have hp : ((w.setCell ⟨d, 6, none⟩ (.int .i64 (max (S.left - 1) 0))).setCell ⟨d, 5, none⟩ (.int .i64 (S.calls + 1))).ownsRow 0 3 1 S.pk S.ps.length (S.ps.map (Value.int .i64)) := ownsRow_fr h.pic hf (fun k e hk => by
    have k1 := kd_own h.pic e
    rw [hk, kd_row hr] at k1
    cases k1)
  have D1 := h.setRow (S' := ticked S) hr2 hf rfl rfl rfl rfl rfl rfl rfl rfl hp h.own.2.2.2.2
  have hwk := hw _ D1 hf
  have q1 : (S.left == 1) = false := by simpa using hl
  have q1' : decide (S.left = 1) = false := by simpa using hl
  have q2 : IntKind.i64.wrap (S.left - 1) = S.left - 1 := by rw [IntKind.wrap_i64]; omega
  have q2' : wrap64 (S.left - 1) = S.left - 1 := IntWalk.wrap64_in _ (by omega)
  have q3 : IntKind.i64.wrap (S.calls + 1) = S.calls + 1 := by rw [IntKind.wrap_i64]; omega
  have q3' : wrap64 (S.calls + 1) = S.calls + 1 := IntWalk.wrap64_in _ (by omega)
  clear hr hr1 hr2 h D1 hw hp hf
  generalize S.left = lf at *
  generalize S.calls = cl at *
  go_enter Try.func24, Try.ntmps24
  go_wp2_with (first
    | (at_builtin; refine wpList_max rfl _ _ rfl (lf - 1) 0 rfl rfl ?_)
    | (go_at_call 25; refine hwk.mono ?_; rintro e w4 ⟨rfl, hR⟩))
  go_ret
  exact ⟨rfl, hR⟩

set_option maxRecDepth 100000 in
set_option maxHeartbeats 1000000 in
theorem call_33 (d : Nat) (O : Nat → Prop) (S : St) (b1 b2 b3 : Nat) (w : World) (R : World → Prop) (h : Dk w O d S) (hl : S.left ≠ 1) (hl2 : -1000000000 ≤ S.left ∧ S.left ≤ 9223372036854775807) (hc : 0 ≤ S.calls ∧ S.calls ≤ 1000000000)
    (hw : ∀ w1, Dk w1 O d (ticked S) → Fr (fun k => k = d) w w1 → Calls Try.prog 33 #[.pointer (some ⟨b1, 0, none⟩), .pointer (some ⟨b2, 0, none⟩), .pointer (some ⟨b3, 0, none⟩)] w1 fun e w' => e = .returned (.tuple #[]) ∧ R w') :
    Calls Try.prog 24 #[.pointer (some ⟨d, 0, none⟩), .func (.func 33) #[] #[.pointer (some ⟨b1, 0, none⟩), .pointer (some ⟨b2, 0, none⟩), .pointer (some ⟨b3, 0, none⟩)]] w fun e w' => e = .returned (.int .i64 0) ∧ R w' := by
  have hr := h.row
  have c6 := hr.cell (i := 6) (by omega)
  have c5 := hr.cell (i := 5) (by omega)
  simp only [dc] at c6 c5
  have f6 := hr.frozen 6
  have f5 := hr.frozen 5
  have hr1 := set_row (g := dc { S with left := max (S.left - 1) 0 }) hr 6 (.int .i64 (max (S.left - 1) 0)) (by
    intro j hj
    match j, hj with
    | 0, _ | 1, _ | 2, _ | 3, _ | 4, _ | 5, _ | 6, _ | 7, _ => rfl)
  have hr2 := set_row (g := dc (ticked S)) hr1 5 (.int .i64 (S.calls + 1)) (by
    intro j hj
    match j, hj with
    | 0, _ | 1, _ | 2, _ | 3, _ | 4, _ | 5, _ | 6, _ | 7, _ => rfl)
  have hf : Fr (fun k => k = d) w ((w.setCell ⟨d, 6, none⟩ (.int .i64 (max (S.left - 1) 0))).setCell ⟨d, 5, none⟩ (.int .i64 (S.calls + 1))) := (set_fr w d 6 _).setCell rfl _
  have hp : ((w.setCell ⟨d, 6, none⟩ (.int .i64 (max (S.left - 1) 0))).setCell ⟨d, 5, none⟩ (.int .i64 (S.calls + 1))).ownsRow 0 3 1 S.pk S.ps.length (S.ps.map (Value.int .i64)) := ownsRow_fr h.pic hf (fun k e hk => by
    have k1 := kd_own h.pic e
    rw [hk, kd_row hr] at k1
    cases k1)
  have D1 := h.setRow (S' := ticked S) hr2 hf rfl rfl rfl rfl rfl rfl rfl rfl hp h.own.2.2.2.2
  have hwk := hw _ D1 hf
  have q1 : (S.left == 1) = false := by simpa using hl
  have q1' : decide (S.left = 1) = false := by simpa using hl
  have q2 : IntKind.i64.wrap (S.left - 1) = S.left - 1 := by rw [IntKind.wrap_i64]; omega
  have q2' : wrap64 (S.left - 1) = S.left - 1 := IntWalk.wrap64_in _ (by omega)
  have q3 : IntKind.i64.wrap (S.calls + 1) = S.calls + 1 := by rw [IntKind.wrap_i64]; omega
  have q3' : wrap64 (S.calls + 1) = S.calls + 1 := IntWalk.wrap64_in _ (by omega)
  clear hr hr1 hr2 h D1 hw hp hf
  generalize S.left = lf at *
  generalize S.calls = cl at *
  go_enter Try.func24, Try.ntmps24
  go_wp2_with (first
    | (at_builtin; refine wpList_max rfl _ _ rfl (lf - 1) 0 rfl rfl ?_)
    | (go_at_call 33; refine hwk.mono ?_; rintro e w4 ⟨rfl, hR⟩))
  go_ret
  exact ⟨rfl, hR⟩

set_option maxRecDepth 100000 in
set_option maxHeartbeats 1000000 in
theorem call_36 (d : Nat) (O : Nat → Prop) (S : St) (b1 b2 : Nat) (w : World) (R : World → Prop) (h : Dk w O d S) (hl : S.left ≠ 1) (hl2 : -1000000000 ≤ S.left ∧ S.left ≤ 9223372036854775807) (hc : 0 ≤ S.calls ∧ S.calls ≤ 1000000000)
    (hw : ∀ w1, Dk w1 O d (ticked S) → Fr (fun k => k = d) w w1 → Calls Try.prog 36 #[.pointer (some ⟨b1, 0, none⟩), .pointer (some ⟨b2, 0, none⟩)] w1 fun e w' => e = .returned (.tuple #[]) ∧ R w') :
    Calls Try.prog 24 #[.pointer (some ⟨d, 0, none⟩), .func (.func 36) #[] #[.pointer (some ⟨b1, 0, none⟩), .pointer (some ⟨b2, 0, none⟩)]] w fun e w' => e = .returned (.int .i64 0) ∧ R w' := by
  have hr := h.row
  have c6 := hr.cell (i := 6) (by omega)
  have c5 := hr.cell (i := 5) (by omega)
  simp only [dc] at c6 c5
  have f6 := hr.frozen 6
  have f5 := hr.frozen 5
  have hr1 := set_row (g := dc { S with left := max (S.left - 1) 0 }) hr 6 (.int .i64 (max (S.left - 1) 0)) (by
    intro j hj
    match j, hj with
    | 0, _ | 1, _ | 2, _ | 3, _ | 4, _ | 5, _ | 6, _ | 7, _ => rfl)
  have hr2 := set_row (g := dc (ticked S)) hr1 5 (.int .i64 (S.calls + 1)) (by
    intro j hj
    match j, hj with
    | 0, _ | 1, _ | 2, _ | 3, _ | 4, _ | 5, _ | 6, _ | 7, _ => rfl)
  have hf : Fr (fun k => k = d) w ((w.setCell ⟨d, 6, none⟩ (.int .i64 (max (S.left - 1) 0))).setCell ⟨d, 5, none⟩ (.int .i64 (S.calls + 1))) := (set_fr w d 6 _).setCell rfl _
  have hp : ((w.setCell ⟨d, 6, none⟩ (.int .i64 (max (S.left - 1) 0))).setCell ⟨d, 5, none⟩ (.int .i64 (S.calls + 1))).ownsRow 0 3 1 S.pk S.ps.length (S.ps.map (Value.int .i64)) := ownsRow_fr h.pic hf (fun k e hk => by
    have k1 := kd_own h.pic e
    rw [hk, kd_row hr] at k1
    cases k1)
  have D1 := h.setRow (S' := ticked S) hr2 hf rfl rfl rfl rfl rfl rfl rfl rfl hp h.own.2.2.2.2
  have hwk := hw _ D1 hf
  have q1 : (S.left == 1) = false := by simpa using hl
  have q1' : decide (S.left = 1) = false := by simpa using hl
  have q2 : IntKind.i64.wrap (S.left - 1) = S.left - 1 := by rw [IntKind.wrap_i64]; omega
  have q2' : wrap64 (S.left - 1) = S.left - 1 := IntWalk.wrap64_in _ (by omega)
  have q3 : IntKind.i64.wrap (S.calls + 1) = S.calls + 1 := by rw [IntKind.wrap_i64]; omega
  have q3' : wrap64 (S.calls + 1) = S.calls + 1 := IntWalk.wrap64_in _ (by omega)
  clear hr hr1 hr2 h D1 hw hp hf
  generalize S.left = lf at *
  generalize S.calls = cl at *
  go_enter Try.func24, Try.ntmps24
  go_wp2_with (first
    | (at_builtin; refine wpList_max rfl _ _ rfl (lf - 1) 0 rfl rfl ?_)
    | (go_at_call 36; refine hwk.mono ?_; rintro e w4 ⟨rfl, hR⟩))
  go_ret
  exact ⟨rfl, hR⟩

set_option maxRecDepth 100000 in
set_option maxHeartbeats 1000000 in
theorem call_48 (d : Nat) (O : Nat → Prop) (S : St) (b1 b2 : Nat) (w : World) (R : World → Prop) (h : Dk w O d S) (hl : S.left ≠ 1) (hl2 : -1000000000 ≤ S.left ∧ S.left ≤ 9223372036854775807) (hc : 0 ≤ S.calls ∧ S.calls ≤ 1000000000)
    (hw : ∀ w1, Dk w1 O d (ticked S) → Fr (fun k => k = d) w w1 → Calls Try.prog 48 #[.pointer (some ⟨b1, 0, none⟩), .pointer (some ⟨b2, 0, none⟩)] w1 fun e w' => e = .returned (.tuple #[]) ∧ R w') :
    Calls Try.prog 24 #[.pointer (some ⟨d, 0, none⟩), .func (.func 48) #[] #[.pointer (some ⟨b1, 0, none⟩), .pointer (some ⟨b2, 0, none⟩)]] w fun e w' => e = .returned (.int .i64 0) ∧ R w' := by
  have hr := h.row
  have c6 := hr.cell (i := 6) (by omega)
  have c5 := hr.cell (i := 5) (by omega)
  simp only [dc] at c6 c5
  have f6 := hr.frozen 6
  have f5 := hr.frozen 5
  have hr1 := set_row (g := dc { S with left := max (S.left - 1) 0 }) hr 6 (.int .i64 (max (S.left - 1) 0)) (by
    intro j hj
    match j, hj with
    | 0, _ | 1, _ | 2, _ | 3, _ | 4, _ | 5, _ | 6, _ | 7, _ => rfl)
  have hr2 := set_row (g := dc (ticked S)) hr1 5 (.int .i64 (S.calls + 1)) (by
    intro j hj
    match j, hj with
    | 0, _ | 1, _ | 2, _ | 3, _ | 4, _ | 5, _ | 6, _ | 7, _ => rfl)
  have hf : Fr (fun k => k = d) w ((w.setCell ⟨d, 6, none⟩ (.int .i64 (max (S.left - 1) 0))).setCell ⟨d, 5, none⟩ (.int .i64 (S.calls + 1))) := (set_fr w d 6 _).setCell rfl _
  have hp : ((w.setCell ⟨d, 6, none⟩ (.int .i64 (max (S.left - 1) 0))).setCell ⟨d, 5, none⟩ (.int .i64 (S.calls + 1))).ownsRow 0 3 1 S.pk S.ps.length (S.ps.map (Value.int .i64)) := ownsRow_fr h.pic hf (fun k e hk => by
    have k1 := kd_own h.pic e
    rw [hk, kd_row hr] at k1
    cases k1)
  have D1 := h.setRow (S' := ticked S) hr2 hf rfl rfl rfl rfl rfl rfl rfl rfl hp h.own.2.2.2.2
  have hwk := hw _ D1 hf
  have q1 : (S.left == 1) = false := by simpa using hl
  have q1' : decide (S.left = 1) = false := by simpa using hl
  have q2 : IntKind.i64.wrap (S.left - 1) = S.left - 1 := by rw [IntKind.wrap_i64]; omega
  have q2' : wrap64 (S.left - 1) = S.left - 1 := IntWalk.wrap64_in _ (by omega)
  have q3 : IntKind.i64.wrap (S.calls + 1) = S.calls + 1 := by rw [IntKind.wrap_i64]; omega
  have q3' : wrap64 (S.calls + 1) = S.calls + 1 := IntWalk.wrap64_in _ (by omega)
  clear hr hr1 hr2 h D1 hw hp hf
  generalize S.left = lf at *
  generalize S.calls = cl at *
  go_enter Try.func24, Try.ntmps24
  go_wp2_with (first
    | (at_builtin; refine wpList_max rfl _ _ rfl (lf - 1) 0 rfl rfl ?_)
    | (go_at_call 48; refine hwk.mono ?_; rintro e w4 ⟨rfl, hR⟩))
  go_ret
  exact ⟨rfl, hR⟩

set_option maxRecDepth 100000 in
set_option maxHeartbeats 1000000 in
theorem call_32 (d : Nat) (O : Nat → Prop) (S : St) (b1 : Nat) (w : World) (R : World → Prop) (h : Dk w O d S) (hl : S.left ≠ 1) (hl2 : -1000000000 ≤ S.left ∧ S.left ≤ 9223372036854775807) (hc : 0 ≤ S.calls ∧ S.calls ≤ 1000000000)
    (hw : ∀ w1, Dk w1 O d (ticked S) → Fr (fun k => k = d) w w1 → Calls Try.prog 32 #[.pointer (some ⟨b1, 0, none⟩)] w1 fun e w' => e = .returned (.tuple #[]) ∧ R w') :
    Calls Try.prog 24 #[.pointer (some ⟨d, 0, none⟩), .func (.func 32) #[.pointer (some ⟨b1, 0, none⟩)] #[]] w fun e w' => e = .returned (.int .i64 0) ∧ R w' := by
  have hr := h.row
  have c6 := hr.cell (i := 6) (by omega)
  have c5 := hr.cell (i := 5) (by omega)
  simp only [dc] at c6 c5
  have f6 := hr.frozen 6
  have f5 := hr.frozen 5
  have hr1 := set_row (g := dc { S with left := max (S.left - 1) 0 }) hr 6 (.int .i64 (max (S.left - 1) 0)) (by
    intro j hj
    match j, hj with
    | 0, _ | 1, _ | 2, _ | 3, _ | 4, _ | 5, _ | 6, _ | 7, _ => rfl)
  have hr2 := set_row (g := dc (ticked S)) hr1 5 (.int .i64 (S.calls + 1)) (by
    intro j hj
    match j, hj with
    | 0, _ | 1, _ | 2, _ | 3, _ | 4, _ | 5, _ | 6, _ | 7, _ => rfl)
  have hf : Fr (fun k => k = d) w ((w.setCell ⟨d, 6, none⟩ (.int .i64 (max (S.left - 1) 0))).setCell ⟨d, 5, none⟩ (.int .i64 (S.calls + 1))) := (set_fr w d 6 _).setCell rfl _
  have hp : ((w.setCell ⟨d, 6, none⟩ (.int .i64 (max (S.left - 1) 0))).setCell ⟨d, 5, none⟩ (.int .i64 (S.calls + 1))).ownsRow 0 3 1 S.pk S.ps.length (S.ps.map (Value.int .i64)) := ownsRow_fr h.pic hf (fun k e hk => by
    have k1 := kd_own h.pic e
    rw [hk, kd_row hr] at k1
    cases k1)
  have D1 := h.setRow (S' := ticked S) hr2 hf rfl rfl rfl rfl rfl rfl rfl rfl hp h.own.2.2.2.2
  have hwk := hw _ D1 hf
  have q1 : (S.left == 1) = false := by simpa using hl
  have q1' : decide (S.left = 1) = false := by simpa using hl
  have q2 : IntKind.i64.wrap (S.left - 1) = S.left - 1 := by rw [IntKind.wrap_i64]; omega
  have q2' : wrap64 (S.left - 1) = S.left - 1 := IntWalk.wrap64_in _ (by omega)
  have q3 : IntKind.i64.wrap (S.calls + 1) = S.calls + 1 := by rw [IntKind.wrap_i64]; omega
  have q3' : wrap64 (S.calls + 1) = S.calls + 1 := IntWalk.wrap64_in _ (by omega)
  clear hr hr1 hr2 h D1 hw hp hf
  generalize S.left = lf at *
  generalize S.calls = cl at *
  go_enter Try.func24, Try.ntmps24
  go_wp2_with (first
    | (at_builtin; refine wpList_max rfl _ _ rfl (lf - 1) 0 rfl rfl ?_)
    | (go_at_call 32; refine hwk.mono ?_; rintro e w4 ⟨rfl, hR⟩))
  go_ret
  exact ⟨rfl, hR⟩

end Go.Proofs.Ytmpfbemdljfamaa
