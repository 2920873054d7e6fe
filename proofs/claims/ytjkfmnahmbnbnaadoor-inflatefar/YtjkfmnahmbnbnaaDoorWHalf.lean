/- longest, isHalf. -/
import Derived.Test.YtjkfmnahmbnbnaaDoorWFirst
namespace Go.Proofs.YtjkfmnahmbnbnaaDoor
open Go.RowKit

set_option maxHeartbeats 400000 in
theorem longest_any (c : Nat → Int) (w : World) :
    Calls Tryd.prog 54 #[tal c] w fun e w' => ∃ dp : Nat, e = .returned (.int .i64 dp) ∧ dp ≤ 15 ∧ (∀ j, dp < j → j < 16 → c j = 0) ∧ (dp = 0 ∨ c dp ≠ 0) ∧ Below w.heap.size w w' := by
  go_enter Tryd.func54, Tryd.ntmps54
  go_wp2
  have r0 := box_row w c
  have b0 : Below w.heap.size w (w.alloc (.cells (vals (fun j => .int .i64 (c j)) 16).toArray 93)) := (Below.refl _ _).alloc (Nat.le_refl _) _
  generalize (w.alloc (.cells (vals (fun j => .int .i64 (c j)) 16).toArray 93)) = W at *
  go_loop [3] (fun i => ∃ k : Nat, k ≤ 15 ∧ i = .int .i64 k ∧ ∀ j, k < j → j < 16 → c j = 0) (fun i => (intOf i).toNat)
  case atStart => exact ⟨15, by omega, rfl, fun j h1 h2 => by omega⟩
  case round =>
    obtain ⟨k, hk, rfl, hz⟩ := hrel
    have ck := r0.cell (i := k) (by omega)
    clear r0
    have HB : Hid (Below w.heap.size w W) := b0
    have HZ : Hid (∀ j, k < j → j < 16 → c j = 0) := hz
    clear b0 hz
    by_cases h0 : k = 0
    · subst h0
      go_wp2
      go_ret
      exact ⟨0, rfl, by omega, HZ.out, .inl rfl, HB.out⟩
    · have hp : 0 < k := by omega
      by_cases hc : c k = 0
      · rw [hc] at ck
        have HZ2 : Hid (∀ j, k - 1 < j → j < 16 → c j = 0) := fun j h1 h2 => by
          rcases Nat.lt_or_ge k j with h' | h'
          · exact HZ.out j h' h2
          · obtain rfl : j = k := by omega
            exact hc
        clear hc h0
        go_wp2
        go_round
        case rel => exact ⟨k - 1, by omega, by congr 1; omega, HZ2.out⟩
        case measure => simp [intOf]; omega
      · have hd : (c k == 0) = false := by simp [hc]
        have HC : Hid (c k ≠ 0) := hc
        clear hc h0
        go_wp2
        go_ret
        exact ⟨k, rfl, hk, HZ.out, .inr HC.out, HB.out⟩

/-- Are the first sixteen the same? -/
def same16 (f g : Nat → Int) : List Nat → Bool
  | [] => true
  | i :: l => (f i == g i) && same16 f g l

theorem same16_iff (f g : Nat → Int) (l : List Nat) : same16 f g l = true ↔ ∀ i ∈ l, f i = g i := by
  induction l with
  | nil => simp [same16]
  | cons i l ih => simp [same16, ih]

/-- The same, of the first sixteen. -/
def eq16 (f g : Nat → Int) : Bool := same16 f g (List.range' 0 16 1)

theorem eq16_iff (f g : Nat → Int) : eq16 f g = true ↔ ∀ i, i < 16 → f i = g i := by
  unfold eq16
  rw [same16_iff]
  simp [List.mem_range'_1]

theorem eq_loop (d : Nat) (f g : Nat → Int) (w : World) : (Op.equalIn (d + 2) 93 (tal f) (tal g)).run Tryd.prog w = .ok (eq16 f g) w := by
  have hsz : ∀ w, (sizeOf 3).run Tryd.prog w = .ok 1 w := fun w => by simp [go_sem]
  have he : Tryd.prog.underlying 3 = some (.int .i64) := Tryd.underlying3
  rw [Op.equalIn, eq16]
  simp only [Sem.run_bind, run_underlying Tryd.underlying93, Result.andThen_ok, hsz, Std.Legacy.Range.forIn_eq_forIn_range', Std.Legacy.Range.size, Nat.sub_zero, Nat.add_sub_cancel, Nat.div_one]
  have hl : ∀ i ∈ List.range' 0 16 1, i < 16 := fun i hi => by simpa using (List.mem_range'_1.1 hi).2
  generalize List.range' 0 16 1 = l at hl ⊢
  induction l with
  | nil => simp [same16]
  | cons i l ih =>
    have hi : i < 16 := hl i (by simp)
    have px : ∀ f : Nat → Int, (part 3 (vals (fun j => .int .i64 (f j)) 16).toArray (i * 1)).run Tryd.prog w = .ok (.int .i64 (f i)) w := fun f => by
      have := vals_get (fun j => .int .i64 (f j)) 16 i hi
      simp [part, isAgg, run_underlying he, this]
    have pe : (Op.equalIn (d + 1) 3 (.int .i64 (f i)) (.int .i64 (g i))).run Tryd.prog w = .ok (f i == g i) w := run_equalIn_int w d 3 .i64 .i64 _ _ he
    simp only [List.forIn_cons, Sem.run_bind, px, pe, Result.andThen_ok, same16]
    cases hfg : (f i == g i) with
    | true =>
      simp only [Bool.not_true, Bool.false_eq_true, if_false, Sem.run_pure, Result.andThen_ok, Bool.true_and]
      exact ih fun j hj => hl j (by simp [hj])
    | false => simp [Sem.run_pure, Result.andThen_ok]

theorem wpList_ldW {P : Program} {ops : Array Oper} {rest : List Oper} {op : Oper} {a : Act} {w : World} {Q : Exit → Act → World → Prop} (hw : Region.wanted op (yielded ops a.tmps) = true) (ty : TypeId) (x : Operand) (ho : op.op = .load ty x)
    (b : Nat) (hx : a.eval x = .pointer (some ⟨b, 0, none⟩)) (d : TypeDesc) {t n : Nat} {f : Nat → Value} (h : w.rowIs b t n f) (m : Nat) (hm : m ≤ n)
    (hu : P.underlying ty = some d) (hd : d.isRow = true) (hi : (P.info? ty).map (·.size) = some m)
    (hk : wpList P ops Q rest (a.put op.dst (row f m)) w) : wpList P ops Q (op :: rest) a w :=
  wpList_step fun K hK => by
    rw [if_pos hw]
    have hr := rangeAt_row h 0 m (by omega)
    simp only [Nat.zero_add] at hr
    exact wp_load_mid ty x ho b 0 hx _ d hr hu hd (by rw [vals_len]; exact hi) (hK _ _ hk)

/-- One alone, of one bit. -/
def one1 (j : Nat) : Int := if j = 1 then 1 else 0

theorem one_set : (vals (fun _ => Value.int .i64 0) 16).set 1 (.int .i64 1) = vals (fun j => .int .i64 (one1 j)) 16 := by kernel_rfl

theorem half_yes (c : Nat → Int) (w : World) (h : eq16 c (fun _ => 0) = true) :
    Calls Tryd.prog 49 #[tal c] w fun e w' => e = .returned (.bool true) ∧ Below w.heap.size w w' := by
  have z64 := zero64
  have heq := fun w => eq_loop 9998 c (fun _ => 0) w
  rw [h] at heq
  have r0 := box_row w c
  have b0 : Below w.heap.size w (w.alloc (.cells (vals (fun j => .int .i64 (c j)) 16).toArray 93)) := (Below.refl _ _).alloc (Nat.le_refl _) _
  go_enter Tryd.func49, Tryd.ntmps49
  go_wp2_with (refine wpList_ld0 rfl 93 _ rfl w.heap.size rfl _ r0 16 (by omega) Tryd.underlying93 rfl size64 ?_)
  go_ret
  exact ⟨rfl, b0⟩

theorem half_one (c : Nat → Int) (w : World) (h : eq16 c (fun _ => 0) = false) :
    Calls Tryd.prog 49 #[tal c] w fun e w' => e = .returned (.bool (eq16 c one1)) ∧ Below w.heap.size w w' := by
  have z64 := zero64
  have heq := fun w => eq_loop 9998 c (fun _ => 0) w
  rw [h] at heq
  have hlen := vals_len (fun _ => Value.int .i64 0) 16
  have heq1 : ∀ w, (Op.equalIn 10000 93 (Value.agg (vals (fun j => Value.int .i64 (c j)) 16).toArray) (Value.agg ((vals (fun _ => Value.int .i64 0) 16).set 1 (Value.int .i64 1)).toArray)).run Tryd.prog w = .ok (eq16 c one1) w := fun w => by
    rw [one_set]
    exact eq_loop 9998 c one1 w
  have r0 := box_row w c
  have b0 : Below w.heap.size w (w.alloc (.cells (vals (fun j => .int .i64 (c j)) 16).toArray 93)) := (Below.refl _ _).alloc (Nat.le_refl _) _
  go_enter Tryd.func49, Tryd.ntmps49
  go_wp2_with (first
    | (refine wpList_ld0 rfl 93 _ rfl w.heap.size rfl _ r0 16 (by omega) Tryd.underlying93 rfl size64 ?_)
    | (refine wpList_ldW (by rfl) 93 _ rfl w.heap.size rfl _ r0 16 (by omega) Tryd.underlying93 rfl size64 ?_))
  go_ret
  exact ⟨rfl, b0⟩

/-- Whether isHalf says so. -/
def hv (c : Nat → Int) : Bool := eq16 c (fun _ => 0) || eq16 c one1

theorem hv_iff (c : Nat → Int) : hv c = true ↔ Half c := by
  unfold hv Half
  rw [Bool.or_eq_true, eq16_iff, eq16_iff]
  rfl

theorem half_any (c : Nat → Int) (w : World) : Calls Tryd.prog 49 #[tal c] w fun e w' => e = .returned (.bool (hv c)) ∧ Below w.heap.size w w' := by
  unfold hv
  cases h : eq16 c (fun _ => 0) with
  | true => exact half_yes c w h
  | false => exact half_one c w h

end Go.Proofs.YtjkfmnahmbnbnaaDoor
