/- slices.Grow, slices.Concat of rows of numbers; Fixed. -/
import Derived.Test.YtjkfmnahmbnbnaaDoorWRep
import Derived.Lib.AppendZeros
namespace Go.Proofs.YtjkfmnahmbnbnaaDoor
open Go.RowKit

theorem wpList_append_iv {w : World} {ops : Array Oper} {rest : List Oper} {o : Oper} {a : Act} {Q : Exit → Act → World → Prop} (hgd : o.guard = none) (s x : Operand)
    (ho : o.op = .call { callee := .builtin .append, args := #[s, x], argTypes := #[23, 23] })
    (base n : Nat) (v : Value) (xs : List Value) (hs : a.eval s = v) (hown : w.ownsRow base 3 1 v n xs)
    (ao : Option Addr) (m c : Nat) (M : Nat → Int) (hx : a.eval x = .slice ao m c) (hr : Ri w ao m c M) (hlim : n + m ≤ 1000000000) (hbase : base ≤ w.heap.size)
    (h : ∀ v' w', w'.ownsRow base 3 1 v' (n + m) (xs ++ ivs M m) → w.grownBy w' v.ownBlock → wpList Tryd.prog ops Q rest (a.put o.dst v') w') :
    wpList Tryd.prog ops Q (o :: rest) a w := by
  obtain ⟨i0, hi, hz0, hz1, hz2⟩ := info_parts Tryd.info3
  cases ao with
  | none =>
    obtain ⟨rfl, rfl⟩ := hr.nul rfl
    refine wpList_append_own_none hgd s x 23 ho base 3 i0 1 Tryd.underlying23 hi _ n _ hs hown hx ?_
    exact h v w (by simpa [vals] using hown) (World.grownBy.refl _ _)
  | some ad =>
    refine wpList_append_own w hgd s x 23 ho base 3 i0 (.int .i64 0) 1 8 Tryd.underlying23 hi hz0 hz1 hz2 rfl (by decide) _ n _ hs hown ad m c (ivs M m) hx (by rw [vals_len]; omega) (hr.cellsOf ad rfl) (ivs_one _ _)
      (by unfold maxLen; omega) (by omega) hbase ?_
    intro v' w' h1 h2 h3
    exact h v' w' (by simpa using h1) h2

theorem grow_any (n : Nat) (w : World) (h0 : 0 < n) (hn : n ≤ 100000) :
    Calls Tryd.prog 28 #[.slice none 0 0, .int .i64 n] w fun e w' => ∃ v, e = .returned v ∧ w'.ownsRow w.heap.size 3 1 v 0 [] ∧ Below w.heap.size w w' := by
  obtain ⟨i0, hi, hz0, hz1, hz2⟩ := info_parts Tryd.info3
  have d1 : decide ((n : Int) < 0) = false := by simp
  have d2 : decide ((0 : Int) < (n : Int)) = true := by simp; omega
  have hrun := Lib.run_append_nil_zeros (P := Tryd.prog) w 23 3 23 3 i0 (.int .i64 0) .i64 .i64 Tryd.underlying23 Tryd.underlying3 hi hz0 n h0 (by omega) (by omega) (by rw [hz2]; omega)
  go_enter Tryd.func28, Tryd.ntmps28
  go_wp2_with (at_builtin; refine Lib.wpList_append_run _ rfl _ _ _ _ rfl _ _ rfl rfl _ _ hrun ?_)
  go_ret
  refine ⟨_, rfl, World.ownsRow_made w _ _ (Nat.le_refl _) (grownCap_le_maxLen w n 0 3 (by unfold maxLen; omega)) ?_, ((Below.refl _ _).alloc (Nat.le_refl _) _).drew⟩
  have hge := grownCap_ge w n 0 3
  simp only [Array.size_append, size_zeroCells]
  simp
  omega

/-- How many the first k rows are. -/
def tm (n : Nat → Nat) : Nat → Nat
  | 0 => 0
  | k + 1 => tm n k + n k

/-- All of the first k rows. -/
def ct (n : Nat → Nat) (L : Nat → Nat → Int) : Nat → List Value
  | 0 => []
  | k + 1 => ct n L k ++ ivs (L k) (n k)

theorem tm_mono (n : Nat → Nat) (k m : Nat) (h : k ≤ m) : tm n k ≤ tm n m := by
  induction m with
  | zero =>
    obtain rfl : k = 0 := by omega
    omega
  | succ m ih =>
    rcases Nat.lt_or_ge k (m + 1) with hlt | hge
    · have := ih (by omega)
      simp only [tm]
      omega
    · obtain rfl : k = m + 1 := by omega
      omega

set_option maxRecDepth 100000 in
set_option maxHeartbeats 1000000 in
theorem concat_any (R m : Nat) (ao : Nat → Option Addr) (n c : Nat → Nat) (L : Nat → Nat → Int) (w : World) (hr : ∀ j, j < m → Ri w (ao j) (n j) (c j) (L j)) (hm : m ≤ 1000) (h0 : 0 < tm n m) (hn : tm n m ≤ 100000)
    (hk : ∀ j, j < m → w.cell? ⟨R, j, none⟩ = some (.slice (ao j) (n j) (c j))) :
    Calls Tryd.prog 22 #[.slice (some ⟨R, 0, none⟩) m m] w fun e w' => ∃ v, e = .returned v ∧ w'.ownsRow w.heap.size 3 1 v (tm n m) (ct n L m) ∧ Below w.heap.size w w' := by
  have HR : Hid (∀ j, j < m → Ri w (ao j) (n j) (c j) (L j)) := hr
  have HT : Hid (∀ k, k < m → tm n k + n k ≤ 100000) := fun k hk' => by have := tm_mono n (k + 1) m (by omega); simp only [tm] at this; omega
  have HK : Hid (∀ j, j < m → w.cell? ⟨R, j, none⟩ = some (.slice (ao j) (n j) (c j))) := hk
  clear hr hk
  go_enter Tryd.func22, Tryd.ntmps22
  go_wp2
  go_loop [3, 5, 11] (fun sv _ iv => ∃ k : Nat, k ≤ m ∧ iv = .int .i64 k ∧ sv = .int .i64 (tm n k)) (fun _ _ iv => m - (intOf iv).toNat)
  case atStart => exact ⟨0, by omega, rfl, rfl⟩
  case round =>
    obtain ⟨k, hkm, rfl, rfl⟩ := hrel
    by_cases hlt : k < m
    · have ck := HK.out k hlt
      have ht := HT.out k hlt
      have q1 : decide (((tm n k : Nat) : Int) + ((n k : Nat) : Int) < 0) = false := by simp; omega
      have E : Hid (tm n (k + 1) = tm n k + n k) := rfl
      generalize n k = nk at *
      generalize tm n k = tk at *
      go_wp2
      go_round
      case rel => exact ⟨k + 1, by omega, by go_num, by rw [E.out]; go_num⟩
      case measure => simp [intOf]; omega
    · obtain rfl : k = m := by omega
      obtain ⟨N, hN⟩ : ∃ N, N = tm n k := ⟨_, rfl⟩
      rw [← hN] at h0 hn ⊢
      have HN : Hid (N = tm n k) := hN
      clear hN hlt
      go_wp2_with fail
      refine (grow_any N w h0 hn).mono ?_
      rintro e w1 ⟨v1, rfl, o1, b1⟩
      have O1 : Hid (w1.ownsRow w.heap.size 3 1 v1 0 []) := o1
      have B1 : Hid (Below w.heap.size w w1) := b1
      clear o1 b1
      go_wp2
      go_loopw [6, 8, 27] (fun rv _ iv wr => ∃ (v : Value) (j : Nat), rv = v ∧ j ≤ k ∧ iv = .int .i64 j ∧ Hid (Below w.heap.size w wr) ∧ Hid (wr.ownsRow w.heap.size 3 1 v (tm n j) (ct n L j))) (fun _ _ iv _ => k - (intOf iv).toNat)
      case atStart => exact ⟨v1, 0, rfl, by omega, rfl, B1, O1⟩
      case round =>
        clear B1 O1
        obtain ⟨v, j, rfl, hj, rfl, BW, OW⟩ := hrel
        by_cases hlt : j < k
        · have ht := HT.out j hlt
          have c0 : wr.cell? ⟨R, j, none⟩ = some (.slice (ao j) (n j) (c j)) := (BW.out.cell (World.block_lt_of_cell? w _ (HK.out j hlt))).trans (HK.out j hlt)
          go_wp2_with (refine wpList_append_iv rfl _ _ rfl w.heap.size (tm n j) _ (ct n L j) rfl OW.out (ao j) (n j) (c j) (L j) rfl ((HR.out j hlt).keep BW.out) (by omega) BW.out.size ?_; intro v5 w5 o5 g5)
          have o5' : Hid (w5.ownsRow w.heap.size 3 1 v5 (tm n (j + 1)) (ct n L (j + 1))) := o5
          have b5 : Hid (Below w.heap.size w w5) := BW.out.grown g5 BW.out.size (fun q hq => (OW.out.lt q hq).1)
          clear o5 g5 OW BW c0 ht
          go_wp2_with fail
          go_roundw
          case rel => exact ⟨v5, j + 1, rfl, by omega, by go_num, b5, o5'⟩
          case measure => simp [intOf]; omega
        · obtain rfl : j = k := by omega
          clear hlt
          go_wp2
          go_ret
          exact ⟨_, rfl, by rw [HN.out]; exact OW.out, BW.out⟩

/-- The fixed code's lengths. -/
def fl (i : Nat) : Int := if i < 144 then 8 else if i < 256 then 9 else if i < 280 then 7 else 8

/-- The fixed distances'. -/
def dl (_ : Nat) : Int := 5

/-- The four rows of the fixed lengths. -/
def fn4 : Nat → Nat | 0 => 144 | 1 => 112 | 2 => 24 | _ => 8
def fx4 : Nat → Int | 0 => 8 | 1 => 9 | 2 => 7 | _ => 8

theorem ct_fixed : ct fn4 (fun j _ => fx4 j) 4 = ivs fl 288 := by
  kernel_rfl

theorem rep_at (x z : Int) (N : Nat) (w : World) (hz : z = N) (h0 : 0 < N) (hN : N ≤ 100000) :
    Calls Tryd.prog 23 #[.slice (some ⟨w.heap.size, 0, none⟩) 1 1, .int .i64 z] (w.alloc (Obj.cells #[Value.int IntKind.i64 x] 3)) fun e w' => ∃ g, e = .returned (.slice (some ⟨g, 0, none⟩) N N) ∧ w'.rowIs g 3 N (fun _ => .int .i64 x) ∧ Below w.heap.size w w' := by
  subst hz
  refine (repeat_one w.heap.size x N _ ((World.rowIs_alloc w #[Value.int .i64 x] 3 (fun _ => .int .i64 x) (fun i hi => by simp at hi; subst hi; rfl)).cell (i := 0) (by simp)) h0 hN).mono ?_
  rintro e w' ⟨g, rfl, h1, h2, h3⟩
  have b : Below w.heap.size w (w.alloc (Obj.cells #[Value.int IntKind.i64 x] 3)) := (Below.refl _ _).alloc (Nat.le_refl _) _
  exact ⟨g, rfl, h1, b.trans (h3.mono b.size)⟩

/-- Four slices, by number. -/
def four {α : Type} (a b c d : α) : Nat → α | 0 => a | 1 => b | 2 => c | _ => d

set_option maxRecDepth 100000 in
set_option maxHeartbeats 1000000 in
theorem fixed_any (w : World) : Calls Tryd.prog 8 #[] w fun e w' => ∃ la lc da, e = .returned (.tuple #[.slice la 288 lc, .slice (some ⟨da, 0, none⟩) 32 32]) ∧ Ri w' la 288 lc fl ∧ w'.rowIs da 3 32 (fun _ => .int .i64 5) ∧ Below w.heap.size w w' := by
  go_enter Tryd.func8, Tryd.ntmps8
  go_wp2_with fail
  refine (rep_at 8 144 144 w rfl (by omega) (by omega)).mono ?_
  rintro e w1 ⟨g1, rfl, r1, b1⟩
  go_wp2_with fail
  refine (rep_at 9 112 112 w1 rfl (by omega) (by omega)).mono ?_
  rintro e w2 ⟨g2, rfl, r2, b2⟩
  go_wp2_with fail
  refine (rep_at 7 24 24 w2 rfl (by omega) (by omega)).mono ?_
  rintro e w3 ⟨g3, rfl, r3, b3⟩
  go_wp2_with fail
  refine (rep_at 8 8 8 w3 rfl (by omega) (by omega)).mono ?_
  rintro e w4 ⟨g4, rfl, r4, b4⟩
  have r1' := ((r1.of_block (b2.block _ r1.lt)).of_block (b3.block _ (r1.of_block (b2.block _ r1.lt)).lt))
  have r1'' := r1'.of_block (b4.block _ r1'.lt)
  have r2' := r2.of_block (b3.block _ r2.lt)
  have r2'' := r2'.of_block (b4.block _ r2'.lt)
  have r3'' := r3.of_block (b4.block _ r3.lt)
  have B4 := (b1.trans (b2.mono b1.size)).trans ((b3.trans (b4.mono b3.size)).mono (Nat.le_trans b1.size b2.size))
  clear r1 r2 r3 r1' r2' b1 b2 b3 b4
  go_wp2_with fail
  have bA : Below w4.heap.size w4 (w4.alloc (Obj.cells #[Value.slice (some ⟨g1, 0, none⟩) 144 144, Value.slice (some ⟨g2, 0, none⟩) 112 112, Value.slice (some ⟨g3, 0, none⟩) 24 24, Value.slice (some ⟨g4, 0, none⟩) 8 8] 23)) := (Below.refl _ _).alloc (Nat.le_refl _) _
  have rA := World.rowIs_alloc w4 #[Value.slice (some ⟨g1, 0, none⟩) 144 144, Value.slice (some ⟨g2, 0, none⟩) 112 112, Value.slice (some ⟨g3, 0, none⟩) 24 24, Value.slice (some ⟨g4, 0, none⟩) 8 8] 23 (fun j => .slice (four (some ⟨g1, 0, none⟩) (some ⟨g2, 0, none⟩) (some ⟨g3, 0, none⟩) (some ⟨g4, 0, none⟩) j) (fn4 j) (fn4 j)) (fun i hi => by
    simp at hi
    rcases i with _ | _ | _ | _ | i <;> first | rfl | omega)
  refine (concat_any w4.heap.size 4 (four (some ⟨g1, 0, none⟩) (some ⟨g2, 0, none⟩) (some ⟨g3, 0, none⟩) (some ⟨g4, 0, none⟩)) fn4 fn4 (fun j _ => fx4 j) _ (fun j hj => ?_) (by omega) (by decide) (by decide) (fun j hj => rA.cell (by simpa using hj))).mono ?_
  · rcases j with _ | _ | _ | _ | j
    · exact (Ri.row r1'').keep bA
    · exact (Ri.row r2'').keep bA
    · exact (Ri.row r3'').keep bA
    · exact (Ri.row r4).keep bA
    · omega
  rintro e w5 ⟨v5, rfl, o5, b5⟩
  rw [ct_fixed, show tm fn4 4 = 288 from rfl] at o5
  obtain ⟨la, lc, rfl, l5, _⟩ := own_ri o5
  have B5 := B4.trans ((bA.trans (b5.mono bA.size)).mono B4.size)
  have L5 : Hid (Ri w5 la 288 lc fl) := l5
  have HB5 : Hid (Below w.heap.size w w5) := B5
  clear rA r1'' r2'' r3'' r4 B4 bA b5 o5 l5 B5
  go_wp2_with fail
  refine (rep_at 5 32 32 w5 rfl (by omega) (by omega)).mono ?_
  rintro e w6 ⟨g6, rfl, r6, b6⟩
  go_wp2
  go_ret2
  exact ⟨la, lc, g6, rfl, L5.out.keep b6, r6, HB5.out.trans (b6.mono HB5.out.size)⟩

end Go.Proofs.YtjkfmnahmbnbnaaDoor
