/- The walk of LimitWider. -/
import Derived.Test.YtkclaikofdolmaaWKnown
namespace Go.Proofs.Ytkclaikofdolmaa
open Go.RowKit

/-- What Least answers. -/
def lv (D : Nat → Int) (n : Nat) (most : Int) : Int := if lerr D n most = 0 then lc D n most.toNat else 0

theorem least_any (ao : Option Addr) (n c : Nat) (D : Nat → Int) (most : Int) (w : World) (h : Ri w ao n c D) :
    Calls Try.prog 9 #[.slice ao n c, .int .i64 most] w fun e w' => e = .returned (.tuple #[.int .i64 (lv D n most), .int .i64 (lerr D n most)]) ∧ Below w.heap.size w w' := by
  unfold lv
  by_cases he : lerr D n most = 0
  · rw [if_pos he, he]
    exact least_yes ao n c D most w h he
  · rw [if_neg he]
    exact least_no ao n c D most w h he

theorem has_rw (S : List Pt) (i : Nat) : ∃ ys, Rw S i ys := by
  induction i with
  | zero =>
    obtain ⟨l, h1, h2⟩ := psort S
    exact ⟨l, .base l h1 h2⟩
  | succ i ih =>
    obtain ⟨ys, hy⟩ := ih
    obtain ⟨l, h1, h2⟩ := psort (S ++ prs 288 ys)
    exact ⟨l, .step i ys l hy h1 h2⟩

theorem RR_enough (D : Nat → Int) (n m : Nat) (h1 : 1 ≤ m) (h2 : 2 ≤ (sy D n).length) (hm : (sy D n).length ≤ 2 ^ m) : 2 * (sy D n).length - 2 ≤ (RR (so D n) m).length := by
  obtain ⟨i, rfl⟩ : ∃ i, m = i + 1 := ⟨m - 1, by omega⟩
  obtain ⟨ys, hy⟩ := has_rw (lvs D n) i
  rw [← hy.row (so D n) (so_up D n) (lvs_ct D n), List.length_map]
  have hl : (lvs D n).length = (sy D n).length := by simp [lvs]
  have := hy.enough (by omega) (by omega)
  omega

theorem wider (D : Nat → Int) (n m : Nat) (h1 : 1 ≤ m) (h14 : m ≤ 14) (h : lerr D n m = 0) : lerr D n ((m : Int) + 1) = 0 ∧ lv D n ((m : Int) + 1) ≤ lv D n m := by
  obtain ⟨m', e, hk, _, _, hf⟩ := lerr_ok h
  obtain rfl : m = m' := by omega
  have e1 : ((m : Int) + 1).toNat = m + 1 := by omega
  have hp : (2 : Nat) ^ (m + 1) = 2 ^ m * 2 := Nat.pow_succ 2 m
  have h2 : lerr D n ((m : Int) + 1) = 0 := by
    unfold lerr
    rw [if_pos ⟨hk, by omega, by omega⟩, e1, if_neg (by omega)]
  refine ⟨h2, ?_⟩
  unfold lv
  rw [if_pos h, if_pos h2, e1, Int.toNat_natCast]
  unfold lc
  by_cases hl : (sy D n).length < 2
  · rw [if_pos hl, if_pos hl]
    omega
  · rw [if_neg hl, if_neg hl]
    exact (RR_dom (so D n) (so_up D n) m).sum _ (RR_enough D n m h1 (by omega) hf)

/-- All of one count. -/
def d3 : Nat → Int := fun _ => 3

theorem d3_sy (n : Nat) : (sy d3 n).length = n := by
  induction n with
  | zero => rfl
  | succ n ih => simp only [sy]; rw [if_pos (by show (0 : Int) < 3; omega), List.length_append, ih]; rfl

theorem d3_ok (n : Nat) (h : n ≤ 288) : okc d3 n = true := (okc_iff d3 n).2 ⟨h, fun j _ => by unfold Cm d3; omega⟩

theorem G_ones (L : Nat → Int) (K : Nat) : ∀ n, (∀ j, j < n → 1 ≤ L j ∧ L j ≤ K) → (n : Int) ≤ G L K n ∧ (G L K n = n → ∀ j, j < n → L j = K)
  | 0, _ => ⟨by simp [G], fun _ j hj => by omega⟩
  | n + 1, h => by
    have ih := G_ones L K n (fun j hj => h j (by omega))
    have hn := h n (by omega)
    have hp := p2 (K - (L n).toNat)
    simp only [G]
    rw [if_pos (by omega)]
    refine ⟨by omega, fun e j hj => ?_⟩
    have e1 : (2 : Int) ^ (K - (L n).toNat) = 1 := by omega
    rcases Nat.lt_or_ge j n with h' | h'
    · exact ih.2 (by omega) j h'
    · obtain rfl : j = n := by omega
      by_cases hz : K - (L j).toNat = 0
      · omega
      · exfalso
        have := p2_le 1 (K - (L j).toNat) (by omega)
        have e2 : (2 : Int) ^ 1 = 2 := rfl
        omega

theorem CS_all (L : Nat → Int) (x : Int) : ∀ n, (∀ j, j < n → L j = x) → CS L d3 n = 3 * x * n
  | 0, _ => by simp [CS]
  | n + 1, h => by
    simp only [CS]
    rw [CS_all L x n (fun j hj => h j (by omega)), h n (by omega)]
    show _ + x * 3 = _
    rw [Int.natCast_add, Int.mul_add]
    omega

theorem d3_cost (n : Nat) (h1 : 1 ≤ n) (h8 : n ≤ 8) : lerr d3 (2 ^ n) n = 0 ∧ lv d3 (2 ^ n) n = 3 * n * ((2 ^ n : Nat) : Int) := by
  have hM : (2 : Nat) ^ n ≤ 2 ^ 8 := Nat.pow_le_pow_right (by decide) h8
  have hM2 : (2 : Nat) ^ 1 ≤ 2 ^ n := Nat.pow_le_pow_right (by decide) h1
  have e8 : (2 : Nat) ^ 8 = 256 := rfl
  have e1 : (2 : Nat) ^ 1 = 2 := rfl
  have he : lerr d3 (2 ^ n) n = 0 := by
    unfold lerr
    rw [if_pos ⟨d3_ok _ (by omega), by omega, by omega⟩, Int.toNat_natCast, d3_sy, if_neg (by omega)]
  refine ⟨he, ?_⟩
  unfold lv
  rw [if_pos he, Int.toNat_natCast]
  obtain ⟨i, rfl⟩ : ∃ i, n = i + 1 := ⟨n - 1, by omega⟩
  obtain ⟨ys, hy⟩ := has_rw (lvs d3 (2 ^ (i + 1))) i
  have hs := d3_sy (2 ^ (i + 1))
  have gd := gd_many d3 (2 ^ (i + 1)) i (fun j _ => by unfold d3; omega) ys hy (by rw [hs]; omega) (by rw [hs]; omega)
  rw [← gd.cost]
  refine CS_all _ _ _ ?_
  have hg := gd.full (by rw [hs]; omega) (i + 1) (Nat.le_refl _)
  exact (G_ones _ (i + 1) _ (fun j hj => gd.pos j hj (by show (0 : Int) < 3; omega))).2 (by rw [hg, p2_nat])

theorem d3_more (n : Nat) (h1 : 1 ≤ n) (h8 : n ≤ 8) : lerr d3 (2 ^ n + 1) n = 7 := by
  have hM : (2 : Nat) ^ n ≤ 2 ^ 8 := Nat.pow_le_pow_right (by decide) h8
  have e8 : (2 : Nat) ^ 8 = 256 := rfl
  unfold lerr
  rw [if_pos ⟨d3_ok _ (by omega), by omega, by omega⟩, Int.toNat_natCast, d3_sy, if_pos (by omega)]

/-- 'append(v, ys...)', v the call's own or nil, ys nil or not. -/
theorem wpList_append_iv {w : World} {ops : Array Oper} {rest : List Oper} {o : Oper} {a : Act} {Q : Exit → Act → World → Prop} (hgd : o.guard = none) (s x : Operand)
    (ho : o.op = .call { callee := .builtin .append, args := #[s, x], argTypes := #[22, 22] })
    (base n : Nat) (v : Value) (xs : List Value) (hs : a.eval s = v) (hown : w.ownsRow base 3 1 v n xs)
    (ao : Option Addr) (m c : Nat) (M : Nat → Int) (hx : a.eval x = .slice ao m c) (hr : Ri w ao m c M) (hlim : n + m ≤ 1000000000) (hbase : base ≤ w.heap.size)
    (h : ∀ v' w', w'.ownsRow base 3 1 v' (n + m) (xs ++ ivs M m) → w.grownBy w' v.ownBlock → wpList Try.prog ops Q rest (a.put o.dst v') w') :
    wpList Try.prog ops Q (o :: rest) a w := by
  obtain ⟨i0, hi, hz0, hz1, hz2⟩ := info_parts Try.info3
  cases ao with
  | none =>
    obtain ⟨rfl, rfl⟩ := hr.nul rfl
    refine wpList_append_own_none hgd s x 22 ho base 3 i0 1 Try.underlying22 hi _ n _ hs hown hx ?_
    exact h v w (by simpa [vals] using hown) (World.grownBy.refl _ _)
  | some ad =>
    refine wpList_append_own w hgd s x 22 ho base 3 i0 (.int .i64 0) 1 8 Try.underlying22 hi hz0 hz1 hz2 rfl (by decide) _ n _ hs hown ad m c (ivs M m) hx (by rw [vals_len]; omega) (hr.cellsOf ad rfl) (ivs_one _ _)
      (by unfold maxLen; omega) (by omega) hbase ?_
    intro v' w' h1 h2 h3
    exact h v' w' (by simpa using h1) h2

theorem one_int (w : World) (x : Int) : Ri (w.alloc (Obj.cells #[.int .i64 x] 3)) (some ⟨w.heap.size, 0, none⟩) 1 1 (fun _ => x) :=
  Ri.row (World.rowIs_alloc w #[.int .i64 x] 3 (fun _ => .int .i64 x) (fun i hi => by simp at hi; subst hi; rfl))

theorem row_own {w : World} {base B n : Nat} {L : Nat → Int} (h : w.rowIs B 3 n (fun j => .int .i64 (L j))) (hb : base ≤ B) (hn : n ≤ 1000000) : w.ownsRow base 3 1 (.slice (some ⟨B, 0, none⟩) n n) n (ivs L n) := by
  have hbk := rowIs_block h
  refine ⟨by rw [vals_len]; omega, .inr ⟨B, n, _, rfl, hb, hbk, Nat.le_refl _, by unfold maxLen; omega, by rw [vals_size]; omega, ?_⟩⟩
  rw [List.take_of_length_le (by simp [vals])]

theorem ivs_succ (L : Nat → Int) (n : Nat) : ivs L (n + 1) = ivs L n ++ [.int .i64 (L n)] := by simp [vals, List.range_succ]

theorem wider_skip (ao : Option Addr) (n c : Nat) (most k : Int) (w : World) (h : 300 < n ∨ most < 1 ∨ 14 < most ∨ k < 1 ∨ 8 < k) :
    Calls Try.prog 5 #[.slice ao n c, .int .i64 most, .int .i64 k] w fun e w' => e = .returned (.bool true) ∧ Below w.heap.size w w' := by
  by_cases h1 : 300 < n
  · have d1 : decide ((300 : Int) < (n : Int)) = true := by simp; omega
    clear h1
    clear h
    go_enter Try.func5, Try.ntmps5
    go_wp2_with (go_at_call 7; refine (known_any _).mono ?_; rintro e w1 ⟨rfl, hb⟩)
    go_ret
    exact ⟨rfl, hb⟩
  have d1 : decide ((300 : Int) < (n : Int)) = false := by simp; omega
  by_cases h2 : most < 1
  · have d2 : decide (most < 1) = true := by simp; omega
    clear h1 h2
    clear h
    go_enter Try.func5, Try.ntmps5
    go_wp2_with (go_at_call 7; refine (known_any _).mono ?_; rintro e w1 ⟨rfl, hb⟩)
    go_ret
    exact ⟨rfl, hb⟩
  have d2 : decide (most < 1) = false := by simp; omega
  by_cases h3 : 14 < most
  · have d3 : decide (14 < most) = true := by simp; omega
    clear h1 h2 h3
    clear h
    go_enter Try.func5, Try.ntmps5
    go_wp2_with (go_at_call 7; refine (known_any _).mono ?_; rintro e w1 ⟨rfl, hb⟩)
    go_ret
    exact ⟨rfl, hb⟩
  have d3 : decide (14 < most) = false := by simp; omega
  by_cases h4 : k < 1
  · have d4 : decide (k < 1) = true := by simp; omega
    clear h1 h2 h3 h4
    clear h
    go_enter Try.func5, Try.ntmps5
    go_wp2_with (go_at_call 7; refine (known_any _).mono ?_; rintro e w1 ⟨rfl, hb⟩)
    go_ret
    exact ⟨rfl, hb⟩
  have d4 : decide (k < 1) = false := by simp; omega
  have d5 : decide (8 < k) = true := by simp; omega
  clear h1 h2 h3 h4
  clear h
  go_enter Try.func5, Try.ntmps5
  go_wp2_with (go_at_call 7; refine (known_any _).mono ?_; rintro e w1 ⟨rfl, hb⟩)
  go_ret
  exact ⟨rfl, hb⟩

set_option maxRecDepth 100000 in
set_option maxHeartbeats 8000000 in
theorem wider_go (ao : Option Addr) (n c m k : Nat) (D : Nat → Int) (w : World) (h : Ri w ao n c D) (hn : n ≤ 300) (h1 : 1 ≤ m) (h14 : m ≤ 14) (k1 : 1 ≤ k) (k8 : k ≤ 8) :
    Calls Try.prog 5 #[.slice ao n c, .int .i64 m, .int .i64 k] w fun e w' => e = .returned (.bool true) ∧ Below w.heap.size w w' := by
  have g1 : decide ((300 : Int) < (n : Int)) = false := by simp; omega
  have g2 : decide ((m : Int) < 1) = false := by simp; omega
  have g3 : decide ((14 : Int) < (m : Int)) = false := by simp; omega
  have g4 : decide ((k : Int) < 1) = false := by simp; omega
  have g5 : decide ((8 : Int) < (k : Int)) = false := by simp; omega
  have HR : Hid (Ri w ao n c D) := h
  obtain ⟨A, hA⟩ : ∃ A, A = lv D n m := ⟨_, rfl⟩
  obtain ⟨E, hE⟩ : ∃ E, E = lerr D n m := ⟨_, rfl⟩
  obtain ⟨A2, hA2⟩ : ∃ A, A = lv D n ((m : Int) + 1) := ⟨_, rfl⟩
  obtain ⟨E2, hE2⟩ : ∃ E, E = lerr D n ((m : Int) + 1) := ⟨_, rfl⟩
  have C1 : Hid (∀ w, Ri w ao n c D → Calls Try.prog 9 #[.slice ao n c, .int .i64 m] w fun e w' => e = .returned (.tuple #[.int .i64 A, .int .i64 E]) ∧ Below w.heap.size w w') := fun w h => by rw [hA, hE]; exact least_any ao n c D m w h
  have C2 : Hid (∀ w, Ri w ao n c D → Calls Try.prog 9 #[.slice ao n c, .int .i64 ((m : Int) + 1)] w fun e w' => e = .returned (.tuple #[.int .i64 A2, .int .i64 E2]) ∧ Below w.heap.size w w') := fun w h => by rw [hA2, hE2]; exact least_any ao n c D _ w h
  have hw : E = 0 → E2 = 0 ∧ A2 ≤ A := fun e => by rw [hE2, hA2, hA]; exact wider D n m h1 h14 (by rw [← hE]; exact e)
  clear h hA hE hA2 hE2
  go_enter Try.func5, Try.ntmps5
  go_wp2_with fail
  refine (known_any _).mono ?_
  rintro e w1 ⟨rfl, b1⟩
  have B1 : Hid (Below w.heap.size w w1) := b1
  clear b1
  go_wp2_with fail
  refine (C1.out w1 (HR.out.keep B1.out)).mono ?_
  rintro e w2 ⟨rfl, b2⟩
  have B2 : Hid (Below w.heap.size w w2) := B1.out.trans (b2.mono B1.out.size)
  clear b2 B1
  go_wp2_with fail
  refine (C2.out w2 (HR.out.keep B2.out)).mono ?_
  rintro e w3 ⟨rfl, b3⟩
  have B3 : Hid (Below w.heap.size w w3) := B2.out.trans (b3.mono B2.out.size)
  clear b3 B2
  obtain ⟨i0, hi, hz0, hz1, hz2⟩ := info_parts Try.info3
  obtain ⟨M, hM⟩ : ∃ M : Nat, M = 2 ^ k := ⟨_, rfl⟩
  have hM8 : (2 : Nat) ^ k ≤ 2 ^ 8 := Nat.pow_le_pow_right (by decide) k8
  have hM1 : (2 : Nat) ^ 1 ≤ 2 ^ k := Nat.pow_le_pow_right (by decide) k1
  have e8 : (2 : Nat) ^ 8 = 256 := rfl
  have e1 : (2 : Nat) ^ 1 = 2 := rfl
  have hMb : 2 ≤ M ∧ M ≤ 256 := by omega
  have hp : (2 : Int) ^ k = (M : Int) := by rw [hM, p2_nat]
  have hwM : wrap64 ((2 : Int) ^ k) = (M : Int) := by rw [hp]; exact IntWalk.wrap64_in _ (by omega)
  have dc := d3_cost k k1 k8
  have dm := d3_more k k1 k8
  rw [← hM] at dc dm
  have C3 : Hid (∀ w, Ri w (some ⟨w3.heap.size, 0, none⟩) M M d3 → Calls Try.prog 9 #[.slice (some ⟨w3.heap.size, 0, none⟩) M M, .int .i64 k] w fun e w' => e = .returned (.tuple #[.int .i64 (3 * (k : Int) * (M : Int)), .int .i64 0]) ∧ Below w.heap.size w w') := fun w h => by
    have := least_any _ M M d3 k w h
    rwa [dc.1, dc.2] at this
  have C4 : Hid (∀ w ao c, Ri w ao (M + 1) c d3 → Calls Try.prog 9 #[.slice ao (M + 1) c, .int .i64 k] w fun e w' => ∃ x, e = .returned (.tuple #[.int .i64 x, .int .i64 7]) ∧ Below w.heap.size w w') := fun w ao c h => by
    have := least_any ao (M + 1) c d3 k w h
    rw [dm] at this
    exact this.mono (fun e w' hh => ⟨_, hh.1, hh.2⟩)
  have hm1 : 3 * (k : Int) * (M : Int) ≤ 24 * 256 := Int.mul_le_mul (by omega) (by omega) (by omega) (by omega)
  have hm0 : 0 ≤ 3 * (k : Int) * (M : Int) := Int.mul_nonneg (by omega) (by omega)
  clear hM hM8 hM1 e8 e1 hp dc dm
  by_cases hE : E = 0
  · obtain ⟨e2, le2⟩ := hw hE
    subst hE e2
    have q1 : decide (A < A2) = false := by simp; omega
    clear hw le2
    have hmk := run_make_row (P := Try.prog) 22 3 i0 (.int .i64 0) Try.underlying22 hi hz0 hz1 rfl .i64 .i64 M (by rw [hz2]; omega) (by omega) w3
    go_wp2_with fail
    clear hmk
    have R0 : Hid ((w3.alloc (.cells (madeCells #[.int .i64 0] M) 3)).rowIs w3.heap.size 3 M (fun j => .int .i64 (if j < 0 then 3 else 0))) := (made_row w3 M).congr (fun j _ => by rw [if_neg (by omega)])
    obtain ⟨B, hB⟩ : ∃ B, B = w3.heap.size := ⟨_, rfl⟩
    have B4 : Hid (Below w.heap.size w (w3.alloc (.cells (madeCells #[.int .i64 0] M) 3))) := B3.out.alloc B3.out.size _
    rw [← hB] at R0 C3 ⊢
    have HB : Hid (w.heap.size ≤ B) := by rw [hB]; exact B3.out.size
    clear hB B3 hi hz0 hz1 hz2
    go_loopw [12] (fun iv wr => ∃ i : Nat, iv = .int .i64 i ∧ i ≤ M ∧ Hid (wr.rowIs B 3 M (fun j => .int .i64 (if j < i then 3 else 0))) ∧ Hid (Below w.heap.size w wr)) (fun iv _ => M - (intOf iv).toNat)
    case atStart => exact ⟨0, rfl, by omega, R0, B4⟩
    case round =>
      clear R0 B4
      obtain ⟨i, rfl, hi, RR', BB⟩ := hrel
      by_cases hlt : i < M
      · have ci := RR'.out.cell (i := i) hlt
        have zi := RR'.out.frozen i
        have R1 : Hid ((wr.setCell ⟨B, i, none⟩ (.int .i64 3)).rowIs B 3 M (fun j => .int .i64 (if j < i + 1 then 3 else 0))) := (RR'.out.set i _).congr (fun j _ => by
          by_cases e : j = i
          · rw [if_pos e, if_pos (by omega)]
          · rw [if_neg e]
            by_cases e2 : j < i
            · rw [if_pos e2, if_pos (by omega)]
            · rw [if_neg e2, if_neg (by omega)])
        have B1 : Hid (Below w.heap.size w (wr.setCell ⟨B, i, none⟩ (.int .i64 3))) := BB.out.setCell HB.out _
        clear RR' BB
        go_wp2
        go_roundw
        case rel => exact ⟨i + 1, by go_num, by omega, R1, B1⟩
        case measure => simp [intOf]; omega
      · obtain rfl : i = M := by omega
        have RI : Hid (wr.rowIs B 3 i (fun j => .int .i64 (d3 j))) := RR'.out.congr (fun j hj => by rw [if_pos hj]; rfl)
        clear RR'
        go_wp2_with fail
        refine (C3.out wr (Ri.row RI.out)).mono ?_
        rintro e w5 ⟨rfl, b5⟩
        have RI5 : Hid (w5.rowIs B 3 i (fun j => .int .i64 (d3 j))) := RI.out.of_block (b5.block B RI.out.lt)
        have B5 : Hid (Below w.heap.size w w5) := BB.out.trans (b5.mono BB.out.size)
        have o5 : (w5.alloc (Obj.cells #[.int .i64 3] 3)).ownsRow w.heap.size 3 1 (.slice (some ⟨B, 0, none⟩) i i) i (ivs d3 i) := ownsRow_fr (row_own RI5.out HB.out (by omega)) ((Fr.refl (fun _ => False) _).alloc _) (fun _ _ h => h)
        have ri5 := one_int w5 3
        have hs5 : w.heap.size ≤ (w5.alloc (Obj.cells #[.int .i64 3] 3)).heap.size := by have := B5.out.size; simp; omega
        clear b5 RI BB C3
        go_wp2_with (refine wpList_append_iv rfl _ _ rfl w.heap.size i _ (ivs d3 i) rfl o5 _ 1 1 (fun _ => 3) rfl ri5 (by omega) hs5 ?_; intro v6 w6 o6 g6)
        have o6' : w6.ownsRow w.heap.size 3 1 v6 (i + 1) (ivs d3 (i + 1)) := by rw [ivs_succ]; exact o6
        have B6 : Hid (Below w.heap.size w w6) := (B5.out.alloc B5.out.size _).grown g6 hs5 (fun q hq => by cases hq; exact HB.out)
        obtain ⟨ao6, c6, rfl, r6, _⟩ := own_ri o6'
        have R6 : Hid (Ri w6 ao6 (i + 1) c6 d3) := r6
        clear o6 o6' g6 r6 o5 ri5 hs5 B5 RI5
        go_wp2_with fail
        refine (C4.out w6 ao6 c6 R6.out).mono ?_
        rintro e w7 ⟨x7, rfl, b7⟩
        have B7 : Hid (Below w.heap.size w w7) := B6.out.trans (b7.mono B6.out.size)
        clear b7 B6 R6 C4
        go_wp2_with fail
        go_ret
        exact ⟨rfl, B7.out⟩
  · have q1 : (E == 0) = false := by simp [hE]
    clear hw hE
    have hmk := run_make_row (P := Try.prog) 22 3 i0 (.int .i64 0) Try.underlying22 hi hz0 hz1 rfl .i64 .i64 M (by rw [hz2]; omega) (by omega) w3
    go_wp2_with fail
    clear hmk
    have R0 : Hid ((w3.alloc (.cells (madeCells #[.int .i64 0] M) 3)).rowIs w3.heap.size 3 M (fun j => .int .i64 (if j < 0 then 3 else 0))) := (made_row w3 M).congr (fun j _ => by rw [if_neg (by omega)])
    obtain ⟨B, hB⟩ : ∃ B, B = w3.heap.size := ⟨_, rfl⟩
    have B4 : Hid (Below w.heap.size w (w3.alloc (.cells (madeCells #[.int .i64 0] M) 3))) := B3.out.alloc B3.out.size _
    rw [← hB] at R0 C3 ⊢
    have HB : Hid (w.heap.size ≤ B) := by rw [hB]; exact B3.out.size
    clear hB B3 hi hz0 hz1 hz2
    go_loopw [12] (fun iv wr => ∃ i : Nat, iv = .int .i64 i ∧ i ≤ M ∧ Hid (wr.rowIs B 3 M (fun j => .int .i64 (if j < i then 3 else 0))) ∧ Hid (Below w.heap.size w wr)) (fun iv _ => M - (intOf iv).toNat)
    case atStart => exact ⟨0, rfl, by omega, R0, B4⟩
    case round =>
      clear R0 B4
      obtain ⟨i, rfl, hi, RR', BB⟩ := hrel
      by_cases hlt : i < M
      · have ci := RR'.out.cell (i := i) hlt
        have zi := RR'.out.frozen i
        have R1 : Hid ((wr.setCell ⟨B, i, none⟩ (.int .i64 3)).rowIs B 3 M (fun j => .int .i64 (if j < i + 1 then 3 else 0))) := (RR'.out.set i _).congr (fun j _ => by
          by_cases e : j = i
          · rw [if_pos e, if_pos (by omega)]
          · rw [if_neg e]
            by_cases e2 : j < i
            · rw [if_pos e2, if_pos (by omega)]
            · rw [if_neg e2, if_neg (by omega)])
        have B1 : Hid (Below w.heap.size w (wr.setCell ⟨B, i, none⟩ (.int .i64 3))) := BB.out.setCell HB.out _
        clear RR' BB
        go_wp2
        go_roundw
        case rel => exact ⟨i + 1, by go_num, by omega, R1, B1⟩
        case measure => simp [intOf]; omega
      · obtain rfl : i = M := by omega
        have RI : Hid (wr.rowIs B 3 i (fun j => .int .i64 (d3 j))) := RR'.out.congr (fun j hj => by rw [if_pos hj]; rfl)
        clear RR'
        go_wp2_with fail
        refine (C3.out wr (Ri.row RI.out)).mono ?_
        rintro e w5 ⟨rfl, b5⟩
        have RI5 : Hid (w5.rowIs B 3 i (fun j => .int .i64 (d3 j))) := RI.out.of_block (b5.block B RI.out.lt)
        have B5 : Hid (Below w.heap.size w w5) := BB.out.trans (b5.mono BB.out.size)
        have o5 : (w5.alloc (Obj.cells #[.int .i64 3] 3)).ownsRow w.heap.size 3 1 (.slice (some ⟨B, 0, none⟩) i i) i (ivs d3 i) := ownsRow_fr (row_own RI5.out HB.out (by omega)) ((Fr.refl (fun _ => False) _).alloc _) (fun _ _ h => h)
        have ri5 := one_int w5 3
        have hs5 : w.heap.size ≤ (w5.alloc (Obj.cells #[.int .i64 3] 3)).heap.size := by have := B5.out.size; simp; omega
        clear b5 RI BB C3
        go_wp2_with (refine wpList_append_iv rfl _ _ rfl w.heap.size i _ (ivs d3 i) rfl o5 _ 1 1 (fun _ => 3) rfl ri5 (by omega) hs5 ?_; intro v6 w6 o6 g6)
        have o6' : w6.ownsRow w.heap.size 3 1 v6 (i + 1) (ivs d3 (i + 1)) := by rw [ivs_succ]; exact o6
        have B6 : Hid (Below w.heap.size w w6) := (B5.out.alloc B5.out.size _).grown g6 hs5 (fun q hq => by cases hq; exact HB.out)
        obtain ⟨ao6, c6, rfl, r6, _⟩ := own_ri o6'
        have R6 : Hid (Ri w6 ao6 (i + 1) c6 d3) := r6
        clear o6 o6' g6 r6 o5 ri5 hs5 B5 RI5
        go_wp2_with fail
        refine (C4.out w6 ao6 c6 R6.out).mono ?_
        rintro e w7 ⟨x7, rfl, b7⟩
        have B7 : Hid (Below w.heap.size w w7) := B6.out.trans (b7.mono B6.out.size)
        clear b7 B6 R6 C4
        go_wp2_with fail
        go_ret
        exact ⟨rfl, B7.out⟩

theorem wider_any (ao : Option Addr) (n c : Nat) (most k : Int) (D : Nat → Int) (w : World) (h : Ri w ao n c D) :
    Calls Try.prog 5 #[.slice ao n c, .int .i64 most, .int .i64 k] w fun e w' => e = .returned (.bool true) ∧ Below w.heap.size w w' := by
  by_cases hs : 300 < n ∨ most < 1 ∨ 14 < most ∨ k < 1 ∨ 8 < k
  · exact wider_skip ao n c most k w hs
  · obtain ⟨m, rfl⟩ : ∃ m : Nat, most = m := ⟨most.toNat, by omega⟩
    obtain ⟨k', rfl⟩ : ∃ m : Nat, k = m := ⟨k.toNat, by omega⟩
    exact wider_go ao n c m k' D w h (by omega) (by omega) (by omega) (by omega) (by omega)

end Go.Proofs.Ytkclaikofdolmaa
