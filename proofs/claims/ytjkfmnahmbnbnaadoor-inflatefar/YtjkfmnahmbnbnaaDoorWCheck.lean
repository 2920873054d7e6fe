/- checked, Check. -/
import Derived.Test.YtjkfmnahmbnbnaaDoorWIndex
namespace Go.Proofs.YtjkfmnahmbnbnaaDoor
open Go.RowKit

theorem results_row3 {P : Program} {fn : Func} {p u v : Tmp} {ty : TypeId} (h : fn.results = #[.cell p ty, .tmp u, .tmp v]) (tmps : Array Value) {w : World} {b t n : Nat} {f : Nat → Value} {d : TypeDesc} (hp : tmps.getD p undef = .pointer (some ⟨b, 0, none⟩)) (hr : w.rowIs b t n f)
    (hu : P.underlying ty = some d) (hd : d.isRow = true) (hi : (P.info? ty).map (·.size) = some n) : (results fn tmps).run P w = .ok (.tuple #[row f n, tmps.getD u undef, tmps.getD v undef]) w := by
  have hp' : tmps[p]?.getD undef = .pointer (some ⟨b, 0, none⟩) := by simpa using hp
  have hl := load_all (P := P) ty d hr hu hd hi
  simp [results, h, hp', asAddr, hl]

theorem zinfo64 : (Tryd.prog.info? 93).map (fun i => (i.zero, i.size)) = some (some (.agg (Array.replicate 16 (Value.int .i64 0))), 16) := by kernel_rfl
theorem size64 : (Tryd.prog.info? 93).map (·.size) = some 16 := (zero_of_info zinfo64).2

/-- Sixteen numbers, by value. -/
abbrev tal (f : Nat → Int) : Value := row (fun j => .int .i64 (f j)) 16

theorem zero64 (w : World) : (zeroValue 93).run Tryd.prog w = .ok (tal (fun _ => 0)) w := (zero_of_info zinfo64).1 w

theorem tal_congr (f g : Nat → Int) (h : ∀ i, i < 16 → f i = g i) : tal f = tal g := row_congr _ _ 16 (fun i hi => by rw [h i hi])

theorem rep_row (w : World) : (w.alloc (.cells (Array.replicate 16 (Value.int .i64 0)) 93)).rowIs w.heap.size 93 16 (fun _ => .int .i64 0) := by
  have h := World.rowIs_alloc w (Array.replicate 16 (Value.int .i64 0)) 93 (fun _ => .int .i64 0) (fun i hi => by simp at hi; simp [hi])
  simpa using h

theorem C_none (L : Nat → Int) (j : Nat) : C L 0 j = 0 := by cases j <;> rfl

theorem C_put (L : Nat → Int) (k x : Nat) (h : L k = x) (hx : 0 < x) (j : Nat) : C L (k + 1) j = if j = x then C L k x + 1 else C L k j := by
  cases j with
  | zero => rw [if_neg (by omega)]; rfl
  | succ j =>
    simp only [C, cn]
    by_cases e : j + 1 = x
    · subst e
      rw [if_pos rfl, if_pos (by rw [h])]
    · rw [if_neg e, if_neg (by omega), Int.add_zero]

theorem C_same (L : Nat → Int) (k : Nat) (h : L k = 0) (j : Nat) : C L (k + 1) j = C L k j := by
  cases j with
  | zero => rfl
  | succ j =>
    simp only [C, cn]
    rw [if_neg (by omega), Int.add_zero]

theorem G_put (L : Nat → Int) (k x : Nat) (h : L k = x) (hx : 0 < x) (h15 : x ≤ 15) : G L 15 (k + 1) = G L 15 k + 2 ^ (15 - x) := by
  simp only [G]
  rw [if_pos (by omega), h, Int.toNat_natCast]

theorem G_same (L : Nat → Int) (k : Nat) (h : L k = 0) : G L 15 (k + 1) = G L 15 k := by
  simp only [G]
  rw [if_neg (by omega), Int.add_zero]

theorem G_bound (L : Nat → Int) (k : Nat) : 0 ≤ G L 15 k ∧ G L 15 k ≤ 32768 * k := by
  refine ⟨G_nn _ _ _, ?_⟩
  induction k with
  | zero => simp [G]
  | succ k ih =>
    simp only [G]
    have h1 := p2_le (15 - (L k).toNat) 15 (by omega)
    have h2 : (2 : Int) ^ 15 = 32768 := rfl
    split <;> omega

theorem shr_full (x : Nat) (h : x ≤ 15) : (32768 : Int) / 2 ^ x = 2 ^ (15 - x) := by
  have h1 : (32768 : Int) = 2 ^ x * 2 ^ (15 - x) := by rw [← Int.pow_add, show x + (15 - x) = 15 by omega]; rfl
  rw [h1, Int.mul_ediv_cancel_left _ (Int.ne_of_gt (p2 x))]

/-- What checked answers of lengths that may be. -/
def ckv (L : Nat → Int) (n : Nat) : Value := if 32768 < G L 15 n then .tuple #[tal (fun _ => 0), .bool false, .int .i64 2] else .tuple #[tal (C L n), .bool (G L 15 n == 32768), .int .i64 0]

set_option maxRecDepth 100000 in
set_option maxHeartbeats 1000000 in
theorem checked_any (ao : Option Addr) (n c : Nat) (L : Nat → Int) (w : World) (h : Ri w ao n c L) (hn : n ≤ 288) (hL : ∀ j, j < n → Lm (L j)) :
    Calls Tryd.prog 48 #[.slice ao n c] w fun e w' => e = .returned (ckv L n) ∧ Below w.heap.size w w' := by
  have hd0 : decide ((288 : Int) < (n : Int)) = false := by simp; omega
  have z64 := zero64
  go_enter Tryd.func48, Tryd.ntmps48
  have h1 := h.keep ((Below.refl _ _).alloc (Nat.le_refl _) (Obj.cells (Array.replicate 16 (Value.int .i64 0)) 93) : Below w.heap.size w (w.alloc (.cells (Array.replicate 16 (Value.int .i64 0)) 93)))
  go_wp2_with (go_at_call 60; refine (contains_no ao n c L _ h1 (by omega) hL).mono ?_; rintro e w1 ⟨rfl, hw⟩; subst w1)
  obtain ⟨B, hB⟩ : ∃ B, B = w.heap.size := ⟨_, rfl⟩
  rw [← hB]
  have r0 : (w.alloc (.cells (Array.replicate 16 (Value.int .i64 0)) 93)).rowIs B 93 16 (fun j => .int .i64 (C L 0 j)) := by rw [hB]; exact (rep_row w).congr (fun j _ => by rw [C_none])
  have HB : Hid (B = w.heap.size) := hB
  clear hB
  have b0 : Below w.heap.size w (w.alloc (.cells (Array.replicate 16 (Value.int .i64 0)) 93)) := (Below.refl _ _).alloc (Nat.le_refl _) _
  go_loopw [5, 7, 18] (fun tk _ i wr => ∃ k : Nat, k ≤ n ∧ i = .int .i64 k ∧ tk = .int .i64 (G L 15 k) ∧ wr.rowIs B 93 16 (fun j => .int .i64 (C L k j)) ∧ Below w.heap.size w wr) (fun _ _ i _ => n - (intOf i).toNat)
  case atStart => exact ⟨0, by omega, rfl, rfl, r0, b0⟩
  case round =>
    obtain ⟨k, hk, rfl, rfl, hr, hb⟩ := hrel
    clear r0 b0 h1 hd0
    have hg := G_bound L k
    by_cases hlt : k < n
    · obtain ⟨b, off, rfl, hcell⟩ := (h.keep hb).plain (by omega)
      have hck := hcell k hlt
      obtain ⟨x, hx⟩ := Int.eq_ofNat_of_zero_le (hL k hlt).1
      have hx15 : x ≤ 15 := by have := (hL k hlt).2; omega
      by_cases hx0 : x = 0
      · have e1 := G_same L k (by omega)
        have hr' : wr.rowIs B 93 16 (fun j => .int .i64 (C L (k + 1) j)) := hr.congr (fun j _ => by rw [C_same L k (by omega)])
        have HG : Hid (G L 15 (k + 1) = G L 15 k) := e1
        rw [hx] at hck
        subst hx0
        clear hcell h hL hr e1 hx
        go_wp2
        go_roundw
        case rel => exact ⟨k + 1, by omega, by go_num, by rw [HG.out], hr', hb⟩
        case measure => simp [intOf]; omega
      · have HG : Hid (G L 15 (k + 1) = G L 15 k + 2 ^ (15 - x)) := G_put L k x hx (by omega) hx15
        have hcx := hr.cell (i := x) (by omega)
        have hfx := hr.frozen x
        have hcb := C_nn L k x
        have e2 := shr_full x hx15
        have e3 := p2_le (15 - x) 15 (by omega)
        have e4 := p2 (15 - x)
        have e5 : (2 : Int) ^ 15 = 32768 := rfl
        have hr' : (wr.setCell ⟨B, x, none⟩ (.int .i64 (C L k x + 1))).rowIs B 93 16 (fun j => .int .i64 (C L (k + 1) j)) := (hr.set x _).congr (fun j _ => by
          rw [C_put L k x hx (by omega)]
          by_cases e : j = x
          · rw [if_pos e, if_pos e]
          · rw [if_neg e, if_neg e])
        have hb' : Below w.heap.size w (wr.setCell ⟨B, x, none⟩ (.int .i64 (C L k x + 1))) := hb.setCell (by simp [HB.out]) _
        rw [hx] at hck
        have hxp : (0 : Int) < (x : Int) := by omega
        obtain ⟨q, hq⟩ : ∃ q : Int, q = 2 ^ (15 - x) := ⟨_, rfl⟩
        rw [← hq] at e2 e3 e4
        have hq2 : q ≤ 32768 := by omega
        have HQ : Hid (q = 2 ^ (15 - x)) := hq
        clear hcell h hL hr hx hb e3 e5 hq
        go_wp2
        go_roundw
        case rel => exact ⟨k + 1, by omega, by go_num, by rw [HG.out, ← HQ.out], hr', hb'⟩
        case measure => simp [intOf]; omega
    · obtain rfl : k = n := by omega
      by_cases hgt : 32768 < G L 15 k
      · go_wp2_with (refine wpList_st rfl 93 _ _ rfl B rfl (fun _ => .int .i64 0) rfl hr size64 (fun j => rfl) ?_; intro w3 h3 f3)
        refine bodyPost_ret (results_row3 rfl _ rfl h3 Tryd.underlying93 rfl size64) rfl ⟨by rw [ckv, if_pos hgt]; rfl, ?_⟩
        exact hb.trans (f3.below _ hb.size (fun i hi e => by have := HB.out; omega))
      · go_wp2_with (first
          | (refine wpList_ld0 rfl 93 _ rfl B rfl _ hr 16 (by omega) Tryd.underlying93 rfl size64 ?_)
          | (refine wpList_st rfl 93 _ _ rfl B rfl (fun j => .int .i64 (C L k j)) rfl hr size64 (fun j => rfl) ?_; intro w3 h3 f3))
        refine bodyPost_ret (results_row3 rfl _ rfl h3 Tryd.underlying93 rfl size64) rfl ⟨by rw [ckv, if_neg (by omega)]; rfl, ?_⟩
        exact hb.trans (f3.below _ hb.size (fun i hi e => by have := HB.out; omega))

set_option maxRecDepth 100000 in
theorem checked_arg (ao : Option Addr) (n c : Nat) (L : Nat → Int) (w : World) (h : Ri w ao n c L) (hn : 288 < n ∨ ¬ ∀ j, j < n → Lm (L j)) :
    Calls Tryd.prog 48 #[.slice ao n c] w fun e w' => e = .returned (.tuple #[tal (fun _ => 0), .bool false, .int .i64 1]) ∧ Below w.heap.size w w' := by
  have z64 := zero64
  have h1 := h.keep ((Below.refl _ _).alloc (Nat.le_refl _) (Obj.cells (Array.replicate 16 (Value.int .i64 0)) 93) : Below w.heap.size w (w.alloc (.cells (Array.replicate 16 (Value.int .i64 0)) 93)))
  have r0 := rep_row w
  have b0 : Below w.heap.size w (w.alloc (.cells (Array.replicate 16 (Value.int .i64 0)) 93)) := (Below.refl _ _).alloc (Nat.le_refl _) _
  by_cases h288 : 288 < n
  · have hd0 : decide ((288 : Int) < (n : Int)) = true := by simp; omega
    clear hn h288 h h1
    go_enter Tryd.func48, Tryd.ntmps48
    go_wp2_with (refine wpList_st rfl 93 _ _ rfl w.heap.size rfl (fun _ => .int .i64 0) rfl r0 size64 (fun j => rfl) ?_; intro w3 h3 f3)
    refine bodyPost_ret (results_row3 rfl _ rfl h3 Tryd.underlying93 rfl size64) rfl ⟨rfl, ?_⟩
    exact b0.trans (f3.below _ b0.size (fun i hi e => by omega))
  · have hd0 : decide ((288 : Int) < (n : Int)) = false := by simp; omega
    have hq : ¬ ∀ j, j < n → Lm (L j) := by
      rcases hn with h' | h'
      · exact absurd h' h288
      · exact h'
    clear hn h
    go_enter Tryd.func48, Tryd.ntmps48
    go_wp2_with (first
      | (go_at_call 60; refine (contains_yes ao n c L _ h1 (by omega) hq).mono ?_; rintro e w1 ⟨rfl, hw⟩; subst w1)
      | (refine wpList_st rfl 93 _ _ rfl w.heap.size rfl (fun _ => .int .i64 0) rfl r0 size64 (fun j => rfl) ?_; intro w3 h3 f3))
    refine bodyPost_ret (results_row3 rfl _ rfl h3 Tryd.underlying93 rfl size64) rfl ⟨rfl, ?_⟩
    exact b0.trans (f3.below _ b0.size (fun i hi e => by omega))

end Go.Proofs.YtjkfmnahmbnbnaaDoor
