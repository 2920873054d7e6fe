/- The document's New. -/
import Derived.Test.YtjipohcacimkmaaXCodes
import Derived.Test.YtjipohcacimkmaaWNews
namespace Go.Proofs.Ytjipohcacimkmaa
open Go.RowKit

/-- 'append(v, ys...)', v the call's own or nil, ys nil or not. -/
theorem wpList_append_iv {w : World} {ops : Array Oper} {rest : List Oper} {o : Oper} {a : Act} {Q : Exit → Act → World → Prop} (hgd : o.guard = none) (s x : Operand)
    (ho : o.op = .call { callee := .builtin .append, args := #[s, x], argTypes := #[22, 22] })
    (base n : Nat) (v : Value) (xs : List Value) (hs : a.eval s = v) (hown : w.ownsRow base 3 1 v n xs)
    (ao : Option Addr) (m c : Nat) (M : Nat → Int) (hx : a.eval x = .slice ao m c) (hr : Ri w ao m c M) (hlim : n + m ≤ 1000000000) (hbase : base ≤ w.heap.size)
    (h : ∀ v' w', w'.ownsRow base 3 1 v' (n + m) (xs ++ ivs M m) → w.grownBy w' v.ownBlock → wpList Try.prog ops Q rest (a.put o.dst v') w') :
    wpList Try.prog ops Q (o :: rest) a w := by
  obtain ⟨i0, hi, hz0, hz1, hz2⟩ := info_parts Try.info3
  cases ao with
  | none =>
    obtain ⟨rfl, rfl⟩ := hr.nul rfl
    refine wpList_append_own_none hgd s x 22 ho base 3 i0 1 Try.underlying22 hi _ n _ hs hown hx ?_
    exact h v w (by simpa [vals] using hown) (World.grownBy.refl _ _)
  | some ad =>
    refine wpList_append_own w hgd s x 22 ho base 3 i0 (.int .i64 0) 1 8 Try.underlying22 hi hz0 hz1 hz2 rfl (by decide) _ n _ hs hown ad m c (ivs M m) hx (by rw [vals_len]; omega) (hr.cellsOf ad rfl) (ivs_one _ _)
      (by unfold maxLen; omega) (by omega) hbase ?_
    intro v' w' h1 h2 h3
    exact h v' w' (by simpa using h1) h2

theorem none_ints (w : World) (base : Nat) (hb : base ≤ w.heap.size) : (w.alloc (.cells #[] 3)).ownsRow base 3 1 (.slice (some ⟨w.heap.size, 0, none⟩) 0 0) 0 [] :=
  World.ownsRow_lit (base := base) (e := 3) (size := 1) w #[] 0 hb (by unfold maxLen; omega) rfl

/-- The cells of the document's code. -/
def xcells (ls cs : Value) : Nat → Value
  | 0 => ls
  | _ => cs

/-- Block Y is the document's code of these n lengths; all of it lies below K. -/
structure IsX (w : World) (Y K : Nat) (L : Nat → Int) (n : Nat) (la : Option Addr) (lc cg : Nat) : Prop where
  row : w.rowIs Y 75 2 (xcells (.slice la n lc) (.slice (some ⟨cg, 0, none⟩) n n))
  rl : Ri w la n lc L
  rc : w.rowIs cg 3 n (fun j => .int .i64 (cd L n j))
  bl : ∀ ad, la = some ad → ad.block < K
  bY : Y < K
  bc : cg < K
  kw : K ≤ w.heap.size
  ok : er L n = 0

theorem IsX.keep {w w' : World} {Y K : Nat} {L : Nat → Int} {n : Nat} {la : Option Addr} {lc cg : Nat} (h : IsX w Y K L n la lc cg) (hb : Below K w w') : IsX w' Y K L n la lc cg :=
  ⟨h.row.of_block (hb.block _ h.bY), ⟨h.rl.le, h.rl.nul, fun ad had j hj => by
    have hbk : (ad.add j).block = ad.block := by unfold Addr.add; split <;> rfl
    rw [hb.cell (by rw [hbk]; exact h.bl ad had)]
    exact h.rl.cells ad had j hj⟩, h.rc.of_block (hb.block _ h.bc), h.bl, h.bY, h.bc, Nat.le_trans h.kw hb.size, h.ok⟩

theorem xnew_err (ao : Option Addr) (n c : Nat) (L : Nat → Int) (half : Bool) (w : World) (h : Ri w ao n c L) (he : er L n ≠ 0) :
    Calls Try.prog 15 #[.slice ao n c, .bool half] w fun e w' => e = .returned (.tuple #[.pointer none, .int .i64 (er L n)]) ∧ w' = w := by
  have q1 : (er L n == 0) = false := by simp [he]
  have hc := xcheck_any ao n c L w h
  generalize er L n = x at *
  clear he
  go_enter Try.func15, Try.ntmps15
  go_wp2_with (go_at_call 11; refine hc.mono ?_; rintro e w1 ⟨rfl, hw⟩; subst w1)
  go_ret2
  exact ⟨rfl, rfl⟩

theorem SM_pos (L : Nat → Int) (k : Nat) : SM L (k + 1) = SM L k + L k := rfl

set_option maxRecDepth 100000 in
set_option maxHeartbeats 2000000 in
theorem xnew_part (ao : Option Addr) (n c : Nat) (L : Nat → Int) (half : Bool) (w : World) (h : Ri w ao n c L) (he : er L n = 0) (hfu : fu L n = false) (hh : half = false ∨ (half = true ∧ ¬ SM L n ≤ 1)) :
    Calls Try.prog 15 #[.slice ao n c, .bool half] w fun e w' => e = .returned (.tuple #[.pointer none, .int .i64 2]) ∧ w' = w := by
  obtain ⟨h288, hL, hf⟩ := er_zero L n he
  have hc := xcheck_any ao n c L w h
  rw [he, hfu] at hc
  have HL : Hid (∀ j, j < n → Lm (L j)) := hL
  have HH : Hid (half = false ∨ (half = true ∧ ¬ SM L n ≤ 1)) := hh
  clear hL hf hh
  go_enter Try.func15, Try.ntmps15
  go_wp2_with (go_at_call 11; refine hc.mono ?_; rintro e w1 ⟨rfl, hw⟩; subst w1)
  clear hc
  go_loop [8, 9] (fun sv i => ∃ k : Nat, k ≤ n ∧ i = .int .i64 k ∧ sv = .int .i64 (SM L k)) (fun _ i => n - (intOf i).toNat)
  case atStart => exact ⟨0, by omega, rfl, rfl⟩
  case round =>
    obtain ⟨k, hk, rfl, rfl⟩ := hrel
    have hs := SM_nn L k (fun i hi => HL.out i (by omega))
    by_cases hlt : k < n
    · obtain ⟨b, off, rfl, hcell⟩ := h.plain (by omega)
      have hck := hcell k hlt
      obtain ⟨x, hx⟩ := Int.eq_ofNat_of_zero_le (HL.out k hlt).1
      have hx15 : x ≤ 15 := by have := (HL.out k hlt).2; omega
      rw [hx] at hck
      by_cases hx0 : x = 0
      · have HS : Hid (SM L (k + 1) = SM L k) := by
          show SM L (k + 1) = SM L k
          rw [SM_pos]; omega
        subst hx0
        clear hcell h hx
        go_wp2
        go_round
        case rel => exact ⟨k + 1, by omega, by go_num, by rw [HS.out]⟩
        case measure => simp [intOf]; omega
      · have HS : Hid (SM L (k + 1) = SM L k + x) := by
          show SM L (k + 1) = SM L k + x
          rw [SM_pos, hx]
        have hxp : (0 : Int) < (x : Int) := by omega
        clear hcell h hx
        go_wp2
        go_round
        case rel => exact ⟨k + 1, by omega, by go_num, by rw [HS.out]⟩
        case measure => simp [intOf]; omega
    · obtain rfl : k = n := by omega
      clear h
      rcases HH.out with rfl | ⟨rfl, hgt⟩
      · go_wp2
        go_ret2
        exact ⟨rfl, rfl⟩
      · have hd : decide (1 < SM L k) = true := by simp; omega
        clear hgt
        go_wp2
        go_ret2
        exact ⟨rfl, rfl⟩

end Go.Proofs.Ytjipohcacimkmaa
