/- of; literals. -/
import Derived.Test.YtgdodphpomkakaaXExpand
namespace Go.Proofs.Ytgdodphpomkakaa
open Go.RowKit

theorem cell_three_new (w : World) (x y z : Value) (t : TypeId) : ∀ j u, [x, y, z][j]? = some u → (w.alloc (.cells #[x, y, z] t)).cell? ((⟨w.heap.size, 0, none⟩ : Addr).add j) = some u := by
  obtain ⟨h0, h1, h2⟩ := Bx.new w x y z t
  intro j u hj
  rw [Addr.add_lit, Nat.zero_add]
  rcases j with _ | _ | _ | j
  · simp at hj; subst hj; exact h0
  · simp at hj; subst hj; exact h1
  · simp at hj; subst hj; exact h2
  · simp at hj

theorem tcs_push (ts : List Tok) (k : Nat) (h : k < ts.length) : tcs (ts.take (k + 1)) = tcs (ts.take k) ++ tc (ts.getD k tz) := by
  rw [take_one ts tz k h, tcs_app, tcs_one]

set_option maxRecDepth 100000 in
set_option maxHeartbeats 1000000 in
theorem of_any (ao : Option Addr) (n c : Nat) (ts : List Tok) (w : World) (h : Tk w ao n ts) (hn : n ≤ 1000000) :
    Calls Try.prog 8 #[.slice ao n c] w fun e w' => ∃ v, e = .returned v ∧ w'.ownsRow w.heap.size 41 3 v n (tcs ts) ∧ Below w.heap.size w w' := by
  obtain ⟨i0, hi, hz0, hz1, hz2⟩ := info_parts Try.info41
  have hlen := h.len
  have HT : Hid (Tk w ao n ts) := h
  clear h
  go_enter Try.func8, Try.ntmps8
  go_wp2
  go_loopw [3, 4] (fun o i wr => ∃ k : Nat, k ≤ n ∧ i = .int .i64 k ∧ Hid (wr.ownsRow w.heap.size 41 3 o k (tcs (ts.take k))) ∧ Hid (Below w.heap.size w wr)) (fun _ i _ => n - (intOf i).toNat)
  case atStart => exact ⟨0, by omega, rfl, World.ownsRow_nil _ _ _ _, Below.refl _ _⟩
  case round =>
    obtain ⟨k, hk, rfl, hown, hb⟩ := hrel
    by_cases hlt : k < n
    · obtain ⟨b, off, rfl, hcs⟩ := HT.out.held k hlt
      obtain ⟨h0, h1, h2⟩ := hcs wr hb.out
      have HP : Hid (tcs (ts.take (k + 1)) = tcs (ts.take k) ++ tc (ts.getD k tz)) := tcs_push ts k (by omega)
      clear hcs
      generalize ts.getD k tz = t at *
      obtain ⟨l, m, d⟩ := t
      go_wp2_with (at_builtin; refine wpList_append_own _ rfl _ _ 24 rfl w.heap.size 41 i0 (.agg #[.int .u8 0, .int .i64 0, .int .i64 0]) 3 24 Try.underlying24 hi hz0 hz1 hz2 rfl (by decide) u3 k _ rfl (hown.out.alloc _) ⟨wr.heap.size, 0, none⟩ 1 1 [.int .u8 l, .int .i64 m, .int .i64 d] rfl rfl (cell_three_new _ _ _ _ _) (by intro u hu; simp at hu; rcases hu with rfl | rfl | rfl <;> rfl) (by unfold maxLen; omega) (by omega) (by have := hb.out.size; simp; omega) ?_; intro v2 w2 o2 g2 n2)
      have O2 : Hid (w2.ownsRow w.heap.size 41 3 v2 (k + 1) (tcs (ts.take (k + 1)))) := by
        show World.ownsRow _ _ _ _ _ _ _
        rw [HP.out]
        exact o2
      have B2 : Hid (Below w.heap.size w w2) := (hb.out.alloc hb.out.size _).grown g2 (by have := hb.out.size; simp; omega) (fun q hq => (hown.out.lt q hq).1)
      clear o2 g2 n2 hown hb HP h0 h1 h2
      go_roundw
      case rel => exact ⟨k + 1, by omega, by go_num, O2, B2⟩
      case measure => simp [intOf]; omega
    · obtain rfl : k = n := by omega
      have e := HT.out.all
      rw [e] at hown
      go_wp2
      go_ret
      exact ⟨_, rfl, hown.out, hb.out⟩

/-- Bytes as literals. -/
def lits (xs : List Int) : List Tok := xs.map (fun x => (x, 0, 0))

/-- The cells of n tokens of which k are laid. -/
def lf (xs : List Int) (k j : Nat) : Value := if j % 3 = 0 then .int .u8 (if j / 3 < k then xs.getD (j / 3) 0 else 0) else .int .i64 0

theorem lf_at (xs : List Int) (k : Nat) : lf xs k (k * 3) = .int .u8 0 := by
  unfold lf
  rw [if_pos (by omega), if_neg (by omega)]

theorem lf_set (xs : List Int) (k j : Nat) : (if j = k * 3 then .int .u8 (xs.getD k 0) else lf xs k j) = lf xs (k + 1) j := by
  by_cases h : j = k * 3
  · rw [if_pos h, h]
    unfold lf
    rw [if_pos (by omega), if_pos (by omega), show k * 3 / 3 = k by omega]
  · rw [if_neg h]
    unfold lf
    by_cases h3 : j % 3 = 0
    · rw [if_pos h3, if_pos h3]
      have e : (j / 3 < k) = (j / 3 < k + 1) := by
        apply propext
        omega
      simp only [e]
    · rw [if_neg h3, if_neg h3]

theorem lits_len (xs : List Int) : (lits xs).length = xs.length := by simp [lits]

theorem lits_cells (xs : List Int) (n : Nat) (h : xs.length = n) : vals (lf xs n) (n * 3) = tcs (lits xs) := by
  apply List.ext_getElem?
  intro i
  by_cases hi : i < n * 3
  · rw [vals_get _ _ _ hi]
    have hg : (lits xs).getD (i / 3) tz = (xs.getD (i / 3) 0, 0, 0) := by
      have hl : i / 3 < xs.length := by omega
      simp [lits, List.getD, hl]
    obtain ⟨g0, g1, g2⟩ := tcs_get (lits xs) (i / 3) (by rw [lits_len]; omega)
    rw [hg] at g0 g1 g2
    unfold lf
    rcases (by omega : i % 3 = 0 ∨ i % 3 = 1 ∨ i % 3 = 2) with h3 | h3 | h3
    · rw [if_pos h3, if_pos (by omega), show i = i / 3 * 3 by omega, g0]
      rw [show i / 3 * 3 / 3 = i / 3 by omega]
    · rw [if_neg (by omega), show i = i / 3 * 3 + 1 by omega, g1]
    · rw [if_neg (by omega), show i = i / 3 * 3 + 2 by omega, g2]
  · rw [List.getElem?_eq_none (by rw [vals_len]; omega), List.getElem?_eq_none (by rw [tcs_len, lits_len]; omega)]

theorem own_row {w : World} {base e s g n : Nat} {xs : List Value} (h : w.ownsRow base e s (.slice (some ⟨g, 0, none⟩) n n) n xs) (f : Nat → Value) (hf : ∀ j, j < n * s → xs[j]? = some (f j)) : w.rowIs g e (n * s) f := by
  rcases h.2 with ⟨e1, _⟩ | ⟨g', cap, cur, e1, _, hh, _, _, hs, ht⟩
  · cases e1
  · cases e1
    refine ⟨cur, hh, hs, fun i hi => ?_⟩
    have := hf i hi
    rw [← ht, List.getElem?_take, if_pos hi] at this
    simpa using this

theorem row_own {w : World} {base e s g n : Nat} {f : Nat → Value} (h : w.rowIs g e (n * s) f) (hb : base ≤ g) (hn : n ≤ maxLen) : w.ownsRow base e s (.slice (some ⟨g, 0, none⟩) n n) n (vals f (n * s)) :=
  ⟨vals_len _ _, .inr ⟨g, n, _, rfl, hb, rowIs_block h, Nat.le_refl _, hn, vals_size _ _, by rw [List.take_of_length_le (by simp [vals])]⟩⟩

theorem made3 (n j : Nat) (xs : List Int) (h : j < n * 3) : (madeCells (Value.agg #[.int .u8 0, .int .i64 0, .int .i64 0]).cells (n * 3)).toList[j]? = some (lf xs 0 j) := by
  unfold madeCells lf
  rw [if_neg (Nat.not_lt_zero _)]
  simp [h, Value.cells]
  rcases (by omega : j % 3 = 0 ∨ j % 3 = 1 ∨ j % 3 = 2) with h3 | h3 | h3 <;> rw [h3] <;> rfl

set_option maxRecDepth 100000 in
set_option maxHeartbeats 1000000 in
theorem literals_any (ao : Option Addr) (n c : Nat) (xs : List Int) (w : World) (h : Rd w ao n c xs) (hn : n ≤ 1000000) :
    Calls Try.prog 21 #[.slice ao n c] w fun e w' => ∃ v, e = .returned v ∧ w'.ownsRow w.heap.size 40 3 v n (tcs (lits xs)) ∧ Below w.heap.size w w' := by
  obtain ⟨i0, hi, hz0, hz1, hz2⟩ := info_parts Try.info40
  have hlen := h.len
  have HR : Hid (Rd w ao n c xs) := h
  clear h
  go_enter Try.func21, Try.ntmps21
  go_wp2_with (at_make; refine wpList_make_full _ rfl _ _ 22 rfl w.heap.size 40 i0 (.agg #[.int .u8 0, .int .i64 0, .int .i64 0]) 3 Try.underlying22 hi hz0 hz1 _ _ _ _ n rfl rfl rfl rfl (by rw [hz2]; omega) (by unfold maxLen; omega) (Nat.le_refl _) ?_; intro w1 o1 g1)
  have r1 := own_row o1 (lf xs 0) (fun j hj => made3 n j xs hj)
  have b1 : Below w.heap.size w w1 := (Below.refl _ _).grown g1 (Nat.le_refl _) (fun q hq => by cases hq)
  obtain ⟨g, hg⟩ : ∃ g, g = w.heap.size := ⟨_, rfl⟩
  have HG : Hid (g = w.heap.size) := hg
  rw [← hg] at r1 ⊢
  clear hg o1 g1
  go_loopw [11] (fun i wr => ∃ k : Nat, k ≤ n ∧ i = .int .i64 k ∧ wr.rowIs g 40 (n * 3) (lf xs k) ∧ Hid (Below w.heap.size w wr)) (fun i _ => n - (intOf i).toNat)
  case atStart => exact ⟨0, by omega, rfl, r1, b1⟩
  case round =>
    obtain ⟨k, hk, rfl, rk, hb⟩ := hrel
    clear r1 b1
    by_cases hlt : k < n
    · obtain ⟨b, off, rfl, hcell⟩ := HR.out.plain (by omega)
      have hck := hcell k hlt
      have hc2 : wr.cell? ⟨b, off + k, none⟩ = some (.int .u8 (xs.getD k 0)) := by rw [hb.out.cell (World.block_lt_of_cell? w _ hck)]; exact hck
      have d0 := rk.cell (i := k * 3) (by omega)
      have d1 := rk.frozen (k * 3)
      rw [lf_at] at d0
      have RS : Hid ((wr.setCell ⟨g, k * 3, none⟩ (.int .u8 (xs.getD k 0))).rowIs g 40 (n * 3) (lf xs (k + 1))) := by
        have := rk.set (k * 3) (.int .u8 (xs.getD k 0))
        simp only [lf_set] at this
        exact this
      have BS : Hid (Below w.heap.size w (wr.setCell ⟨g, k * 3, none⟩ (.int .u8 (xs.getD k 0)))) := by
        have hf : Fr (fun q => q = g) wr (wr.setCell ⟨g, k * 3, none⟩ (.int .u8 (xs.getD k 0))) := (Fr.refl (fun q => q = g) wr).setCell (p := ⟨g, k * 3, none⟩) rfl _
        exact hb.out.trans (hf.below w.heap.size hb.out.size (fun i hi e => by have := HG.out; omega))
      generalize xs.getD k 0 = x at *
      clear hcell hck rk hb
      go_wp2
      go_roundw
      case rel => exact ⟨k + 1, by omega, by go_num, RS.out, BS⟩
      case measure => simp [intOf]; omega
    · obtain rfl : k = n := by omega
      have o := row_own (base := w.heap.size) rk (by have := HG.out; omega) (by unfold maxLen; omega)
      rw [lits_cells xs k hlen] at o
      have HO : Hid (wr.ownsRow w.heap.size 40 3 (.slice (some ⟨g, 0, none⟩) k k) k (tcs (lits xs))) := o
      clear o rk
      go_wp2
      go_ret
      exact ⟨_, rfl, HO.out, hb.out⟩

end Go.Proofs.Ytgdodphpomkakaa
