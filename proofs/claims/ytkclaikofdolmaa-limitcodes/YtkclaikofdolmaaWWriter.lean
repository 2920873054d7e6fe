/- A writer of bits: Put, Code, Align, Byte, Len, Done; bytes.Clone. -/
import Derived.Test.YtkclaikofdolmaaWPut
namespace Go.Proofs.Ytkclaikofdolmaa
open Go.RowKit

/-- What a call on the thing in block R, whose slice was v and is v', has turned. -/
structure Step (R : Nat) (v v' : Value) (w w' : World) : Prop where
  fr : Fr (Of R v) w w'
  own : v'.ownBlock = v.ownBlock ∨ ∀ k, v'.ownBlock = some k → w.heap.size ≤ k

theorem Step.refl (R : Nat) (v : Value) (w : World) : Step R v v w w := ⟨Fr.refl _ _, .inl rfl⟩

theorem Step.back {R : Nat} {v v' : Value} {w w' : World} (h : Step R v v' w w') : ∀ i, i < w.heap.size → Of R v' i → Of R v i := by
  rintro i hi (rfl | hk)
  · exact .inl rfl
  · rcases h.own with e | e
    · exact .inr (e ▸ hk)
    · have := e i hk; omega

theorem Step.trans {R : Nat} {v v1 v2 : Value} {w w1 w2 : World} (h : Step R v v1 w w1) (k : Step R v1 v2 w1 w2) : Step R v v2 w w2 :=
  ⟨h.fr.trans k.fr h.back, by
    rcases k.own with e | e
    · rw [e]; exact h.own
    · exact .inr (fun i hi => Nat.le_trans h.fr.size (e i hi))⟩

theorem Step.below {R : Nat} {v v' : Value} {w w' : World} (h : Step R v v' w w') (B : Nat) (hB : B ≤ w.heap.size) (hR : ∀ k, Of R v k → B ≤ k) : Below B w w' :=
  h.fr.below B hB (fun i hi hk => by have := hR i hk; omega)

theorem Step.from {R : Nat} {v v' : Value} {w w' : World} (h : Step R v v' w w') (B : Nat) (hB : B ≤ w.heap.size) (hR : ∀ k, Of R v k → B ≤ k) : ∀ k, Of R v' k → B ≤ k := by
  intro k hk
  rcases Nat.lt_or_ge k w.heap.size with hlt | hge
  · exact hR k (h.back k hlt hk)
  · omega

theorem Step.apart {R : Nat} {v v' : Value} {w w' : World} (h : Step R v v' w w') (Q : Nat → Prop) (hQ : ∀ k, Q k → k < w.heap.size) (hR : ∀ k, Of R v k → ¬ Q k) : ∀ k, Of R v' k → ¬ Q k := by
  intro k hk hq
  exact hR k (h.back k (hQ k hq) hk) hq

theorem Step.drew {R : Nat} {v v' : Value} {w w' : World} (h : Step R v v' w w') : Step R v v' w w'.drew := ⟨h.fr.drew, h.own⟩

theorem put_yes (R : Nat) (v : Value) (N x : Int) (len n : Nat) (w : World) (h : IsW w R v N len) (hn : n ≤ 24) (hl : len ≤ 1000000000) :
    Calls Try.prog 52 #[.pointer (some ⟨R, 0, none⟩), .int .i64 x, .int .i64 n] w fun e w' => e = .returned (.tuple #[]) ∧ ∃ v', IsW w' R v' (N + 2 ^ len * (x % 2 ^ n)) (len + n) ∧ Step R v v' w w' := by
  have hq : 8 * (len / 8) + len % 8 = len := by omega
  refine (put_raw R v N x (len / 8) (len % 8) n w h.raw h.nn (by rw [hq]; exact h.lt) hn (by omega) (by omega)).mono ?_
  rintro e w' ⟨rfl, v', q', hb', hr, hf, hs, hb, hv⟩
  rw [hq] at hr hs
  obtain ⟨b0, b1⟩ := put_bound N (x % 2 ^ n) len n h.nn h.lt (mod_nn _ _) (mod_lt _ _)
  refine ⟨rfl, v', ⟨?_, b0, b1⟩, ⟨hf, hv⟩⟩
  rw [show (len + n) / 8 = q' by omega, show (len + n) % 8 = hb' by omega]
  exact hr

/-- What bits there are behind Put. -/
def ptN (N : Int) (len : Nat) (x n : Int) : Int := if 0 ≤ n ∧ n ≤ 24 then N + 2 ^ len * (x % 2 ^ n.toNat) else N
/-- How many. -/
def ptL (len : Nat) (n : Int) : Nat := if 0 ≤ n ∧ n ≤ 24 then len + n.toNat else len
/-- What bits there are behind Code. -/
def cdN (N : Int) (len : Nat) (x n : Int) : Int := if 0 ≤ n ∧ n ≤ 24 then N + 2 ^ len * T x n.toNat else N
/-- How many bits there are behind Align. -/
def al (len : Nat) : Nat := (len + 7) / 8 * 8

theorem put_any (R : Nat) (v : Value) (N x n : Int) (len : Nat) (w : World) (h : IsW w R v N len) (hl : len ≤ 1000000000) :
    Calls Try.prog 52 #[.pointer (some ⟨R, 0, none⟩), .int .i64 x, .int .i64 n] w fun e w' => e = .returned (.tuple #[]) ∧ ∃ v', IsW w' R v' (ptN N len x n) (ptL len n) ∧ Step R v v' w w' := by
  by_cases hn : 0 ≤ n ∧ n ≤ 24
  · obtain ⟨m, rfl⟩ := Int.eq_ofNat_of_zero_le hn.1
    simp only [ptN, ptL, if_pos hn, Int.toNat_natCast]
    exact put_yes R v N x len m w h (by omega) hl
  · refine (put_no R x n w (by omega)).mono ?_
    rintro e w' ⟨rfl, rfl⟩
    rw [ptN, ptL, if_neg hn, if_neg hn]
    exact ⟨rfl, v, h, Step.refl _ _ _⟩

theorem code_any (R : Nat) (v : Value) (N x n : Int) (len : Nat) (w : World) (h : IsW w R v N len) (hl : len ≤ 1000000000) :
    Calls Try.prog 39 #[.pointer (some ⟨R, 0, none⟩), .int .i64 x, .int .i64 n] w fun e w' => e = .returned (.tuple #[]) ∧ ∃ v', IsW w' R v' (cdN N len x n) (ptL len n) ∧ Step R v v' w w' := by
  by_cases hn : 0 ≤ n ∧ n ≤ 24
  · obtain ⟨m, rfl⟩ := Int.eq_ofNat_of_zero_le hn.1
    have hp := put_yes R v N (T x m) len m w h (by omega) hl
    rw [Int.emod_eq_of_lt (T_bound x m).1 (T_bound x m).2] at hp
    simp only [cdN, ptL, if_pos hn, Int.toNat_natCast]
    go_enter Try.func39, Try.ntmps39
    go_wp2_with (first
      | (go_at_call 53; refine (turn_yes x m w (by omega)).mono ?_; rintro e w1 ⟨rfl, hw⟩; subst w1)
      | (go_at_call 52; refine hp.mono ?_; rintro e w1 ⟨rfl, hpost⟩))
    go_end0
    exact ⟨rfl, hpost⟩
  · have hp := put_no R 0 n w (by omega)
    simp only [cdN, ptL, if_neg hn]
    go_enter Try.func39, Try.ntmps39
    go_wp2_with (first
      | (go_at_call 53; refine (turn_no x n w (by omega)).mono ?_; rintro e w1 ⟨rfl, hw⟩; subst w1)
      | (go_at_call 52; refine hp.mono ?_; rintro e w1 ⟨rfl, hw⟩; subst w1))
    go_end0
    exact ⟨rfl, v, h, Step.refl _ _ _⟩

/-- A row of one's own, as a slice. -/
theorem own_rd {w : World} {base n : Nat} {v : Value} {xs : List Int} (h : w.ownsRow base 5 1 v n (xs.map (Value.int .u8))) (hb : ∀ x ∈ xs, 0 ≤ x ∧ x < 256) :
    ∃ ao c, v = .slice ao n c ∧ Rd w ao n c xs ∧ ∀ ad, ao = some ad → v.ownBlock = some ad.block ∧ base ≤ ad.block := by
  rcases h.2 with ⟨rfl, rfl⟩ | ⟨g, cap, cur, rfl, hg, _⟩
  · have hx : xs = [] := List.eq_nil_of_length_eq_zero (by simpa using h.1)
    subst hx
    exact ⟨none, 0, rfl, Rd.nil _, fun ad had => by cases had⟩
  · exact ⟨_, _, rfl, Rd.ofOwn h hb, fun ad had => by cases had; exact ⟨rfl, hg⟩⟩

theorem len_any (R : Nat) (v : Value) (N : Int) (len : Nat) (w : World) (h : IsW w R v N len) (hl : len ≤ 1000000000) :
    Calls Try.prog 21 #[.pointer (some ⟨R, 0, none⟩)] w fun e w' => e = .returned (.int .i64 len) ∧ w' = w.drew := by
  have c0 := h.raw.row.cell (i := 0) (by omega)
  have c2 := h.raw.row.cell (i := 2) (by omega)
  obtain ⟨ao, c, rfl, hr, _⟩ := own_rd h.raw.own (by8_byt _ _)
  simp only [wcells] at c0 c2
  have hq : 8 * (len / 8) + len % 8 = len := by omega
  generalize len / 8 = q at *
  generalize len % 8 = r at *
  subst hq
  clear h hr
  go_enter Try.func21, Try.ntmps21
  go_wp2
  go_region
  go_wp2
  go_ret
  exact ⟨by go_num, rfl⟩

set_option maxHeartbeats 400000 in
theorem clone_any (ao : Option Addr) (n c : Nat) (xs : List Int) (w : World) (h : Rd w ao n c xs) (hn : n ≤ 140737488351232) :
    Calls Try.prog 40 #[.slice ao n c] w fun e w' => ∃ v', e = .returned v' ∧ w'.ownsRow w.heap.size 5 1 v' n (xs.map (Value.int .u8)) ∧ Below w.heap.size w w' := by
  obtain ⟨i0, hi, hz0, hz1, hz2⟩ := info_parts Try.info5
  cases ao with
  | none =>
    obtain ⟨rfl, rfl⟩ := h.nul rfl
    have hx : xs = [] := List.eq_nil_of_length_eq_zero h.len
    subst hx
    have hq := fun w => Lib.run_eql_slice_nil (P := Try.prog) w 41 5 none 0 0 0 0 Try.underlying41
    go_enter Try.func40, Try.ntmps40
    go_wp2
    go_ret
    exact ⟨_, rfl, World.ownsRow_nil _ _ _ _, Below.refl _ _⟩
  | some ad =>
    have hcells := h.cellsOf ad rfl
    have hl := h.len
    clear h
    have hq := fun w => Lib.run_eql_slice_nil (P := Try.prog) w 41 5 (some ad) n c 0 0 Try.underlying41
    go_enter Try.func40, Try.ntmps40
    go_wp2_with (at_builtin; refine wpList_append_own _ rfl _ _ 41 rfl w.heap.size 5 i0 (.int .u8 0) 1 1 Try.underlying41 hi hz0 hz1 hz2 rfl (by decide) _ 0 [] rfl ?_ ad n c (xs.map (Value.int .u8)) rfl ?_ ?_ (ints_oneCell _ _) ?_ ?_ ?_ ?_)
    · exact World.ownsRow_lit (base := w.heap.size) (e := 5) (size := 1) w #[] 0 (Nat.le_refl _) (by unfold maxLen; omega) rfl
    · simpa using hl
    · intro j u hu
      have hc := hcells j u hu
      rw [((Below.refl _ _).alloc (Nat.le_refl _) _ : Below w.heap.size w (w.alloc (.cells #[] 5))).cell (World.block_lt_of_cell? w _ hc)]
      exact hc
    · unfold maxLen; omega
    · omega
    · simp
    · intro v' w2 hown2 hgrow2 hv'
      have hb2 : Below w.heap.size w w2 := ((Below.refl _ _).alloc (Nat.le_refl _) _).grown hgrow2 (by simp) (fun q hq => by cases hq; exact Nat.le_refl _)
      clear hgrow2 hcells hv'
      go_wp2
      go_ret
      exact ⟨_, rfl, by simpa using hown2, hb2⟩

theorem by8_done (N : Int) (len : Nat) (h : 0 < len % 8) : by8 N ((len + 7) / 8) = by8 N (len / 8) ++ [N / 2 ^ (8 * (len / 8)) % 256] := by
  rw [show (len + 7) / 8 = len / 8 + 1 by omega, by8_succ]

set_option maxRecDepth 100000 in
set_option maxHeartbeats 1000000 in
theorem done_any (R : Nat) (v : Value) (N : Int) (len : Nat) (w : World) (h : IsW w R v N len) (hl : len ≤ 1000000000) :
    Calls Try.prog 23 #[.pointer (some ⟨R, 0, none⟩)] w fun e w' => ∃ v', e = .returned v' ∧ w'.ownsRow w.heap.size 5 1 v' ((len + 7) / 8) ((by8 N ((len + 7) / 8)).map (Value.int .u8)) ∧ Below w.heap.size w w' := by
  obtain ⟨i0, hi, hz0, hz1, hz2⟩ := info_parts Try.info5
  have hrow := h.raw.row
  obtain ⟨ao, c, rfl, hr, _⟩ := own_rd h.raw.own (by8_byt _ _)
  have c0 := hrow.cell (i := 0) (by omega)
  simp only [wcells] at c0
  by_cases h0 : len % 8 = 0
  · rw [show (len + 7) / 8 = len / 8 by omega]
    rw [h0] at hrow
    go_enter Try.func23, Try.ntmps23
    go_wp2_with (go_at_call 40; refine (clone_any ao (len / 8) c _ w hr (by omega)).mono ?_; rintro e w1 ⟨v1, rfl, o1, b1⟩; have d2 := (hrow.of_block (b1.block R hrow.lt)).cell (i := 2) (by omega); simp only [wcells] at d2)
    go_ret
    exact ⟨v1, rfl, o1, b1⟩
  · rw [by8_done N len (by omega), show (len + 7) / 8 = len / 8 + 1 by omega]
    have h1 : (0 : Int) < ((len % 8 : Nat) : Int) := by omega
    have hlq : len / 8 ≤ 1000000000 := by omega
    clear h
    generalize len % 8 = r at *
    generalize len / 8 = q at *
    generalize N / 2 ^ (8 * q) = wd at *
    go_enter Try.func23, Try.ntmps23
    go_wp2_with (first
      | (go_at_call 40; refine (clone_any ao q c _ w hr (by omega)).mono ?_; rintro e w1 ⟨v1, rfl, o1, b1⟩; have d1 := (hrow.of_block (b1.block R hrow.lt)).cell (i := 1) (by omega); have d2 := (hrow.of_block (b1.block R hrow.lt)).cell (i := 2) (by omega); simp only [wcells] at d1 d2)
      | (at_builtin; refine wpList_append_lies _ rfl _ _ 41 rfl w.heap.size 5 i0 (.int .u8 0) 1 1 Try.underlying41 hi hz0 hz1 hz2 rfl (by decide) _ q _ rfl (o1.alloc _) ⟨w1.heap.size, 0, none⟩ 1 1 [_] rfl rfl (cell_one_new _ _ _) (by intro u hu; simp at hu; subst hu; rfl) (by omega) (by unfold maxLen; omega) (by omega) (by have := b1.size; simp; omega) _ rfl ?_; intro g c5 w5 o5 g5 l5 s5))
    go_ret
    refine ⟨_, rfl, by simpa using o5, ?_⟩
    exact (b1.alloc b1.size _).grown g5 (by have := b1.size; simp; omega) (fun k hk => (o1.lt k hk).1)

end Go.Proofs.Ytkclaikofdolmaa
