/- LimWWriter, LimWHelp, LimWCPut, LimWCost, LimPm3, LimWCounts. -/
import Derived.Test.YtiahbicodlgmhaaGreatDoorM14
import Derived.Test.YtiahbicodlgmhaaGreatDoorM05
import Derived.Test.YtiahbicodlgmhaaGreatDoorM02
/- A writer of bits: Put, Code, Align, Byte, Len, Done; bytes.Clone. -/
namespace Go.Proofs.YtiahbicodlgmhaaGreatDoor.Lim
open Go.RowKit

/-- What a call on the thing in block R, whose slice was v and is v', has turned. -/
structure Step (R : Nat) (v v' : Value) (w w' : World) : Prop where
  fr : Fr (Of R v) w w'
  own : v'.ownBlock = v.ownBlock ∨ ∀ k, v'.ownBlock = some k → w.heap.size ≤ k

theorem Step.refl (R : Nat) (v : Value) (w : World) : Step R v v w w := ⟨Fr.refl _ _, .inl rfl⟩

theorem Step.back {R : Nat} {v v' : Value} {w w' : World} (h : Step R v v' w w') : ∀ i, i < w.heap.size → Of R v' i → Of R v i := by
  rintro i hi (rfl | hk)
  · exact .inl rfl
  · rcases h.own with e | e
    · exact .inr (e ▸ hk)
    · have := e i hk; omega

theorem Step.trans {R : Nat} {v v1 v2 : Value} {w w1 w2 : World} (h : Step R v v1 w w1) (k : Step R v1 v2 w1 w2) : Step R v v2 w w2 :=
  ⟨h.fr.trans k.fr h.back, by
    rcases k.own with e | e
    · rw [e]; exact h.own
    · exact .inr (fun i hi => Nat.le_trans h.fr.size (e i hi))⟩

theorem Step.below {R : Nat} {v v' : Value} {w w' : World} (h : Step R v v' w w') (B : Nat) (hB : B ≤ w.heap.size) (hR : ∀ k, Of R v k → B ≤ k) : Below B w w' :=
  h.fr.below B hB (fun i hi hk => by have := hR i hk; omega)

theorem Step.from {R : Nat} {v v' : Value} {w w' : World} (h : Step R v v' w w') (B : Nat) (hB : B ≤ w.heap.size) (hR : ∀ k, Of R v k → B ≤ k) : ∀ k, Of R v' k → B ≤ k := by
  intro k hk
  rcases Nat.lt_or_ge k w.heap.size with hlt | hge
  · exact hR k (h.back k hlt hk)
  · omega

theorem Step.apart {R : Nat} {v v' : Value} {w w' : World} (h : Step R v v' w w') (Q : Nat → Prop) (hQ : ∀ k, Q k → k < w.heap.size) (hR : ∀ k, Of R v k → ¬ Q k) : ∀ k, Of R v' k → ¬ Q k := by
  intro k hk hq
  exact hR k (h.back k (hQ k hq) hk) hq

theorem Step.drew {R : Nat} {v v' : Value} {w w' : World} (h : Step R v v' w w') : Step R v v' w w'.drew := ⟨h.fr.drew, h.own⟩

theorem put_yes (R : Nat) (v : Value) (N x : Int) (len n : Nat) (w : World) (h : IsW w R v N len) (hn : n ≤ 24) (hl : len ≤ 1000000000) :
    Calls Tryz.prog 58 #[.pointer (some ⟨R, 0, none⟩), .int .i64 x, .int .i64 n] w fun e w' => e = .returned (.tuple #[]) ∧ ∃ v', IsW w' R v' (N + 2 ^ len * (x % 2 ^ n)) (len + n) ∧ Step R v v' w w' := by
  have hq : 8 * (len / 8) + len % 8 = len := by omega
  refine (put_raw R v N x (len / 8) (len % 8) n w h.raw h.nn (by rw [hq]; exact h.lt) hn (by omega) (by omega)).mono ?_
  rintro e w' ⟨rfl, v', q', hb', hr, hf, hs, hb, hv⟩
  rw [hq] at hr hs
  obtain ⟨b0, b1⟩ := put_bound N (x % 2 ^ n) len n h.nn h.lt (mod_nn _ _) (mod_lt _ _)
  refine ⟨rfl, v', ⟨?_, b0, b1⟩, ⟨hf, hv⟩⟩
  rw [show (len + n) / 8 = q' by omega, show (len + n) % 8 = hb' by omega]
  exact hr

/-- What bits there are behind Put. -/
def ptN (N : Int) (len : Nat) (x n : Int) : Int := if 0 ≤ n ∧ n ≤ 24 then N + 2 ^ len * (x % 2 ^ n.toNat) else N
/-- How many. -/
def ptL (len : Nat) (n : Int) : Nat := if 0 ≤ n ∧ n ≤ 24 then len + n.toNat else len
/-- What bits there are behind Code. -/
def cdN (N : Int) (len : Nat) (x n : Int) : Int := if 0 ≤ n ∧ n ≤ 24 then N + 2 ^ len * T x n.toNat else N
/-- How many bits there are behind Align. -/
def al (len : Nat) : Nat := (len + 7) / 8 * 8

theorem put_any (R : Nat) (v : Value) (N x n : Int) (len : Nat) (w : World) (h : IsW w R v N len) (hl : len ≤ 1000000000) :
    Calls Tryz.prog 58 #[.pointer (some ⟨R, 0, none⟩), .int .i64 x, .int .i64 n] w fun e w' => e = .returned (.tuple #[]) ∧ ∃ v', IsW w' R v' (ptN N len x n) (ptL len n) ∧ Step R v v' w w' := by
  by_cases hn : 0 ≤ n ∧ n ≤ 24
  · obtain ⟨m, rfl⟩ := Int.eq_ofNat_of_zero_le hn.1
    simp only [ptN, ptL, if_pos hn, Int.toNat_natCast]
    exact put_yes R v N x len m w h (by omega) hl
  · refine (put_no R x n w (by omega)).mono ?_
    rintro e w' ⟨rfl, rfl⟩
    rw [ptN, ptL, if_neg hn, if_neg hn]
    exact ⟨rfl, v, h, Step.refl _ _ _⟩

theorem code_any (R : Nat) (v : Value) (N x n : Int) (len : Nat) (w : World) (h : IsW w R v N len) (hl : len ≤ 1000000000) :
    Calls Tryz.prog 158 #[.pointer (some ⟨R, 0, none⟩), .int .i64 x, .int .i64 n] w fun e w' => e = .returned (.tuple #[]) ∧ ∃ v', IsW w' R v' (cdN N len x n) (ptL len n) ∧ Step R v v' w w' := by
  by_cases hn : 0 ≤ n ∧ n ≤ 24
  · obtain ⟨m, rfl⟩ := Int.eq_ofNat_of_zero_le hn.1
    have hp := put_yes R v N (T x m) len m w h (by omega) hl
    rw [Int.emod_eq_of_lt (T_bound x m).1 (T_bound x m).2] at hp
    simp only [cdN, ptL, if_pos hn, Int.toNat_natCast]
    go_enter Tryz.func158, Tryz.ntmps158
    go_wp2_with (first
      | (go_at_call 164; refine (turn_yes x m w (by omega)).mono ?_; rintro e w1 ⟨rfl, hw⟩; subst w1)
      | (go_at_call 58; refine hp.mono ?_; rintro e w1 ⟨rfl, hpost⟩))
    go_end0
    exact ⟨rfl, hpost⟩
  · have hp := put_no R 0 n w (by omega)
    simp only [cdN, ptL, if_neg hn]
    go_enter Tryz.func158, Tryz.ntmps158
    go_wp2_with (first
      | (go_at_call 164; refine (turn_no x n w (by omega)).mono ?_; rintro e w1 ⟨rfl, hw⟩; subst w1)
      | (go_at_call 58; refine hp.mono ?_; rintro e w1 ⟨rfl, hw⟩; subst w1))
    go_end0
    exact ⟨rfl, v, h, Step.refl _ _ _⟩

/-- A row of one's own, as a slice. -/
theorem own_rd {w : World} {base n : Nat} {v : Value} {xs : List Int} (h : w.ownsRow base 5 1 v n (xs.map (Value.int .u8))) (hb : ∀ x ∈ xs, 0 ≤ x ∧ x < 256) :
    ∃ ao c, v = .slice ao n c ∧ Rd w ao n c xs ∧ ∀ ad, ao = some ad → v.ownBlock = some ad.block ∧ base ≤ ad.block := by
  rcases h.2 with ⟨rfl, rfl⟩ | ⟨g, cap, cur, rfl, hg, _⟩
  · have hx : xs = [] := List.eq_nil_of_length_eq_zero (by simpa using h.1)
    subst hx
    exact ⟨none, 0, rfl, Rd.nil _, fun ad had => by cases had⟩
  · exact ⟨_, _, rfl, Rd.ofOwn h hb, fun ad had => by cases had; exact ⟨rfl, hg⟩⟩

theorem len_any (R : Nat) (v : Value) (N : Int) (len : Nat) (w : World) (h : IsW w R v N len) (hl : len ≤ 1000000000) :
    Calls Tryz.prog 46 #[.pointer (some ⟨R, 0, none⟩)] w fun e w' => e = .returned (.int .i64 len) ∧ w' = w.drew := by
  have c0 := h.raw.row.cell (i := 0) (by omega)
  have c2 := h.raw.row.cell (i := 2) (by omega)
  obtain ⟨ao, c, rfl, hr, _⟩ := own_rd h.raw.own (by8_byt _ _)
  simp only [wcells] at c0 c2
  have hq : 8 * (len / 8) + len % 8 = len := by omega
  generalize len / 8 = q at *
  generalize len % 8 = r at *
  subst hq
  clear h hr
  go_enter Tryz.func46, Tryz.ntmps46
  go_wp2
  go_region
  go_wp2
  go_ret
  exact ⟨by go_num, rfl⟩

set_option maxHeartbeats 400000 in
theorem clone_any (ao : Option Addr) (n c : Nat) (xs : List Int) (w : World) (h : Rd w ao n c xs) (hn : n ≤ 140737488351232) :
    Calls Tryz.prog 47 #[.slice ao n c] w fun e w' => ∃ v', e = .returned v' ∧ w'.ownsRow w.heap.size 5 1 v' n (xs.map (Value.int .u8)) ∧ Below w.heap.size w w' := by
  obtain ⟨i0, hi, hz0, hz1, hz2⟩ := info_parts Tryz.info5
  cases ao with
  | none =>
    obtain ⟨rfl, rfl⟩ := h.nul rfl
    have hx : xs = [] := List.eq_nil_of_length_eq_zero h.len
    subst hx
    have hq := fun w => Lib.run_eql_slice_nil (P := Tryz.prog) w 22 5 none 0 0 0 0 Tryz.underlying22
    go_enter Tryz.func47, Tryz.ntmps47
    go_wp2
    go_ret
    exact ⟨_, rfl, World.ownsRow_nil _ _ _ _, Below.refl _ _⟩
  | some ad =>
    have hcells := h.cellsOf ad rfl
    have hl := h.len
    clear h
    have hq := fun w => Lib.run_eql_slice_nil (P := Tryz.prog) w 22 5 (some ad) n c 0 0 Tryz.underlying22
    go_enter Tryz.func47, Tryz.ntmps47
    go_wp2_with (at_builtin; refine wpList_append_own _ rfl _ _ 22 rfl w.heap.size 5 i0 (.int .u8 0) 1 1 Tryz.underlying22 hi hz0 hz1 hz2 rfl (by decide) _ 0 [] rfl ?_ ad n c (xs.map (Value.int .u8)) rfl ?_ ?_ (ints_oneCell _ _) ?_ ?_ ?_ ?_)
    · exact World.ownsRow_lit (base := w.heap.size) (e := 5) (size := 1) w #[] 0 (Nat.le_refl _) (by unfold maxLen; omega) rfl
    · simpa using hl
    · intro j u hu
      have hc := hcells j u hu
      rw [((Below.refl _ _).alloc (Nat.le_refl _) _ : Below w.heap.size w (w.alloc (.cells #[] 5))).cell (World.block_lt_of_cell? w _ hc)]
      exact hc
    · unfold maxLen; omega
    · omega
    · simp
    · intro v' w2 hown2 hgrow2 hv'
      have hb2 : Below w.heap.size w w2 := ((Below.refl _ _).alloc (Nat.le_refl _) _).grown hgrow2 (by simp) (fun q hq => by cases hq; exact Nat.le_refl _)
      clear hgrow2 hcells hv'
      go_wp2
      go_ret
      exact ⟨_, rfl, by simpa using hown2, hb2⟩

theorem by8_done (N : Int) (len : Nat) (h : 0 < len % 8) : by8 N ((len + 7) / 8) = by8 N (len / 8) ++ [N / 2 ^ (8 * (len / 8)) % 256] := by
  rw [show (len + 7) / 8 = len / 8 + 1 by omega, by8_succ]

set_option maxRecDepth 100000 in
set_option maxHeartbeats 1000000 in
theorem done_any (R : Nat) (v : Value) (N : Int) (len : Nat) (w : World) (h : IsW w R v N len) (hl : len ≤ 1000000000) :
    Calls Tryz.prog 27 #[.pointer (some ⟨R, 0, none⟩)] w fun e w' => ∃ v', e = .returned v' ∧ w'.ownsRow w.heap.size 5 1 v' ((len + 7) / 8) ((by8 N ((len + 7) / 8)).map (Value.int .u8)) ∧ Below w.heap.size w w' := by
  obtain ⟨i0, hi, hz0, hz1, hz2⟩ := info_parts Tryz.info5
  have hrow := h.raw.row
  obtain ⟨ao, c, rfl, hr, _⟩ := own_rd h.raw.own (by8_byt _ _)
  have c0 := hrow.cell (i := 0) (by omega)
  simp only [wcells] at c0
  by_cases h0 : len % 8 = 0
  · rw [show (len + 7) / 8 = len / 8 by omega]
    rw [h0] at hrow
    go_enter Tryz.func27, Tryz.ntmps27
    go_wp2_with (go_at_call 47; refine (clone_any ao (len / 8) c _ w hr (by omega)).mono ?_; rintro e w1 ⟨v1, rfl, o1, b1⟩; have d2 := (hrow.of_block (b1.block R hrow.lt)).cell (i := 2) (by omega); simp only [wcells] at d2)
    go_ret
    exact ⟨v1, rfl, o1, b1⟩
  · rw [by8_done N len (by omega), show (len + 7) / 8 = len / 8 + 1 by omega]
    have h1 : (0 : Int) < ((len % 8 : Nat) : Int) := by omega
    have hlq : len / 8 ≤ 1000000000 := by omega
    clear h
    generalize len % 8 = r at *
    generalize len / 8 = q at *
    generalize N / 2 ^ (8 * q) = wd at *
    go_enter Tryz.func27, Tryz.ntmps27
    go_wp2_with (first
      | (go_at_call 47; refine (clone_any ao q c _ w hr (by omega)).mono ?_; rintro e w1 ⟨v1, rfl, o1, b1⟩; have d1 := (hrow.of_block (b1.block R hrow.lt)).cell (i := 1) (by omega); have d2 := (hrow.of_block (b1.block R hrow.lt)).cell (i := 2) (by omega); simp only [wcells] at d1 d2)
      | (at_builtin; refine wpList_append_lies _ rfl _ _ 22 rfl w.heap.size 5 i0 (.int .u8 0) 1 1 Tryz.underlying22 hi hz0 hz1 hz2 rfl (by decide) _ q _ rfl (o1.alloc _) ⟨w1.heap.size, 0, none⟩ 1 1 [_] rfl rfl (cell_one_new _ _ _) (by intro u hu; simp at hu; subst hu; rfl) (by omega) (by unfold maxLen; omega) (by omega) (by have := b1.size; simp; omega) _ rfl ?_; intro g c5 w5 o5 g5 l5 s5))
    go_ret
    refine ⟨_, rfl, by simpa using o5, ?_⟩
    exact (b1.alloc b1.size _).grown g5 (by have := b1.size; simp; omega) (fun k hk => (o1.lt k hk).1)

end Go.Proofs.YtiahbicodlgmhaaGreatDoor.Lim

/- Bytes as a string; helpers. -/
namespace Go.Proofs.YtiahbicodlgmhaaGreatDoor.Lim
open Go.RowKit

theorem IsW.drew {w : World} {R : Nat} {v : Value} {N : Int} {len : Nat} (h : IsW w R v N len) : IsW w.drew R v N len := h.fr (Fr.refl (fun _ => False) _).drew (fun _ _ h => h)
theorem IsW.keep {w w' : World} {R : Nat} {v : Value} {N : Int} {len : Nat} (h : IsW w R v N len) (hb : Below w.heap.size w w') : IsW w' R v N len := h.fr (P := fun _ => False) (Fr.ofBelow hb) (fun _ _ h => h)
end Go.Proofs.YtiahbicodlgmhaaGreatDoor.Lim

/- Put of a code. -/
namespace Go.Proofs.YtiahbicodlgmhaaGreatDoor.Lim
open Go.RowKit

theorem cput_no (R K : Nat) (L : Nat → Int) (n : Nat) (q : Value) (s : Int) (w : World) (hC : Cod w R K L n) (hs : s < 0 ∨ (n : Int) ≤ s ∨ (0 ≤ s ∧ s < n ∧ L s.toNat = 0)) :
    Calls Tryz.prog 149 #[.pointer (some ⟨R, 0, none⟩), q, .int .i64 s] w fun e w' => e = .returned (.bool false) ∧ w' = w := by
  obtain ⟨la, lc, cg, sg, sy, M, dp, hC⟩ := hC
  have c0 := hC.row.cell (i := 0) (by omega)
  rw [show ccells (.slice la n lc) (.slice (some ⟨cg, 0, none⟩) n n) (.slice (some ⟨sg, 0, none⟩) M M) (C L n) (F L n) dp 0 = .slice la n lc from rfl] at c0
  by_cases h1 : s < 0
  · have d1 : decide (s < 0) = true := by simp; omega
    clear hs h1 hC
    go_enter Tryz.func149, Tryz.ntmps149
    go_wp2
    go_ret
    exact ⟨rfl, rfl⟩
  by_cases h2 : (n : Int) ≤ s
  · have d1 : decide (s < 0) = false := by simp; omega
    have d2 : decide ((n : Int) ≤ s) = true := by simp; omega
    clear hs h1 hC h2
    go_enter Tryz.func149, Tryz.ntmps149
    go_wp2
    go_ret
    exact ⟨rfl, rfl⟩
  · obtain ⟨h3, h4, h5⟩ : 0 ≤ s ∧ s < n ∧ L s.toNat = 0 := by
      rcases hs with h | h | h
      · omega
      · omega
      · exact h
    obtain ⟨i, rfl⟩ := Int.eq_ofNat_of_zero_le h3
    rw [Int.toNat_natCast] at h5
    obtain ⟨b, off, rfl, hcell⟩ := hC.rl.plain (by omega)
    have ci := hcell i (by omega)
    rw [h5] at ci
    have d1 : decide ((i : Int) < 0) = false := by simp
    have d2 : decide ((n : Int) ≤ (i : Int)) = false := by simp; omega
    have hin : i < n := by omega
    clear hs h1 hC h2 h3 h4 h5 hcell
    go_enter Tryz.func149, Tryz.ntmps149
    go_wp2
    go_ret
    exact ⟨rfl, rfl⟩

set_option maxRecDepth 100000 in
set_option maxHeartbeats 4000000 in
theorem cput_yes (R K : Nat) (L : Nat → Int) (n : Nat) (Q : Nat) (v : Value) (N : Int) (len i x : Nat) (w : World) (hC : Cod w R K L n) (hW : IsW w Q v N len) (hQ : ∀ k, Of Q v k → K ≤ k) (hi : i < n) (hx : L i = x) (hx0 : 0 < x) (hl : len ≤ 1000000) :
    Calls Tryz.prog 149 #[.pointer (some ⟨R, 0, none⟩), .pointer (some ⟨Q, 0, none⟩), .int .i64 i] w fun e w' => e = .returned (.bool true) ∧ ∃ v', IsW w' Q v' (N + 2 ^ len * T (cd L n i) x) (len + x) ∧ Step Q v v' w w' := by
  obtain ⟨la, lc, cg, sg, sy, M, dp, hC⟩ := hC
  obtain ⟨h288, hL, hf⟩ := er_zero L n hC.ok
  have hx15 : x ≤ 15 := by have := (hL i hi).2; omega
  have hkw := hC.kw
  have hE1 : cdN N len (cd L n i) x = N + 2 ^ len * T (cd L n i) x := by rw [cdN, if_pos (by omega), Int.toNat_natCast]
  have hE2 : ptL len x = len + x := by rw [ptL, if_pos (by omega), Int.toNat_natCast]
  obtain ⟨b, off, rfl, _⟩ := hC.rl.plain (by omega)
  have HC : Hid (∀ w', Below K w w' → w'.cell? ⟨R, 0, none⟩ = some (.slice (some ⟨b, off, none⟩) n lc) ∧ w'.cell? ⟨R, 1, none⟩ = some (.slice (some ⟨cg, 0, none⟩) n n) ∧ w'.cell? ⟨b, off + i, none⟩ = some (.int .i64 x) ∧ w'.cell? ⟨cg, i, none⟩ = some (.int .i64 (cd L n i))) := fun w' hb => by
    have h' := hC.keep hb
    refine ⟨h'.row.cell (i := 0) (by omega), h'.row.cell (i := 1) (by omega), ?_, h'.rc.cell hi⟩
    have := h'.rl.cells _ rfl i hi
    rw [Addr.add_lit, hx] at this
    exact this
  have k0 := HC.out w (Below.refl _ _)
  obtain ⟨k1, k2, k3, k4⟩ := k0
  have d1 : decide ((i : Int) < 0) = false := by simp
  have d2 : decide ((n : Int) ≤ (i : Int)) = false := by simp; omega
  have d3 : ((x : Int) == 0) = false := by simp; omega
  have dw := hW.drew
  have HQ : Hid (∀ k, Of Q v k → K ≤ k) := hQ
  generalize hcd : cd L n i = cv at *
  clear hC hf hL hcd hQ
  go_enter Tryz.func149, Tryz.ntmps149
  go_wp2_with fail
  go_region_held3 (fun w' => w'.cell? ⟨R, 0, none⟩ = some (.slice (some ⟨b, off, none⟩) n lc) ∧ w'.cell? ⟨R, 1, none⟩ = some (.slice (some ⟨cg, 0, none⟩) n n) ∧ w'.cell? ⟨b, off + i, none⟩ = some (.int .i64 x) ∧ w'.cell? ⟨cg, i, none⟩ = some (.int .i64 cv)) (go_keep)
    ((go_at_call 158; refine (code_any Q v N cv x len w.drew dw (by omega)).mono ?_; rintro e w3 ⟨rfl, v3, h3, s3⟩; have B3 : Below K w w3 := (Below.refl _ _).drew.trans (s3.below K hkw HQ.out); have e1 := (HC.out w3 B3).1; have e2 := (HC.out w3 B3).2.1; have e3 := (HC.out w3 B3).2.2.1; have e4 := (HC.out w3 B3).2.2.2))
  clear k1 k2 k3 k4 e1 e2 e3 e4 dw
  go_wp2_with fail
  go_ret
  rw [hE1, hE2] at h3
  exact ⟨rfl, v3, h3, ⟨(Fr.refl _ w).drew.trans s3.fr (fun _ _ e => e), s3.own⟩⟩

end Go.Proofs.YtiahbicodlgmhaaGreatDoor.Lim

/- Cost of a code. -/
namespace Go.Proofs.YtiahbicodlgmhaaGreatDoor.Lim
open Go.RowKit

/-- The bits of the first k symbols, each times its count. -/
def CS (L D : Nat → Int) : Nat → Int
  | 0 => 0
  | k + 1 => CS L D k + L k * D k

theorem CS_bound (L D : Nat → Int) (k : Nat) (hL : ∀ j, j < k → Lm (L j)) (hD : ∀ j, j < k → 0 ≤ D j ∧ D j ≤ 16777216) : 0 ≤ CS L D k ∧ CS L D k ≤ 251658240 * k := by
  induction k with
  | zero => simp [CS]
  | succ k ih =>
    have h1 := ih (fun j hj => hL j (by omega)) (fun j hj => hD j (by omega))
    have h2 := hL k (by omega)
    have h3 := hD k (by omega)
    have h4 : 0 ≤ L k * D k := Int.mul_nonneg h2.1 h3.1
    have h5 : L k * D k ≤ 15 * 16777216 := Int.mul_le_mul h2.2 h3.2 h3.1 (by omega)
    simp only [CS]
    omega

set_option maxRecDepth 100000 in
set_option maxHeartbeats 4000000 in
theorem cost_any (R K : Nat) (L D : Nat → Int) (n : Nat) (co : Option Addr) (cc : Nat) (w : World) (hC : Cod w R K L n) (hr : Ri w co n cc D) (hD : ∀ j, j < n → 0 ≤ D j ∧ D j ≤ 16777216) :
    Calls Tryz.prog 136 #[.pointer (some ⟨R, 0, none⟩), .slice co n cc] w fun e w' => e = .returned (.int .i64 (CS L D n)) ∧ w' = w.drew := by
  obtain ⟨la, lc, cg, sg, sy, M, dp, hC⟩ := hC
  obtain ⟨h288, hL, hf⟩ := er_zero L n hC.ok
  have c0 := hC.row.cell (i := 0) (by omega)
  rw [show ccells (.slice la n lc) (.slice (some ⟨cg, 0, none⟩) n n) (.slice (some ⟨sg, 0, none⟩) M M) (C L n) (F L n) dp 0 = .slice la n lc from rfl] at c0
  have hle := hC.rl.le
  go_enter Tryz.func136, Tryz.ntmps136
  go_wp2_with fail
  go_region
  have rl := hC.rl.drew
  have rd := hr.drew
  have HLm : Hid (∀ j, j < n → Lm (L j)) := hL
  have HDm : Hid (∀ j, j < n → 0 ≤ D j ∧ D j ≤ 16777216) := hD
  clear hC hr hf c0 hL hD
  go_wp2_with fail
  go_loop [5, 6, 7, 22] (fun cv _ _ i => ∃ k : Nat, k ≤ n ∧ i = .int .i64 k ∧ cv = .int .i64 (CS L D k)) (fun _ _ _ i => n - (intOf i).toNat)
  case atStart => exact ⟨0, by omega, rfl, rfl⟩
  case round =>
    obtain ⟨k, hk, rfl, rfl⟩ := hrel
    by_cases hlt : k < n
    · obtain ⟨b, off, rfl, hc1⟩ := rl.plain (by omega)
      obtain ⟨b', off', rfl, hc2⟩ := rd.plain (by omega)
      have c1 := hc1 k hlt
      have c2 := hc2 k hlt
      have hb := CS_bound L D k (fun j hj => HLm.out j (by omega)) (fun j hj => HDm.out j (by omega))
      have h4 : 0 ≤ L k * D k := Int.mul_nonneg (HLm.out k hlt).1 (HDm.out k hlt).1
      have h5 : L k * D k ≤ 15 * 16777216 := Int.mul_le_mul (HLm.out k hlt).2 (HDm.out k hlt).2 (HDm.out k hlt).1 (by omega)
      have HS : Hid (CS L D (k + 1) = CS L D k + L k * D k) := rfl
      clear rl rd hc1 hc2
      go_wp2
      go_round
      case rel => exact ⟨k + 1, by omega, by go_num, by rw [HS.out]⟩
      case measure => simp [intOf]; omega
    · obtain rfl : k = n := by omega
      clear rl rd
      go_wp2
      go_ret
      exact ⟨rfl, rfl⟩

end Go.Proofs.YtiahbicodlgmhaaGreatDoor.Lim

/- The lengths that the packages give, as the code's own arithmetic. -/
namespace Go.Proofs.YtiahbicodlgmhaaGreatDoor.Lim
open Go.RowKit

/-- Lengths that are a best code's. -/
structure Gd (D : Nat → Int) (n m : Nat) (L : Nat → Int) : Prop where
  pos : ∀ j, j < n → 0 < D j → 1 ≤ L j ∧ L j ≤ m
  zer : ∀ j, j < n → ¬ 0 < D j → L j = 0
  full : 2 ≤ (sy D n).length → ∀ K, m ≤ K → G L K n = 2 ^ K
  one : (sy D n).length < 2 → ∀ j, j < n → 0 < D j → L j = 1
  cost : CS L D n = lc D n m

theorem G_sy (D L : Nat → Int) (K : Nat) : ∀ n, (∀ j, j < n → 0 < D j → 1 ≤ L j ∧ L j ≤ K) → (∀ j, j < n → ¬ 0 < D j → L j = 0) → G L K n = sm (fun s => (2 : Int) ^ (K - (L s).toNat)) (sy D n)
  | 0, _, _ => rfl
  | n + 1, h1, h2 => by
    have ih := G_sy D L K n (fun j hj => h1 j (by omega)) (fun j hj => h2 j (by omega))
    simp only [G, sy]
    by_cases hp : 0 < D n
    · have := h1 n (by omega) hp
      rw [if_pos hp, if_pos (by omega), sm_append, ih]
      simp [sm]
    · have := h2 n (by omega) hp
      rw [if_neg hp, if_neg (by omega), ih, Int.add_zero]

theorem CS_sy (D L : Nat → Int) : ∀ n, (∀ j, j < n → ¬ 0 < D j → L j = 0) → CS L D n = sm (fun s => D s * L s) (sy D n)
  | 0, _ => rfl
  | n + 1, h2 => by
    have ih := CS_sy D L n (fun j hj => h2 j (by omega))
    simp only [CS, sy]
    by_cases hp : 0 < D n
    · rw [if_pos hp, sm_append, ih]
      simp only [sm]
      rw [Int.mul_comm]
      omega
    · rw [if_neg hp, ih, h2 n (by omega) hp]
      omega

/-- The lengths of the first packages. -/
theorem gd_many (D : Nat → Int) (n i : Nat) (hD : ∀ j, j < n → 0 ≤ D j ∧ D j ≤ 16777216) (ys : List Pt) (hr : Rw (lvs D n) i ys) (h2 : 2 ≤ (sy D n).length) (hm : (sy D n).length ≤ 2 ^ (i + 1)) : Gd D n (i + 1) (fun j => (bt ys (sy D n).length j : Int)) := by
  have hS := lvs_sy D n hD
  obtain ⟨p1, p2', p3, p4, _, _⟩ := pm_main hS hr h2 hm
  have hpos : ∀ j, j < n → 0 < D j → 1 ≤ (bt ys (sy D n).length j : Int) ∧ (bt ys (sy D n).length j : Int) ≤ ((i + 1 : Nat) : Int) := fun j hj hp => by
    have := p1 j ((sy_mem D n j).2 ⟨hj, hp⟩)
    omega
  have hzer : ∀ j, j < n → ¬ 0 < D j → (bt ys (sy D n).length j : Int) = 0 := fun j hj hp => by
    have := p2' j (fun h => hp ((sy_mem D n j).1 h).2)
    omega
  refine ⟨hpos, hzer, fun _ K hK => ?_, fun h => by omega, ?_⟩
  · rw [G_sy D _ K n (fun j hj hp => by have := hpos j hj hp; omega) hzer]
    have e1 : sm (fun s => (2 : Int) ^ (K - ((bt ys (sy D n).length s : Nat) : Int).toNat)) (sy D n) = 2 ^ (K - (i + 1)) * sm (fun s => (2 : Int) ^ (i + 1 - bt ys (sy D n).length s)) (sy D n) := by
      have hg : ∀ l : List Nat, (∀ s ∈ l, s ∈ sy D n) → sm (fun s => (2 : Int) ^ (K - ((bt ys (sy D n).length s : Nat) : Int).toNat)) l = 2 ^ (K - (i + 1)) * sm (fun s => (2 : Int) ^ (i + 1 - bt ys (sy D n).length s)) l := by
        intro l hl
        induction l with
        | nil => simp [sm]
        | cons s l ih =>
          have h1 := p1 s (hl s (by simp))
          simp only [sm]
          rw [ih (fun x hx => hl x (by simp [hx])), Int.mul_add, ← Int.pow_add, Int.toNat_natCast, show K - (i + 1) + (i + 1 - bt ys (sy D n).length s) = K - bt ys (sy D n).length s by omega]
      exact hg _ (fun s h => h)
    rw [e1, p3, ← Int.pow_add, show K - (i + 1) + (i + 1) = K by omega]
  · rw [CS_sy D _ n hzer, p4, lc, if_neg (by omega), ← hr.row (so D n) (so_up D n) (lvs_ct D n), ← List.map_take, sm_map]
    rfl

/-- One symbol, or none. -/
theorem gd_few (D : Nat → Int) (n m : Nat) (h2 : (sy D n).length < 2) (hm : 1 ≤ m) (L : Nat → Int) (h1 : ∀ j, j < n → 0 < D j → L j = 1) (h0 : ∀ j, j < n → ¬ 0 < D j → L j = 0) : Gd D n m L := by
  refine ⟨fun j hj hp => by have := h1 j hj hp; omega, h0, fun h => by omega, fun _ => h1, ?_⟩
  rw [CS_sy D L n h0, lc, if_pos h2]
  have hp := so_perm D n
  have hl := so_len D n
  match hq : sy D n, h2 with
  | [], _ =>
    rw [hq] at hl
    have : so D n = [] := List.eq_nil_of_length_eq_zero hl
    rw [this]; rfl
  | [s], _ =>
    rw [hq] at hp
    have e : so D n = [D s] := List.perm_singleton.1 (by simpa using hp)
    have hs := (sy_mem D n s).1 (by rw [hq]; simp)
    rw [e]
    simp only [sm, List.headD_cons]
    rw [h1 s hs.1 hs.2]
    omega
  | a :: b :: r, h => simp at h; omega

theorem p2_nat (m : Nat) : ((2 ^ m : Nat) : Int) = 2 ^ m := by simp

/-- What a best code's lengths are to the code's own tests. -/
theorem Gd.kraft {D L : Nat → Int} {n m : Nat} (h : Gd D n m L) (hm : m ≤ 15) : (2 ≤ (sy D n).length → G L 15 n = 32768) ∧ ((sy D n).length < 2 → G L 15 n = (sy D n).length * 16384) := by
  refine ⟨fun h2 => h.full h2 15 hm, fun h2 => ?_⟩
  rw [G_sy D L 15 n (fun j hj hp => by have := h.one h2 j hj hp; omega) h.zer]
  have hg : ∀ l : List Nat, (∀ s ∈ l, s ∈ sy D n) → sm (fun s => (2 : Int) ^ (15 - (L s).toNat)) l = l.length * 16384 := by
    intro l hl
    induction l with
    | nil => simp [sm]
    | cons s l ih =>
      have hs := (sy_mem D n s).1 (hl s (by simp))
      have h1 := h.one h2 s hs.1 hs.2
      simp only [sm, List.length_cons]
      rw [ih (fun x hx => hl x (by simp [hx])), h1]
      have : (2 : Int) ^ (15 - (1 : Int).toNat) = 16384 := by decide
      rw [this]
      omega
  exact hg _ (fun s h => h)

theorem SM_sy (D L : Nat → Int) : ∀ n, (∀ j, j < n → ¬ 0 < D j → L j = 0) → SM L n = sm L (sy D n)
  | 0, _ => rfl
  | n + 1, h2 => by
    have ih := SM_sy D L n (fun j hj => h2 j (by omega))
    simp only [SM, sy]
    by_cases hp : 0 < D n
    · rw [if_pos hp, sm_append, ih]
      simp [sm]
    · rw [if_neg hp, ih, h2 n (by omega) hp, Int.add_zero]

theorem Gd.lm {D L : Nat → Int} {n m : Nat} (h : Gd D n m L) (hm : m ≤ 15) : ∀ j, j < n → Lm (L j) := fun j hj => by
  by_cases hp : 0 < D j
  · have := h.pos j hj hp
    exact ⟨by omega, by omega⟩
  · have := h.zer j hj hp
    exact ⟨by omega, by omega⟩

theorem Gd.er {D L : Nat → Int} {n m : Nat} (h : Gd D n m L) (hm : m ≤ 15) (hn : n ≤ 288) : er L n = 0 := by
  have hk := h.kraft hm
  have hl : (sy D n).length ≤ n := sy_le D n
  have : G L 15 n ≤ 32768 := by
    by_cases h2 : 2 ≤ (sy D n).length
    · have := hk.1 h2; omega
    · have := hk.2 (by omega); omega
  unfold YtiahbicodlgmhaaGreatDoor.er
  rw [if_pos ((okL_iff L n).2 ⟨hn, h.lm hm⟩), if_neg (by omega)]

theorem Gd.nw {D L : Nat → Int} {n m : Nat} (h : Gd D n m L) (hm : m ≤ 15) (hn : n ≤ 288) : nw L n true = 0 := by
  unfold YtiahbicodlgmhaaGreatDoor.nw
  rw [if_pos (h.er hm hn), if_pos]
  by_cases h2 : 2 ≤ (sy D n).length
  · left
    unfold fu
    rw [(okL_iff L n).2 ⟨hn, h.lm hm⟩, (h.kraft hm).1 h2]
    rfl
  · right
    refine ⟨rfl, ?_⟩
    rw [SM_sy D L n h.zer]
    have hg : ∀ l : List Nat, (∀ s ∈ l, s ∈ sy D n) → sm L l = l.length := by
      intro l hl
      induction l with
      | nil => simp [sm]
      | cons s l ih =>
        have hs := (sy_mem D n s).1 (hl s (by simp))
        have h1 := h.one (by omega) s hs.1 hs.2
        simp only [sm, List.length_cons]
        rw [ih (fun x hx => hl x (by simp [hx])), h1]
        omega
    rw [hg _ (fun s h => h)]
    omega

end Go.Proofs.YtiahbicodlgmhaaGreatDoor.Lim

/- isNoCount, areCounts. -/
namespace Go.Proofs.YtiahbicodlgmhaaGreatDoor.Lim
open Go.RowKit

/-- A count that may be. -/
def Cm (n : Int) : Prop := 0 ≤ n ∧ n ≤ 16777216

theorem noCnt_no (n : Int) (w : World) (h : Cm n) : Calls Tryz.prog 151 #[.int .i64 n] w fun e w' => e = .returned (.bool false) ∧ w' = w := by
  obtain ⟨h0, h1⟩ := h
  have d1 : decide (n < 0) = false := by simp; omega
  have d2 : decide (16777216 < n) = false := by simp; omega
  clear h0 h1
  go_enter Tryz.func151, Tryz.ntmps151
  go_wp2
  go_ret
  exact ⟨rfl, rfl⟩

theorem noCnt_yes (n : Int) (w : World) (h : ¬ Cm n) : Calls Tryz.prog 151 #[.int .i64 n] w fun e w' => e = .returned (.bool true) ∧ w' = w := by
  by_cases h0 : n < 0
  · have d1 : decide (n < 0) = true := by simp; omega
    clear h h0
    go_enter Tryz.func151, Tryz.ntmps151
    go_wp2
    go_ret
    exact ⟨rfl, rfl⟩
  · have d1 : decide (n < 0) = false := by simp; omega
    have d2 : decide (16777216 < n) = true := by unfold Cm at h; simp; omega
    clear h h0
    go_enter Tryz.func151, Tryz.ntmps151
    go_wp2
    go_ret
    exact ⟨rfl, rfl⟩

set_option maxHeartbeats 400000 in
theorem cindex_any (ao : Option Addr) (n c : Nat) (L : Nat → Int) (w : World) (h : Ri w ao n c L) (hn : n ≤ 1000000) :
    Calls Tryz.prog 150 #[.slice ao n c, .func (.func 151) #[] #[]] w fun e w' => ∃ r : Int, e = .returned (.int .i64 r) ∧ w' = w ∧ ((r = -1 ∧ ∀ j, j < n → Cm (L j)) ∨ (0 ≤ r ∧ ¬ ∀ j, j < n → Cm (L j))) := by
  go_enter Tryz.func150, Tryz.ntmps150
  go_wp2
  go_loop [5, 8] (fun _ i => ∃ k : Nat, k ≤ n ∧ i = .int .i64 k ∧ ∀ j, j < k → Cm (L j)) (fun _ i => n - (intOf i).toNat)
  case atStart => exact ⟨0, by omega, rfl, fun j hj => by omega⟩
  case round =>
    obtain ⟨k, hk, rfl, hall⟩ := hrel
    by_cases hlt : k < n
    · obtain ⟨b, off, rfl, hcell⟩ := h.plain (by omega)
      have hck := hcell k hlt
      clear hcell h
      by_cases hL : Cm (L k)
      · have HA : Hid (∀ j, j < k + 1 → Cm (L j)) := fun j hj => by
          rcases Nat.lt_or_ge j k with h' | h'
          · exact hall j h'
          · obtain rfl : j = k := by omega
            exact hL
        clear hall
        go_wp2_with (go_at_call 151; refine (noCnt_no (L k) w hL).mono ?_; rintro e w1 ⟨rfl, hw⟩; subst w1)
        go_round
        case rel => exact ⟨k + 1, by omega, by go_num, HA.out⟩
        case measure => simp [intOf]; omega
      · have HA : Hid (¬ ∀ j, j < n → Cm (L j)) := fun h' => hL (h' k hlt)
        clear hall
        go_wp2_with (go_at_call 151; refine (noCnt_yes (L k) w hL).mono ?_; rintro e w1 ⟨rfl, hw⟩; subst w1)
        go_ret
        exact ⟨_, rfl, rfl, .inr ⟨by omega, HA.out⟩⟩
    · obtain rfl : k = n := by omega
      clear h
      go_wp2
      go_ret
      exact ⟨_, rfl, rfl, .inl ⟨rfl, hall⟩⟩

theorem ccontains_no (ao : Option Addr) (n c : Nat) (L : Nat → Int) (w : World) (h : Ri w ao n c L) (hn : n ≤ 1000000) (hL : ∀ j, j < n → Cm (L j)) :
    Calls Tryz.prog 138 #[.slice ao n c, .func (.func 151) #[] #[]] w fun e w' => e = .returned (.bool false) ∧ w' = w := by
  go_enter Tryz.func138, Tryz.ntmps138
  go_wp2_with (go_at_call 150; refine (cindex_any ao n c L w h hn).mono ?_; rintro e w1 ⟨r, rfl, hw, hr⟩; subst w1)
  go_ret
  rcases hr with ⟨rfl, _⟩ | ⟨_, hq⟩
  · exact ⟨rfl, rfl⟩
  · exact absurd hL hq

theorem ccontains_yes (ao : Option Addr) (n c : Nat) (L : Nat → Int) (w : World) (h : Ri w ao n c L) (hn : n ≤ 1000000) (hL : ¬ ∀ j, j < n → Cm (L j)) :
    Calls Tryz.prog 138 #[.slice ao n c, .func (.func 151) #[] #[]] w fun e w' => e = .returned (.bool true) ∧ w' = w := by
  go_enter Tryz.func138, Tryz.ntmps138
  go_wp2_with (go_at_call 150; refine (cindex_any ao n c L w h hn).mono ?_; rintro e w1 ⟨r, rfl, hw, hr⟩; subst w1)
  go_ret
  rcases hr with ⟨_, hq⟩ | ⟨h0, _⟩
  · exact absurd hq hL
  · exact ⟨by simp [h0], rfl⟩

/-- Whether the first k are counts. -/
def acm (D : Nat → Int) : Nat → Bool
  | 0 => true
  | k + 1 => acm D k && (decide (0 ≤ D k) && decide (D k ≤ 16777216))

theorem acm_iff (D : Nat → Int) (k : Nat) : acm D k = true ↔ ∀ j, j < k → Cm (D j) := by
  induction k with
  | zero => simp [acm]
  | succ k ih =>
    simp only [acm, Bool.and_eq_true, decide_eq_true_eq, ih]
    constructor
    · rintro ⟨h1, h2⟩ j hj
      rcases Nat.lt_or_ge j k with h' | h'
      · exact h1 j h'
      · obtain rfl : j = k := by omega
        exact h2
    · intro h
      exact ⟨fun j hj => h j (by omega), h k (by omega)⟩

/-- Whether they are counts, and not too many. -/
def okc (D : Nat → Int) (n : Nat) : Bool := decide (n ≤ 288) && acm D n

theorem okc_iff (D : Nat → Int) (n : Nat) : okc D n = true ↔ n ≤ 288 ∧ ∀ j, j < n → Cm (D j) := by
  rw [okc, Bool.and_eq_true, decide_eq_true_eq, acm_iff]

theorem counts_any (ao : Option Addr) (n c : Nat) (D : Nat → Int) (w : World) (h : Ri w ao n c D) :
    Calls Tryz.prog 143 #[.slice ao n c] w fun e w' => e = .returned (.bool (okc D n)) ∧ w' = w := by
  by_cases h288 : n ≤ 288
  · have d1 : decide ((n : Int) ≤ 288) = true := by simp; omega
    by_cases hc : ∀ j, j < n → Cm (D j)
    · rw [(okc_iff D n).2 ⟨h288, hc⟩]
      go_enter Tryz.func143, Tryz.ntmps143
      go_wp2_with (go_at_call 138; refine (ccontains_no ao n c D w h (by omega) hc).mono ?_; rintro e w1 ⟨rfl, hw⟩; subst w1)
      go_ret
      exact ⟨rfl, rfl⟩
    · have e : okc D n = false := by
        cases hq : okc D n
        · rfl
        · exact absurd ((okc_iff D n).1 hq).2 hc
      rw [e]
      go_enter Tryz.func143, Tryz.ntmps143
      go_wp2_with (go_at_call 138; refine (ccontains_yes ao n c D w h (by omega) hc).mono ?_; rintro e w1 ⟨rfl, hw⟩; subst w1)
      go_ret
      exact ⟨rfl, rfl⟩
  · have d1 : decide ((n : Int) ≤ 288) = false := by simp; omega
    have e : okc D n = false := by simp [okc, h288]
    rw [e]
    clear h h288 e
    go_enter Tryz.func143, Tryz.ntmps143
    go_wp2
    go_ret
    exact ⟨rfl, rfl⟩

end Go.Proofs.YtiahbicodlgmhaaGreatDoor.Lim
