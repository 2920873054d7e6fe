/- The walk of SumRows. -/
import Derived.Test.YtlollkkhogofoaaWSums
namespace Go.Proofs.Ytlollkkhogofoaa
open Go.RowKit

theorem q_cell22 {ops : Array Oper} {o : Oper} {a : Act} {C : World → Prop} {K : Act → Prop} {E : Prop} (hw : Region.wanted o (yielded ops a.tmps) = true) (x : Operand) (ho : o.op = .load 22 x) (b i : Nat) (hx : a.eval x = .pointer (some ⟨b, i, none⟩)) (v : Value)
    (hc : ∀ w, C w → w.cell? ⟨b, i, none⟩ = some v) (hk : K (a.put o.dst v)) : if Region.wanted o (yielded ops a.tmps) = true then o.quiet Try.prog a C K else E := by
  rw [if_pos hw]
  refine ⟨v, fun w hC => ?_, hk⟩
  have h := hc w hC
  unfold Oper.quietAt execOp
  simp only [ho, hx]
  simp [go_sem, h]

/-- What region 16 reads. -/
structure RS (w : World) (b o : Nat) (ra : Option Addr) (rl rc : Nat) (zs : List Int) (w' : World) : Prop where
  r : Rd w' ra rl rc zs
  cell : w'.cell? ⟨b, o, none⟩ = some (.slice ra rl rc)
  bel : Below w.heap.size w w'

theorem RS.keep {w : World} {b o : Nat} {ra : Option Addr} {rl rc : Nat} {zs : List Int} {w' w'' : World} (h : RS w b o ra rl rc zs w') (hb : Below w'.heap.size w' w'') : RS w b o ra rl rc zs w'' :=
  ⟨h.r.keep hb, (hb.cell (World.block_lt_of_cell? w' _ h.cell)).trans h.cell, h.bel.trans (hb.mono h.bel.size)⟩

/-- The parts so far. -/
structure PS (w : World) (wr : World) (v : Value) (n : Nat) (xs : List Int) : Prop where
  own : wr.ownsRow w.heap.size 5 1 v n (xs.map (Value.int .u8))
  byt : ∀ x ∈ xs, 0 ≤ x ∧ x < 256
  bel : Below w.heap.size w wr

theorem PS.keep {w wr w' : World} {n : Nat} {v : Value} {xs : List Int} (h : PS w wr v n xs) (hb : Below wr.heap.size wr w') : PS w w' v n xs :=
  ⟨own_keep h.own hb, h.byt, h.bel.trans (hb.mono h.bel.size)⟩

theorem rows_skip (lo : Option Addr) (m d : Nat) (w : World) (h : 30 < m) :
    Calls Try.prog 6 #[.slice lo m d] w fun e w' => e = .returned (.bool true) ∧ Below w.heap.size w w' := by
  have d1 : decide ((30 : Int) < (m : Int)) = true := by simp; omega
  clear h
  go_enter Try.func6, Try.ntmps6
  go_wp2_with (go_at_call 8; refine (known_any _).mono ?_; rintro e w1 ⟨rfl, hb⟩)
  go_ret
  exact ⟨rfl, hb⟩

set_option maxRecDepth 100000 in
set_option maxHeartbeats 8000000 in
theorem rows_go (lo : Option Addr) (m d : Nat) (A : Nat → Option Addr) (L C : Nat → Nat) (Z : Nat → List Int) (w : World) (hm : m ≤ 30)
    (hrow : ∀ j, j < m → (∃ b off, lo = some ⟨b, off, none⟩ ∧ w.cell? ⟨b, off + j, none⟩ = some (.slice (A j) (L j) (C j))) ∧ Rd w (A j) (L j) (C j) (Z j)) :
    Calls Try.prog 6 #[.slice lo m d] w fun e w' => e = .returned (.bool true) ∧ Below w.heap.size w w' := by
  have d1 : decide ((30 : Int) < (m : Int)) = false := by simp; omega
  have HW : Hid (∀ j, j < m → (∃ b off, lo = some ⟨b, off, none⟩ ∧ w.cell? ⟨b, off + j, none⟩ = some (.slice (A j) (L j) (C j))) ∧ Rd w (A j) (L j) (C j) (Z j)) := hrow
  clear hrow
  go_enter Try.func6, Try.ntmps6
  go_wp2_with fail
  refine (known_any _).mono ?_
  rintro e w0 ⟨rfl, hb0⟩
  have HB0 : Hid (Below w.heap.size w w0) := hb0
  clear hb0
  go_wp2_with fail
  refine (crcR none 0 0 [] _ (Rd.nil _) (by omega)).mono ?_
  rintro e w1 ⟨rfl, b1⟩
  have HB1 : Hid (Below w.heap.size w w1) := HB0.out.trans (b1.mono HB0.out.size)
  clear b1 HB0
  go_wp2_with fail
  refine (adlR none 0 0 [] _ (Rd.nil _) (by omega)).mono ?_
  rintro e wq ⟨rfl, hw⟩
  subst hw
  go_wp2_with fail
  refine (adlR none 0 0 [] _ (Rd.nil _) (by omega)).mono ?_
  rintro e wq ⟨rfl, hw⟩
  subst hw
  go_wp2_with fail
  go_loopw [3, 4, 5, 6, 7] (fun cv av jv v i wr => ∃ (k N : Nat) (xs : List Int), i = .int .i64 (k : Int) ∧ k ≤ m ∧ xs.length = N ∧ N ≤ 300 * k ∧ cv = .int .u32 (CR xs) ∧ av = .int .u32 (AL xs) ∧ jv = .int .u32 (AL xs) ∧ PS w wr v N xs) (fun _ _ _ _ i _ => (m - intOf i).toNat)
  case atStart => exact ⟨0, 0, [], rfl, by omega, rfl, by omega, rfl, rfl, rfl, World.ownsRow_nil _ _ _ _, (fun x hx => by cases hx), HB1.out⟩
  case round =>
    clear HB1
    obtain ⟨k, N, xs, rfl, hk, hxl, hN, rfl, rfl, rfl, ps⟩ := hrel
    obtain ⟨va, vc, rfl, hrv, hvb⟩ := own_rd ps.own ps.byt
    by_cases hkm : k < m
    · have hkm' : (k : Int) < m := by omega
      obtain ⟨⟨b, off, rfl, hcell⟩, hrd⟩ := HW.out k hkm
      have hc0 : wr.cell? ⟨b, off + k, none⟩ = some (.slice (A k) (L k) (C k)) := (ps.bel.cell (World.block_lt_of_cell? w _ hcell)).trans hcell
      have HP : Hid (PS w wr (.slice va N vc) N xs ∧ xs.length = N ∧ N ≤ 300 * k ∧ Rd w (A k) (L k) (C k) (Z k) ∧ k < m) := ⟨ps, hxl, hN, hrd, hkm⟩
      obtain ⟨ra, hra⟩ : ∃ ra, ra = A k := ⟨_, rfl⟩
      obtain ⟨rl, hrl⟩ : ∃ rl, rl = L k := ⟨_, rfl⟩
      obtain ⟨rc, hrc⟩ : ∃ rc, rc = C k := ⟨_, rfl⟩
      obtain ⟨zs, hzs⟩ : ∃ zs, zs = Z k := ⟨_, rfl⟩
      rw [← hra, ← hrl, ← hrc] at hc0 hcell HP
      rw [← hzs] at HP
      clear ps hxl hN hrd hrv hvb hra hrl hrc hzs hkm
      by_cases h2 : rl ≤ 300
      · have d3 : decide ((300 : Int) < (rl : Int)) = false := by simp; omega
        have HC : Hid (∀ w', Below w.heap.size w w' → w'.cell? ⟨b, off + k, none⟩ = some (.slice ra rl rc)) := fun w' hb => (hb.cell (World.block_lt_of_cell? w _ hcell)).trans hcell
        clear hcell
        go_wp2_with fail
        refine (moreR ra rl rc xs zs _ HP.out.1.byt (HP.out.2.2.2.1.keep HP.out.1.bel) (by omega)).mono ?_
        rintro e w2 ⟨rfl, b2⟩
        have P2 : Hid (PS w w2 (.slice va N vc) N xs) := HP.out.1.keep b2
        clear b2
        have hc1 := HC.out w2 P2.out.bel
        clear hc0
        go_wp2_with fail
        refine (amoreR ra rl rc xs zs _ (HP.out.2.2.2.1.keep P2.out.bel) (by omega)).mono ?_
        rintro e wq ⟨rfl, hw⟩
        subst hw
        go_wp2_with fail
        have hzl : zs.length = rl := HP.out.2.2.2.1.len
        have k1 : ∀ wq, (RS w b (off + k) ra rl rc zs wq ∧ PS w wq (.slice va N vc) N xs) → Calls Try.prog 10 #[.slice ra rl rc] wq (fun e w' => e = .returned (.int .u32 (AL zs)) ∧ (RS w b (off + k) ra rl rc zs w' ∧ PS w w' (.slice va N vc) N xs)) := fun wq h => (adlR ra rl rc zs wq h.1.r (by omega)).mono (fun e w'' hh => ⟨hh.1, by rw [hh.2]; exact h⟩)
        have k2 : ∀ wq, (RS w b (off + k) ra rl rc zs wq ∧ PS w wq (.slice va N vc) N xs) → Calls Try.prog 15 #[.int .u32 (AL xs), .int .u32 (AL zs), .int .i64 (rl : Int)] wq (fun e w' => e = .returned (.int .u32 (AL (xs ++ zs))) ∧ (RS w b (off + k) ra rl rc zs w' ∧ PS w w' (.slice va N vc) N xs)) := fun wq h => by
          have := joinR xs zs wq (by omega)
          rw [hzl] at this
          exact this.mono (fun e w'' hh => ⟨hh.1, by rw [hh.2]; exact h⟩)
        have HPD : Hid (PS w wq.drew (.slice va N vc) N xs) := P2.out.keep (Below.refl _ _).drew
        clear hzl
        refine wp_region_quiet (C := fun w' => RS w b (off + k) ra rl rc zs w' ∧ PS w w' (.slice va N vc) N xs) (by kernel_rfl) (by kernel_rfl) ⟨⟨HP.out.2.2.2.1.keep HPD.out.bel, HC.out _ HPD.out.bel, HPD.out.bel⟩, HPD.out⟩ ?_
        refine wpQuiet_step (fun K hK => ?_)
        (go_simp; refine ⟨_, fun wq hs hp => rfl, hK _ ?_⟩; clear hK K)
        refine wpQuiet_step (fun K hK => ?_)
        (go_simp; refine ⟨_, fun wq hs hp => rfl, hK _ ?_⟩; clear hK K)
        refine wpQuiet_step (fun K hK => ?_)
        (go_simp; refine ⟨_, fun wq hs hp => rfl, hK _ ?_⟩; clear hK K)
        refine wpQuiet_step (fun K hK => ?_)
        (go_simp; refine ⟨_, fun wq hs hp => rfl, hK _ ?_⟩; clear hK K)
        refine wpQuiet_step (fun K hK => ?_)
        (refine q_cell22 (by rfl) _ rfl b (off + k) rfl _ (fun wq h => h.1.cell) (hK _ ?_); clear hK K)
        refine wpQuiet_step (fun K hK => ?_)
        (refine q_call1 (by rfl) 10 cf10 _ _ rfl (.slice ra rl rc) rfl _ k1 (hK _ ?_); clear hK K)
        refine wpQuiet_step (fun K hK => ?_)
        (go_simp; refine ⟨_, fun wq hs hp => rfl, hK _ ?_⟩; clear hK K)
        refine wpQuiet_step (fun K hK => ?_)
        (go_simp; refine ⟨_, fun wq hs hp => rfl, hK _ ?_⟩; clear hK K)
        refine wpQuiet_step (fun K hK => ?_)
        (go_simp; refine ⟨_, fun wq hs hp => rfl, hK _ ?_⟩; clear hK K)
        refine wpQuiet_step (fun K hK => ?_)
        (refine q_cell22 (by rfl) _ rfl b (off + k) rfl _ (fun wq h => h.1.cell) (hK _ ?_); clear hK K)
        refine wpQuiet_step (fun K hK => ?_)
        (go_simp; refine ⟨_, fun wq hs hp => rfl, hK _ ?_⟩; clear hK K)
        refine wpQuiet_step (fun K hK => ?_)
        (refine q_call3 (by rfl) 15 cf15 _ _ _ _ rfl (.int .u32 (AL xs)) (.int .u32 (AL zs)) (.int .i64 (rl : Int)) rfl rfl rfl _ k2 (hK _ ?_); clear hK K)
        refine wpQuiet_step (fun K hK => ?_)
        (go_simp; refine ⟨_, fun wq hs hp => rfl, hK _ ?_⟩; clear hK K)
        refine wpQuiet_nil ?_
        intro w5 h5
        have P5 : Hid (PS w w5 (.slice va N vc) N xs) := h5.2
        have o5 := h5.2.own
        have hc5 := HC.out w5 h5.2.bel
        have hrz := HP.out.2.2.2.1.keep h5.2.bel
        have hsz : w.heap.size ≤ w5.heap.size := h5.2.bel.size
        have hNb : N + rl ≤ 1000000 := by have := HP.out; omega
        clear h5 k1 k2 HPD hc1 P2
        go_wp2_with (first | (refine wpList_append_v rfl _ _ rfl w.heap.size N _ xs rfl o5 ra rl rc zs rfl hrz (by omega) hsz ?_; intro v6 w6 own6 gr6; have hb6 : Below w.heap.size w w6 := P5.out.bel.grown gr6 P5.out.bel.size (fun g hg => (o5.lt g hg).1); have hbz : ∀ x ∈ xs ++ zs, 0 ≤ x ∧ x < 256 := (fun x hx => (List.mem_append.1 hx).elim (P5.out.byt x) (hrz.byt x)); obtain ⟨va6, vc6, rfl, hrv6, hvb6⟩ := own_rd own6 hbz))
        obtain ⟨xz, hxz⟩ : ∃ xz, xz = xs ++ zs := ⟨_, rfl⟩
        obtain ⟨Nr, hNr⟩ : ∃ Nr, Nr = N + rl := ⟨_, rfl⟩
        rw [← hxz, ← hNr] at own6 hrv6
        rw [← hxz] at hbz
        rw [← hNr, ← hxz]
        have H6 : Hid (PS w w6 (.slice va6 Nr vc6) Nr xz ∧ xz.length = Nr ∧ Nr ≤ 300 * (k + 1) ∧ Rd w6 va6 Nr vc6 xz ∧ k < m) := ⟨⟨own6, hbz, hb6⟩, hrv6.len, by have := HP.out; omega, hrv6, HP.out.2.2.2.2⟩
        have hNr2 : Nr ≤ 1000000 := by omega
        clear own6 hbz hb6 hrv6 hvb6 gr6 hxz hNr HP P5 o5 hrz hsz hNb hc5 HC
        go_wp2_with fail
        refine (rcrcR va6 Nr vc6 xz _ H6.out.2.2.2.1 (by omega)).mono ?_
        rintro e wq ⟨rfl, hw⟩
        subst hw
        go_wp2_with fail
        refine (radlR va6 Nr vc6 xz _ H6.out.2.2.2.1 (by omega)).mono ?_
        rintro e wq ⟨rfl, hw⟩
        subst hw
        go_wp2_with fail
        exact ⟨⟨k + 1, Nr, xz, rfl, by have := H6.out; omega, H6.out.2.1, H6.out.2.2.1, rfl, rfl, rfl, H6.out.1⟩, by have := H6.out; simp [intOf]; omega⟩
      · have d3 : decide ((300 : Int) < (rl : Int)) = true := by simp; omega
        clear hcell
        go_wp2_with fail
        go_ret
        exact ⟨rfl, HP.out.1.bel⟩
    · have hkm' : ¬ (k : Int) < m := by omega
      have HP : Hid (PS w wr (.slice va N vc) N xs ∧ Rd wr va N vc xs ∧ N ≤ 9000) := ⟨ps, hrv, by omega⟩
      clear hvb ps hrv hk hkm hN hxl HW
      go_wp2_with fail
      refine (crcR va N vc xs _ HP.out.2.1 (by have := HP.out; omega)).mono ?_
      rintro e w2 ⟨rfl, b2⟩
      have P2 : Hid (Rd w2 va N vc xs ∧ Below w.heap.size w w2 ∧ N ≤ 9000) := ⟨HP.out.2.1.keep b2, HP.out.1.bel.trans (b2.mono HP.out.1.bel.size), HP.out.2.2⟩
      clear b2 HP
      go_wp2_with fail
      refine (adlR va N vc xs _ P2.out.1 (by have := P2.out; omega)).mono ?_
      rintro e wq ⟨rfl, hw⟩
      subst hw
      go_wp2_with fail
      go_ret
      exact ⟨rfl, P2.out.2.1⟩

end Go.Proofs.Ytlollkkhogofoaa
