/- The walk of ShaParts, by the document's Sum. -/
import Derived.Test.YtebkgmjmjmaleaaLBytes
import Derived.Test.YtebkgmjmjmaleaaXSum
import Derived.Deep.RegionHeld3
namespace Go.Proofs.Ytebkgmjmjmaleaa
open Go.RowKit

/-- 'append(v, ys...)', v the call's own or nil, ys nil or not. -/
theorem wpList_append_v {w : World} {ops : Array Oper} {rest : List Oper} {o : Oper} {a : Act} {Q : Exit → Act → World → Prop} (hgd : o.guard = none) (s x : Operand)
    (ho : o.op = .call { callee := .builtin .append, args := #[s, x], argTypes := #[22, 22] })
    (base n : Nat) (v : Value) (xs : List Int) (hs : a.eval s = v) (hown : w.ownsRow base 5 1 v n (xs.map (Value.int .u8)))
    (ao : Option Addr) (m c : Nat) (ys : List Int) (hx : a.eval x = .slice ao m c) (hr : Rd w ao m c ys) (hlim : n + m ≤ 140737488355328) (hbase : base ≤ w.heap.size)
    (h : ∀ v' w', w'.ownsRow base 5 1 v' (n + m) ((xs ++ ys).map (Value.int .u8)) → w.grownBy w' v.ownBlock → wpList Try.prog ops Q rest (a.put o.dst v') w') :
    wpList Try.prog ops Q (o :: rest) a w := by
  obtain ⟨i0, hi, hz0, hz1, hz2⟩ := info_parts Try.info5
  cases ao with
  | none =>
    obtain ⟨rfl, rfl⟩ := hr.nul rfl
    have hy : ys = [] := List.eq_nil_of_length_eq_zero hr.len
    subst hy
    refine wpList_append_own_none hgd s x 22 ho base 5 i0 1 Try.underlying22 hi _ n _ hs hown hx ?_
    exact h v w (by simpa using hown) (World.grownBy.refl _ _)
  | some ad =>
    refine wpList_append_own w hgd s x 22 ho base 5 i0 (.int .u8 0) 1 1 Try.underlying22 hi hz0 hz1 hz2 rfl (by decide) _ n _ hs hown ad m c (ys.map (Value.int .u8)) hx (by simpa using hr.len) (hr.cellsOf ad rfl) (ints_oneCell _ _)
      (by unfold maxLen; omega) (by omega) hbase ?_
    intro v' w' h1 h2 h3
    exact h v' w' (by simpa using h1) h2

theorem own_rd {w : World} {base n : Nat} {v : Value} {xs : List Int} (h : w.ownsRow base 5 1 v n (xs.map (Value.int .u8))) (hb : ∀ x ∈ xs, 0 ≤ x ∧ x < 256) : ∃ ao c, v = .slice ao n c ∧ Rd w ao n c xs ∧ ∀ ad, ao = some ad → base ≤ ad.block := by
  have hl := h.1
  rcases h.2 with ⟨rfl, rfl⟩ | ⟨g, cap, cur, rfl, h1, h2⟩
  · have : xs = [] := List.eq_nil_of_length_eq_zero (by simpa using hl)
    subst this
    exact ⟨none, 0, rfl, Rd.nil w, fun ad had => by cases had⟩
  · exact ⟨_, cap, rfl, Rd.ofOwn h hb, fun ad had => by cases had; exact h1⟩

/-- The parts so far: in the hash, and in a row of the call's own. -/
structure PS (w : World) (R : Nat) (wr : World) (v : Value) (n : Nat) (xs : List Int) : Prop where
  own : wr.ownsRow (R + 1) 5 1 v n (xs.map (Value.int .u8))
  h : IsH wr R xs
  bel : Below w.heap.size w wr

theorem own_keep {w w' : World} {base n : Nat} {v : Value} {xs : List Value} (h : w.ownsRow base 5 1 v n xs) (hb : Below w.heap.size w w') : w'.ownsRow base 5 1 v n xs :=
  ownsRow_fr (P := fun _ => False) h (Fr.ofBelow hb) (fun _ _ h => h)

theorem PS.keep {w wr w' : World} {R n : Nat} {v : Value} {xs : List Int} (h : PS w R wr v n xs) (hb : Below wr.heap.size wr w') : PS w R w' v n xs :=
  ⟨own_keep h.own hb, h.h.keep hb, h.bel.trans (hb.mono h.bel.size)⟩

theorem IsH.grown {w w2 : World} {R : Nat} {v : Value} {ys : List Int} (hb : IsH w R ys) (hg : w.grownBy w2 v.ownBlock) (hlt : ∀ k, v.ownBlock = some k → k ≠ R) : IsH w2 R ys := by
  obtain ⟨q, k, h1, h2, h3, l, h4, h5⟩ := hb
  exact ⟨q, k, h1, h2, h3, l, World.rowIs.of_block h4 (hg.block _ (World.rowIs.lt h4) (fun e => hlt R e.symm rfl)), h5⟩

/-- 'append(out, ys...)' as one step of a region that draws its order, out the call's own, ys nil or not. -/
theorem step_append_rd {w : World} {ops : Array Oper} {o : Oper} {a : Act} {K : Act → World → Prop} {Q : Exit → Act → World → Prop} {E : Prop} (hgd : o.guard = none) (s x : Operand)
    (ho : o.op = .call { callee := .builtin .append, args := #[s, x], argTypes := #[22, 22] })
    (base g n cap : Nat) (xs : List Int) (hs : a.eval s = .slice (some ⟨g, 0, none⟩) n cap) (hown : w.ownsRow base 5 1 (.slice (some ⟨g, 0, none⟩) n cap) n (xs.map (Value.int .u8)))
    (ao : Option Addr) (m c : Nat) (ys : List Int) (hx : a.eval x = .slice ao m c) (hr : Rd w ao m c ys) (hlim : n + m ≤ 140737488355328) (hbase : base ≤ w.heap.size) (nm : Nat) (hnm : nm = n + m) (zs : List Int) (hzs : zs = xs ++ ys)
    (h : ∀ g' cap' w', w'.ownsRow base 5 1 (.slice (some ⟨g', 0, none⟩) nm cap') nm (zs.map (Value.int .u8)) → w.grownBy w' (some g) → K (a.put o.dst (.slice (some ⟨g', 0, none⟩) nm cap')) w') :
    if Region.wanted o (yielded ops a.tmps) = true then Oper.wp Try.prog o a w K Q else E := by
  obtain ⟨i0, hi, hz0, hz1, hz2⟩ := info_parts Try.info5
  have hw : Region.wanted o (yielded ops a.tmps) = true := by simp [Region.wanted, hgd]
  rw [if_pos hw]
  subst hnm hzs
  cases ao with
  | none =>
    obtain ⟨rfl, rfl⟩ := hr.nul rfl
    have hy : ys = [] := List.eq_nil_of_length_eq_zero hr.len
    subst hy
    have hrun := run_append_owned_none (P := Try.prog) (w := w) base 22 o.type 5 i0 1 Try.underlying22 hi _ n _ hown
    unfold Oper.wp
    simp [execOp, ho, resolve, invoke, builtin, hs, hx, hrun, Result.andThen]
    exact h g cap w (by simpa using hown) (World.grownBy.refl _ _)
  | some ad =>
    refine wp_append_own w s x 22 ho base 5 i0 (.int .u8 0) 1 1 Try.underlying22 hi hz0 hz1 hz2 rfl (by decide) _ n _ hs hown ad m c (ys.map (Value.int .u8)) hx (by simpa using hr.len) (hr.cellsOf ad rfl) (ints_oneCell _ _)
      (by unfold maxLen; omega) (by omega) hbase ?_
    intro v' w' h1 h2 h3
    obtain ⟨g', cap', rfl⟩ : ∃ g' cap', v' = .slice (some ⟨g', 0, none⟩) (n + m) cap' := by
      rcases h1.2 with ⟨h', _⟩ | ⟨g', cap', cur, h', _⟩
      · rw [h3] at h'; cases h'.1
      · exact ⟨g', cap', h'⟩
    exact h g' cap' w' (by simpa using h1) h2

theorem step_call1 {w : World} {ops : Array Oper} {o : Oper} {a : Act} {K : Act → World → Prop} {Q : Exit → Act → World → Prop} {E : Prop} {C : World → Prop} (hw : Region.wanted o (yielded ops a.tmps) = true) (f : FuncId) (hf : ∀ vs w, (callFunc f vs).run Try.prog w = .ok (.enter f vs) w) (x : Operand) (ts : Array TypeId) (ho : o.op = .call { callee := .value (.func f), args := #[x], argTypes := ts }) (u : Value) (hx : a.eval x = u) (v : Value)
    (hc : Calls Try.prog f #[u] w (fun e w' => e = .returned v ∧ C w')) (hk : ∀ w', C w' → K (a.put o.dst v) w') : if Region.wanted o (yielded ops a.tmps) = true then Oper.wp Try.prog o a w K Q else E := by
  rw [if_pos hw]
  have hr : (resolve a.eval { callee := .value (.func f), args := #[x], argTypes := ts } o.type >>= fun d => invoke d.target d.args).run Try.prog w = .ok (.enter f #[u]) w := by
    rw [← hf #[u] w, ← hx]
    simp [resolve, Act.eval, invoke, Deferred.ofValue]
  unfold Oper.wp execOp
  simp only [ho, hr]
  refine hc.mono ?_
  rintro e w' ⟨rfl, h⟩
  exact hk w' h

theorem cf9 (vs : Array Value) (w : World) : (callFunc 9 vs).run Try.prog w = .ok (.enter 9 vs) w := by simp [go_sem]

theorem Fr.ofGrown {w w' : World} {g : Nat} (h : w.grownBy w' (some g)) : Fr (fun k => k = g) w w' :=
  ⟨h.os, h.tape, h.output, h.size, fun k hk hn => h.block k hk (fun e => hn (by cases e; rfl))⟩

/-- What region 21 reads; what it reads lies below B. -/
structure PQ (w : World) (B S R T : Nat) (mo va : Option Addr) (n c N vc : Nat) (xs ys : List Int) (w' : World) : Prop where
  s : w'.rangeAt S 0 (svl xs)
  r : IsH w' R xs
  t : IsH w' T (xs ++ ys)
  v : Rd w' va N vc xs
  m : Rd w' mo n c ys
  bel : Below w.heap.size w w'
  sz : B ≤ w'.heap.size
  lt : S < B ∧ R < B ∧ T < B ∧ w.heap.size ≤ B
  vlt : ∀ ad, va = some ad → 0 < N → ad.block < B
  mlt : ∀ ad, mo = some ad → 0 < n → ad.block < B

theorem PQ.keep {w : World} {B S R T : Nat} {mo va : Option Addr} {n c N vc : Nat} {xs ys : List Int} {w' w'' : World} (h : PQ w B S R T mo va n c N vc xs ys w') (hb : Below w'.heap.size w' w'') : PQ w B S R T mo va n c N vc xs ys w'' :=
  ⟨fun j v hv => (hb.cell (World.block_lt_of_cell? w' _ (h.s j v hv))).trans (h.s j v hv), h.r.keep hb, h.t.keep hb, h.v.keep hb, h.m.keep hb, h.bel.trans (hb.mono h.bel.size), Nat.le_trans h.sz hb.size, h.lt, h.vlt, h.mlt⟩

section
variable {w : World} {B S R T : Nat} {mo va : Option Addr} {n c N vc : Nat} {xs ys : List Int} {w' w'' : World}

theorem PQ.of (h : w'.rangeAt S 0 (svl xs) ∧ PQ w B S R T mo va n c N vc xs ys w') : PQ w B S R T mo va n c N vc xs ys w' := h.2

theorem PQ.both (h : PQ w B S R T mo va n c N vc xs ys w') : w'.rangeAt S 0 (svl xs) ∧ PQ w B S R T mo va n c N vc xs ys w' := ⟨h.s, h⟩

theorem PQ.alloc (h : PQ w B S R T mo va n c N vc xs ys w') (o : Obj) : PQ w B S R T mo va n c N vc xs ys (w'.alloc o) := h.keep ((Below.refl _ _).alloc (Nat.le_refl _) _)

theorem PQ.grown {g : Nat} (h : PQ w B S R T mo va n c N vc xs ys w') (hg : w'.grownBy w'' (some g)) (hB : B ≤ g) : PQ w B S R T mo va n c N vc xs ys w'' := by
  have f := Fr.ofGrown hg
  have l := h.lt
  refine ⟨fun j v hv => ?_, h.r.fr f (by omega), h.t.fr f (by omega), h.v.fr f (fun ad had hp e => by have := h.vlt ad had hp; omega), h.m.fr f (fun ad had hp e => by have := h.mlt ad had hp; omega), h.bel.trans (f.below _ h.bel.size (fun i hi e => by omega)), Nat.le_trans h.sz f.size, h.lt, h.vlt, h.mlt⟩
  have hc := h.s j v hv
  have hlt : S < w'.heap.size := World.block_lt_of_cell? w' _ hc
  unfold World.cell? at hc ⊢
  have hb := f.block S hlt (by omega)
  simp only at hc ⊢
  rw [hb]
  exact hc

end

set_option maxRecDepth 100000 in
set_option maxHeartbeats 40000000 in
set_option linter.unusedSimpArgs false in
theorem parts_go (HS : Hid RefSum) (lo mo : Option Addr) (m d n c : Nat) (A : Nat → Option Addr) (L C : Nat → Nat) (Z : Nat → List Int) (ys : List Int) (w : World) (hm : m ≤ 30) (hn : n ≤ 3000) (hr : Rd w mo n c ys)
    (hrow : ∀ j, j < m → (∃ b off, lo = some ⟨b, off, none⟩ ∧ w.cell? ⟨b, off + j, none⟩ = some (.slice (A j) (L j) (C j))) ∧ Rd w (A j) (L j) (C j) (Z j)) :
    Calls Try.prog 4 #[.slice lo m d, .slice mo n c] w fun e w' => e = .returned (.bool true) ∧ Below w.heap.size w w' := by
  have d1 : decide ((30 : Int) < (m : Int)) = false := by simp; omega
  have d2 : decide ((3000 : Int) < (n : Int)) = false := by simp; omega
  have HM : Hid (Rd w mo n c ys) := hr
  have HW : Hid (∀ j, j < m → (∃ b off, lo = some ⟨b, off, none⟩ ∧ w.cell? ⟨b, off + j, none⟩ = some (.slice (A j) (L j) (C j))) ∧ Rd w (A j) (L j) (C j) (Z j)) := hrow
  clear hr hrow
  go_enter Try.func4, Try.ntmps4
  go_wp2_with fail
  refine (known_any _).mono ?_
  rintro e w0 ⟨rfl, hb0⟩
  have HB0 : Hid (Below w.heap.size w w0) := hb0
  clear hb0
  go_wp2_with fail
  refine (newH_any _).mono ?_
  rintro e w1 ⟨rfl, h1, b1⟩
  obtain ⟨R, hR⟩ : ∃ R, R = w0.heap.size := ⟨_, rfl⟩
  rw [← hR] at h1 b1 ⊢
  have HR : Hid (w.heap.size ≤ R) := by rw [hR]; exact HB0.out.size
  have HB1 : Hid (IsH w1 R [] ∧ Below w.heap.size w w1) := ⟨h1, HB0.out.trans (b1.mono HR.out)⟩
  clear h1 b1 HB0 hR
  go_wp2_with fail
  go_loopw [6, 7] (fun v i wr => ∃ (k N : Nat) (xs : List Int), i = .int .i64 (k : Int) ∧ k ≤ m ∧ xs.length = N ∧ N ≤ 200 * k ∧ PS w R wr v N xs) (fun _ i _ => (m - intOf i).toNat)
  case atStart => exact ⟨0, 0, [], rfl, by omega, rfl, by omega, World.ownsRow_nil _ _ _ _, HB1.out.1, HB1.out.2⟩
  case round =>
    clear HB1
    obtain ⟨k, N, xs, rfl, hk, hxl, hN, ps⟩ := hrel
    obtain ⟨va, vc, rfl, hrv, hvb⟩ := own_rd ps.own ps.h.byt
    by_cases hkm : k < m
    · have hkm' : (k : Int) < m := by omega
      obtain ⟨⟨b, off, rfl, hcell⟩, hrd⟩ := HW.out k hkm
      have hc0 : wr.cell? ⟨b, off + k, none⟩ = some (.slice (A k) (L k) (C k)) := (ps.bel.cell (World.block_lt_of_cell? w _ hcell)).trans hcell
      have HP : Hid (PS w R wr (.slice va N vc) N xs ∧ xs.length = N ∧ N ≤ 200 * k ∧ Rd w (A k) (L k) (C k) (Z k) ∧ k < m) := ⟨ps, hxl, hN, hrd, hkm⟩
      obtain ⟨ra, hra⟩ : ∃ ra, ra = A k := ⟨_, rfl⟩
      obtain ⟨rl, hrl⟩ : ∃ rl, rl = L k := ⟨_, rfl⟩
      obtain ⟨rc, hrc⟩ : ∃ rc, rc = C k := ⟨_, rfl⟩
      obtain ⟨zs, hzs⟩ : ∃ zs, zs = Z k := ⟨_, rfl⟩
      rw [← hra, ← hrl, ← hrc] at hc0 hcell HP
      rw [← hzs] at HP
      clear ps hxl hN hrd hrv hvb hra hrl hrc hzs hkm
      by_cases h2 : rl ≤ 200
      · have d3 : decide ((200 : Int) < (rl : Int)) = false := by simp; omega
        have HD : Hid (∀ w', Fr (fun x => x = R) wr w' → w'.cell? ⟨b, off + k, none⟩ = some (.slice ra rl rc)) := fun w' hf => by
          have e := hcell
          exact (((HP.out.1.bel.trans (hf.below _ HP.out.1.bel.size (fun i hi e => by have := HR.out; omega))).cell (World.block_lt_of_cell? w _ e)).trans e)
        go_wp2_with fail
        refine (write_any R ra rl rc xs zs _ HP.out.1.h (HP.out.2.2.2.1.keep HP.out.1.bel) (fun ad had hp e => by have := HP.out.2.2.2.1.blk ad had hp; have := HR.out; omega) (by have := HP.out; have := HP.out.2.2.2.1.len; omega)).mono ?_
        rintro e w2 ⟨rfl, h2, f2⟩
        have hc1 := HD.out w2 f2
        have b2 : Below w.heap.size w w2 := HP.out.1.bel.trans (f2.below _ HP.out.1.bel.size (fun i hi e => by have := HR.out; omega))
        have o2 : w2.ownsRow (R + 1) 5 1 (.slice va N vc) N (xs.map (Value.int .u8)) := ownsRow_fr HP.out.1.own f2 (fun g hg e => by have := HP.out.1.own.lt g hg; omega)
        have H2 : Hid (IsH w2 R (xs ++ zs) ∧ Below w.heap.size w w2 ∧ w2.ownsRow (R + 1) 5 1 (.slice va N vc) N (xs.map (Value.int .u8))) := ⟨h2, b2, o2⟩
        have hrz := HP.out.2.2.2.1.keep b2
        have hlt2 : R + 1 ≤ w2.heap.size := h2.lt
        have hNb : N + rl ≤ 1000000 := by have := HP.out; omega
        clear h2 b2 f2 HD hc0 hcell
        go_wp2_with (first | (refine wpList_append_v rfl _ _ rfl (R + 1) N _ xs rfl o2 ra rl rc zs rfl hrz (by omega) hlt2 ?_; intro v3 w3 own3 gr3; have hb3 : Below w.heap.size w w3 := H2.out.2.1.grown gr3 H2.out.2.1.size (fun g hg => by have := H2.out.2.2.lt g hg; have := HR.out; omega); obtain ⟨va3, vc3, rfl, hrv3, hvb3⟩ := own_rd own3 H2.out.1.byt))
        have h3 : IsH w3 R (xs ++ zs) := H2.out.1.grown gr3 (fun g hg => by have := H2.out.2.2.lt g hg; omega)
        obtain ⟨xz, hxz⟩ : ∃ xz, xz = xs ++ zs := ⟨_, rfl⟩
        obtain ⟨Nr, hNr⟩ : ∃ Nr, Nr = N + rl := ⟨_, rfl⟩
        rw [← hxz, ← hNr] at own3 hrv3
        rw [← hxz] at h3
        rw [← hNr]
        have hx3 : xz.length = Nr := hrv3.len
        have H3 : Hid (PS w R w3 (.slice va3 Nr vc3) Nr xz ∧ xz.length = Nr ∧ Nr ≤ 200 * (k + 1) ∧ Rd w3 va3 Nr vc3 xz ∧ k < m) := ⟨⟨own3, h3, hb3⟩, hx3, by have := HP.out; omega, hrv3, HP.out.2.2.2.2⟩
        have hNr2 : Nr ≤ 1000000 := by omega
        clear own3 h3 hb3 hrv3 hvb3 gr3 hxz hNr HP H2 hrz hlt2 hNb o2 hc1
        go_wp2_with fail
        refine (lenH_any R xz _ H3.out.1.h).mono ?_
        rintro e w4 ⟨rfl, hw⟩
        rw [hx3, hw]
        clear hx3 hw w4
        have heq := sv_eql xz
        go_wp2_with fail
        refine (hsum_any R xz _ H3.out.1.h (by have := H3.out; omega)).mono ?_
        rintro e w4 ⟨rfl, b4⟩
        have B4 : Hid (Below w3.heap.size w3 w4) := b4
        clear b4
        rw [sv_agg]
        go_wp2_with fail
        refine (HS.out va3 Nr vc3 xz _ (H3.out.2.2.2.1.keep B4.out) (by omega)).mono ?_
        rintro e w5 ⟨rfl, b5⟩
        have B5 : Hid (Below w3.heap.size w3 w5) := B4.out.trans (b5.mono B4.out.size)
        clear b5 B4
        rw [sv_agg]
        go_wp2_with fail
        exact ⟨⟨k + 1, Nr, xz, rfl, by have := H3.out; omega, H3.out.2.1, H3.out.2.2.1, H3.out.1.keep B5.out⟩, by have := H3.out; simp [intOf]; omega⟩
      · have d3 : decide ((200 : Int) < (rl : Int)) = true := by simp; omega
        clear hcell
        go_wp2_with fail
        go_ret
        exact ⟨rfl, HP.out.1.bel⟩
    · have hkm' : ¬ (k : Int) < m := by omega
      have HP : Hid (PS w R wr (.slice va N vc) N xs ∧ xs.length = N ∧ N ≤ 6000 ∧ Rd wr va N vc xs) := ⟨ps, hxl, by omega, hrv⟩
      clear hvb
      clear ps hxl hN hk hkm hrv HW
      go_wp2_with fail
      refine (twinH_any R xs _ HP.out.1.h).mono ?_
      rintro e w2 ⟨rfl, h2, b2⟩
      obtain ⟨T, hT⟩ : ∃ T, T = wr.heap.size := ⟨_, rfl⟩
      rw [← hT] at h2 ⊢
      have HT : Hid (R < T ∧ w.heap.size ≤ T ∧ ∀ g, (Value.slice va N vc).ownBlock = some g → g < T) := by
        rw [hT]
        exact ⟨HP.out.1.h.lt, HP.out.1.bel.size, fun g hg => (HP.out.1.own.lt g hg).2⟩
      have H2 : Hid (PS w R w2 (.slice va N vc) N xs ∧ IsH w2 T xs ∧ Rd w2 va N vc xs ∧ xs.length = N ∧ N ≤ 6000) := ⟨HP.out.1.keep b2, h2, HP.out.2.2.2.keep b2, HP.out.2.1, HP.out.2.2.1⟩
      clear h2 b2 hT HP
      go_wp2_with fail
      refine (write_any T mo n c xs ys _ H2.out.2.1 (HM.out.keep H2.out.1.bel) (fun ad had hp e => by have := HM.out.blk ad had hp; have := HT.out; omega) (by have := H2.out; have := HM.out.len; omega)).mono ?_
      rintro e w3 ⟨rfl, h3, f3⟩
      have H3 : Hid (PS w R w3 (.slice va N vc) N xs ∧ IsH w3 T (xs ++ ys) ∧ Rd w3 va N vc xs ∧ xs.length = N ∧ N ≤ 6000) := ⟨⟨ownsRow_fr H2.out.1.own f3 (fun g hg e => by have := HT.out.2.2 g hg; omega), H2.out.1.h.fr f3 (fun e => by have := HT.out; omega), H2.out.1.bel.trans (f3.below _ H2.out.1.bel.size (fun i hi e => by have := HT.out; omega))⟩, h3,
        H2.out.2.2.1.fr f3 (fun ad had hp e => by subst had; have := HT.out.2.2 ad.block rfl; omega), H2.out.2.2.2⟩
      clear h3 f3 H2 HT
      go_wp2_with fail
      refine (hsum_any R xs _ H3.out.1.h (by have := H3.out; omega)).mono ?_
      rintro e w4 ⟨rfl, b4⟩
      have B4 : Hid (Below w3.heap.size w3 w4) := b4
      clear b4
      obtain ⟨g, hg, hgl, hg1⟩ := svg xs
      rw [hg]
      have HG : Hid (svl xs = vals g 20) := hgl
      clear hg hgl
      have rz := z20_row w4
      go_wp2_with (first | (refine wpList_st rfl 25 _ _ rfl w4.heap.size rfl g rfl rz size25 hg1 ?_; intro w5 h5 f5; clear rz))
      obtain ⟨S, hS⟩ : ∃ S, S = w4.heap.size := ⟨_, rfl⟩
      have b5 : Below w3.heap.size w3 w5 := B4.out.trans ((new_fr f5).mono B4.out.size)
      rw [← hS] at h5 ⊢
      have hq : PQ w w5.heap.size S R T mo va n c N vc xs ys w5 := ⟨by
        rw [HG.out]
        have := rangeAt_row h5 0 20 (by omega)
        simpa using this, H3.out.1.h.keep b5, H3.out.2.1.keep b5, H3.out.2.2.1.keep b5, (HM.out.keep H3.out.1.bel).keep b5, H3.out.1.bel.trans (b5.mono H3.out.1.bel.size), Nat.le_refl _,
        ⟨h5.lt, (H3.out.1.h.keep b5).lt, (H3.out.2.1.keep b5).lt, (H3.out.1.bel.trans (b5.mono H3.out.1.bel.size)).size⟩, (H3.out.2.2.1.keep b5).blk, ((HM.out.keep H3.out.1.bel).keep b5).blk⟩
      have hl1 : (xs ++ ys).length ≤ 900000000 := by have := H3.out; have := HM.out.len; simp; omega
      have hl2 : xs.length ≤ 900000000 := by have := H3.out; omega
      have HN : Hid (xs.length = N ∧ N ≤ 6000 ∧ n ≤ 3000 ∧ ∀ x ∈ xs ++ ys, 0 ≤ x ∧ x < 256) := ⟨H3.out.2.2.2.1, H3.out.2.2.2.2, hn, fun x hx => (List.mem_append.1 hx).elim (H3.out.2.2.1.byt x) (HM.out.byt x)⟩
      have e1 := sv_eql xs
      have e2 := sv_eql (xs ++ ys)
      obtain ⟨B, hB⟩ : ∃ B, B = w5.heap.size := ⟨_, rfl⟩
      rw [← hB] at hq
      have ob0 : (w5.drew.alloc (.cells #[] 5)).ownsRow B 5 1 (.slice (some ⟨w5.heap.size, 0, none⟩) 0 0) 0 (([] : List Int).map (Value.int .u8)) := none_own w5.drew B (by rw [hB]; exact Nat.le_refl _)
      have OB0 : Hid ((w5.drew.alloc (.cells #[] 5)).ownsRow B 5 1 (.slice (some ⟨w5.heap.size, 0, none⟩) 0 0) 0 (([] : List Int).map (Value.int .u8))) := ob0
      have hq0 : PQ w B S R T mo va n c N vc xs ys w5.drew := hq.keep (Below.refl _ _).drew
      have HBB : Hid (B = w5.heap.size) := hB
      have H13 : Hid (∀ X us w', PQ w B S R T mo va n c N vc xs ys w' → IsH w' X us → us.length ≤ 900000000 → Calls Try.prog 13 #[.pointer (some ⟨X, 0, none⟩)] w' fun e w'' => e = .returned (.agg (svl us).toArray) ∧ PQ w B S R T mo va n c N vc xs ys w'' ∧ Below w'.heap.size w' w'') :=
        fun X us w' hp hi hl => (hsum_any X us w' hi hl).mono (fun e w'' h => ⟨h.1, hp.keep h.2, h.2⟩)
      have H12 : Hid (∀ w', PQ w B S R T mo va n c N vc xs ys w' → Calls Try.prog 12 #[.pointer (some ⟨R, 0, none⟩)] w' fun e w'' => e = .returned (.int .i64 (N : Int)) ∧ PQ w B S R T mo va n c N vc xs ys w'') :=
        fun w' hp => (lenH_any R xs w' hp.r).mono (fun e w'' h => ⟨by rw [h.1, HN.out.1], by rw [h.2]; exact hp⟩)
      have H9 : Hid (∀ ao k c' us w', PQ w B S R T mo va n c N vc xs ys w' → Rd w' ao k c' us → k ≤ 900000000 → Calls Try.prog 9 #[.slice ao k c'] w' fun e w'' => e = .returned (.agg (svl us).toArray) ∧ PQ w B S R T mo va n c N vc xs ys w'' ∧ Below w'.heap.size w' w'') :=
        fun ao k c' us w' hp hi hl => (HS.out ao k c' us w' hi hl).mono (fun e w'' h => ⟨h.1, hp.keep h.2, h.2⟩)
      have hNe : ((N : Int) == (N : Int)) = true := beq_self_eq_true _
      have hNd : decide ((N : Int) = (N : Int)) = true := decide_eq_true rfl
      have u25 := Try.underlying25
      have z25 : (Try.prog.info? 25).map (·.size) = some (svl xs).length := by rw [svl_len]; exact size25
      have HNN : Hid (N + n ≤ 9000) := by have := HN.out; show _ ≤ _; omega
      clear h5 f5 b5 B4 H3 hS HG hg1 HM ob0 hB hq hn d1 d2 hkm' HR
      refine wp_region_noPanic ?_
      refine wp_region_held_drew (S := fun w' => w'.rangeAt S 0 (svl xs) ∧ PQ w B S R T mo va n c N vc xs ys w') (by kernel_rfl) (PQ.both hq0) (fun hHeld => ?_)
      refine wpAnyH_take (i := 0) (oi := ⟨some 66, _, _, _, _, _⟩) (v := ?_) rfl (by kernel_rfl) (by kernel_rfl) (by kernel_rfl) (fun _ _ _ h => h) (Or.inl ⟨by rfl, ?_⟩) hHeld ?_
      rotate_left
      · (intro w' hSw; go_simp; try with_reducible rfl)
      try simp only [Act.put, List.setIfInBounds_toArray, List.set_cons_zero, List.set_cons_succ]
      refine wpAnyH_take (i := 3) (oi := ⟨some 69, _, _, _, _, _⟩) (v := ?_) rfl (by kernel_rfl) (by kernel_rfl) (by kernel_rfl) (fun _ _ _ h => h) (Or.inl ⟨by rfl, ?_⟩) hHeld ?_
      rotate_left
      · (intro w' hSw; go_simp; try with_reducible rfl)
      try simp only [Act.put, List.setIfInBounds_toArray, List.set_cons_zero, List.set_cons_succ]
      refine wpAnyH_take (i := 5) (oi := ⟨some 71, _, _, _, _, _⟩) (v := ?_) rfl (by kernel_rfl) (by kernel_rfl) (by kernel_rfl) (fun _ _ _ h => h) (Or.inl ⟨by rfl, ?_⟩) hHeld ?_
      rotate_left
      · (intro w' hSw; go_simp; try with_reducible rfl)
      try simp only [Act.put, List.setIfInBounds_toArray, List.set_cons_zero, List.set_cons_succ]
      refine wpAnyH_ready (rs := [1, 2]) (by kernel_rfl) (by simp) ?_
      refine AllReadyH.cons (o := ⟨some 67, _, _, _, _, _⟩) rfl (fun K hK => ?_) (AllReadyH.cons (o := ⟨some 68, _, _, _, _, _⟩) rfl (fun K hK => ?_) AllReadyH.nil)
      · refine step_call1 (by rfl) 13 cf13 _ _ rfl (.pointer (some ⟨T, 0, none⟩)) rfl (.agg (svl (xs ++ ys)).toArray) (H13.out T (xs ++ ys) _ hHeld.2 hHeld.2.t hl1) ?_
        rintro wq ⟨hqq, hbb⟩
        have hqk := hqq
        refine hK.out _ _ (PQ.both hqq) (fun hHeld => ?_)
        clear hK K
        try simp only [Act.put, List.setIfInBounds_toArray, List.set_cons_zero, List.set_cons_succ]
        refine wpAnyH_ready (rs := [2]) (by kernel_rfl) (by simp) ?_
        refine AllReadyH.cons (o := ⟨some 68, _, _, _, _, _⟩) rfl (fun K hK => ?_) AllReadyH.nil
        go_simp
        refine hK.out _ _ (PQ.both (PQ.alloc hHeld.2 _)) (fun hHeld => ?_)
        clear hK K
        try simp only [Act.put, List.setIfInBounds_toArray, List.set_cons_zero, List.set_cons_succ]
        refine wpAnyH_ready (rs := [4]) (by kernel_rfl) (by simp) ?_
        refine AllReadyH.cons (o := ⟨some 70, _, _, _, _, _⟩) rfl (fun K hK => ?_) AllReadyH.nil
        refine step_append_rd rfl _ _ rfl B _ 0 0 [] rfl (none_own _ B hqk.sz) va N vc xs rfl hHeld.2.v (by have := HN.out; omega) hHeld.2.sz N (by omega) xs rfl ?_
        intro g6 cap6 w6 own6 gr6
        have hq6 := PQ.grown hHeld.2 gr6 hqk.sz
        refine hK.out _ _ (PQ.both hq6) (fun hHeld => ?_)
        clear hK K
        try simp only [Act.put, List.setIfInBounds_toArray, List.set_cons_zero, List.set_cons_succ]
        refine wpAnyH_ready (rs := [6]) (by kernel_rfl) (by simp) ?_
        refine AllReadyH.cons (o := ⟨some 72, _, _, _, _, _⟩) rfl (fun K hK => ?_) AllReadyH.nil
        refine step_append_rd rfl _ _ rfl B g6 N cap6 xs rfl own6 mo n c ys rfl hHeld.2.m (by have := HN.out; omega) hHeld.2.sz (N + n) rfl (xs ++ ys) rfl ?_
        intro g7 cap7 w7 own7 gr7
        have hq7 := PQ.grown hHeld.2 gr7 (own_base own6)
        refine hK.out _ _ (PQ.both hq7) (fun hHeld => ?_)
        clear hK K
        try simp only [Act.put, List.setIfInBounds_toArray, List.set_cons_zero, List.set_cons_succ]
        refine wpAnyH_ready (rs := [7]) (by kernel_rfl) (by simp) ?_
        refine AllReadyH.cons (o := ⟨some 73, _, _, _, _, _⟩) rfl (fun K hK => ?_) AllReadyH.nil
        refine step_call1 (by rfl) 9 cf9 _ _ rfl (.slice (some ⟨g7, 0, none⟩) (N + n) cap7) rfl (.agg (svl (xs ++ ys)).toArray) (H9.out _ _ _ _ _ hHeld.2 (Rd.ofOwn own7 HN.out.2.2.2) (by have := HNN.out; omega)) ?_
        rintro w9 ⟨hq9, hb9⟩
        refine hK.out _ _ (PQ.both hq9) (fun hHeld => ?_)
        clear hK K
        try simp only [Act.put, List.setIfInBounds_toArray, List.set_cons_zero, List.set_cons_succ]
        refine wpAnyH_take (i := 8) (oi := ⟨some 74, _, _, _, _, _⟩) (v := ?_) rfl (by kernel_rfl) (by kernel_rfl) (by kernel_rfl) (fun _ _ _ h => h) (Or.inl ⟨by rfl, ?_⟩) hHeld ?_
        rotate_left
        · (intro w' hSw; go_simp; try with_reducible rfl)
        try simp only [Act.put, List.setIfInBounds_toArray, List.set_cons_zero, List.set_cons_succ]
        refine wpAnyH_take (i := 9) (oi := ⟨some 75, _, _, _, _, _⟩) (v := ?_) rfl (by kernel_rfl) (by kernel_rfl) (by kernel_rfl) (fun _ _ _ h => h) (Or.inl ⟨by rfl, ?_⟩) hHeld ?_
        rotate_left
        · (intro w' hSw; go_simp; try with_reducible rfl)
        try simp only [Act.put, List.setIfInBounds_toArray, List.set_cons_zero, List.set_cons_succ]
        refine wpAnyH_take (i := 10) (oi := ⟨some 76, _, _, _, _, _⟩) (v := .agg (svl xs).toArray) rfl (by kernel_rfl) (by kernel_rfl) (by kernel_rfl) (fun _ _ _ h => h) (yieldsIf_load_mid (by rfl) _ _ rfl S 0 rfl (svl xs) _ (fun w' hSw => hSw.1) Try.underlying25 rfl z25) hHeld ?_
        try simp only [Act.put, List.setIfInBounds_toArray, List.set_cons_zero, List.set_cons_succ]
        refine wpAnyH_take (i := 11) (oi := ⟨some 77, _, _, _, _, _⟩) (v := ?_) rfl (by kernel_rfl) (by kernel_rfl) (by kernel_rfl) (fun _ _ _ h => h) (Or.inl ⟨by rfl, ?_⟩) hHeld ?_
        rotate_left
        · (intro w' hSw; go_simp; try with_reducible rfl)
        try simp only [Act.put, List.setIfInBounds_toArray, List.set_cons_zero, List.set_cons_succ]
        refine wpAnyH_ready (rs := [12]) (by kernel_rfl) (by simp) ?_
        refine AllReadyH.cons (o := ⟨some 78, _, _, _, _, _⟩) rfl (fun K hK => ?_) AllReadyH.nil
        refine step_call1 (by rfl) 13 cf13 _ _ rfl (.pointer (some ⟨R, 0, none⟩)) rfl (.agg (svl xs).toArray) (H13.out R xs _ hHeld.2 hHeld.2.r hl2) ?_
        rintro wr2 ⟨hqr, hbr⟩
        refine hK.out _ _ (PQ.both hqr) (fun hHeld => ?_)
        clear hK K
        try simp only [Act.put, List.setIfInBounds_toArray, List.set_cons_zero, List.set_cons_succ]
        refine wpAnyH_take (i := 13) (oi := ⟨some 79, _, _, _, _, _⟩) (v := ?_) rfl (by kernel_rfl) (by kernel_rfl) (by kernel_rfl) (fun _ _ _ h => h) (Or.inl ⟨by rfl, ?_⟩) hHeld ?_
        rotate_left
        · (intro w' hSw; go_simp; try with_reducible rfl)
        try simp only [Act.put, List.setIfInBounds_toArray, List.set_cons_zero, List.set_cons_succ]
        refine wpAnyH_take (i := 14) (oi := ⟨some 80, _, _, _, _, _⟩) (v := ?_) rfl (by kernel_rfl) (by kernel_rfl) (by kernel_rfl) (fun _ _ _ h => h) (Or.inl ⟨by rfl, ?_⟩) hHeld ?_
        rotate_left
        · (intro w' hSw; go_simp; try with_reducible rfl)
        try simp only [Act.put, List.setIfInBounds_toArray, List.set_cons_zero, List.set_cons_succ]
        refine wpAnyH_take (i := 15) (oi := ⟨some 81, _, _, _, _, _⟩) (v := ?_) rfl (by kernel_rfl) (by kernel_rfl) (by kernel_rfl) (fun _ _ _ h => h) (Or.inl ⟨by rfl, ?_⟩) hHeld ?_
        rotate_left
        · (intro w' hSw; go_simp; try with_reducible rfl)
        try simp only [Act.put, List.setIfInBounds_toArray, List.set_cons_zero, List.set_cons_succ]
        refine wpAnyH_take (i := 16) (oi := ⟨some 82, _, _, _, _, _⟩) (v := ?_) rfl (by kernel_rfl) (by kernel_rfl) (by kernel_rfl) (fun _ _ _ h => h) (Or.inl ⟨by rfl, ?_⟩) hHeld ?_
        rotate_left
        · (intro w' hSw; go_simp; try with_reducible rfl)
        try simp only [Act.put, List.setIfInBounds_toArray, List.set_cons_zero, List.set_cons_succ]
        refine wpAnyH_take (i := 18) (oi := ⟨some 84, _, _, _, _, _⟩) (v := ?_) rfl (by kernel_rfl) (by kernel_rfl) (by kernel_rfl) (fun _ _ _ h => h) (Or.inl ⟨by rfl, ?_⟩) hHeld ?_
        rotate_left
        · (intro w' hSw; go_simp; try with_reducible rfl)
        try simp only [Act.put, List.setIfInBounds_toArray, List.set_cons_zero, List.set_cons_succ]
        refine wpAnyH_take (i := 19) (oi := ⟨some 85, _, _, _, _, _⟩) (v := ?_) rfl (by kernel_rfl) (by kernel_rfl) (by kernel_rfl) (fun _ _ _ h => h) (Or.inl ⟨by rfl, ?_⟩) hHeld ?_
        rotate_left
        · (intro w' hSw; go_simp; try with_reducible rfl)
        try simp only [Act.put, List.setIfInBounds_toArray, List.set_cons_zero, List.set_cons_succ]
        refine wpAnyH_ready (rs := [17]) (by kernel_rfl) (by simp) ?_
        refine AllReadyH.cons (o := ⟨some 83, _, _, _, _, _⟩) rfl (fun K hK => ?_) AllReadyH.nil
        refine step_call1 (by rfl) 12 cf12 _ _ rfl (.pointer (some ⟨R, 0, none⟩)) rfl (.int .i64 (N : Int)) (H12.out _ hHeld.2) ?_
        intro wl hql
        refine hK.out _ _ (PQ.both hql) (fun hHeld => ?_)
        clear hK K
        try simp only [Act.put, List.setIfInBounds_toArray, List.set_cons_zero, List.set_cons_succ]
        refine wpAnyH_take (i := 20) (oi := ⟨some 86, _, _, _, _, _⟩) (v := ?_) rfl (by kernel_rfl) (by kernel_rfl) (by kernel_rfl) (fun _ _ _ h => h) (Or.inl ⟨by rfl, ?_⟩) hHeld ?_
        rotate_left
        · (intro w' hSw; go_simp; try with_reducible rfl)
        try simp only [Act.put, List.setIfInBounds_toArray, List.set_cons_zero, List.set_cons_succ]
        refine wpAnyH_take (i := 21) (oi := ⟨some 87, _, _, _, _, _⟩) (v := ?_) rfl (by kernel_rfl) (by kernel_rfl) (by kernel_rfl) (fun _ _ _ h => h) (Or.inl ⟨by rfl, ?_⟩) hHeld ?_
        rotate_left
        · (intro w' hSw; go_simp; try with_reducible rfl)
        try simp only [Act.put, List.setIfInBounds_toArray, List.set_cons_zero, List.set_cons_succ]
        refine wpAnyH_take (i := 22) (oi := ⟨some 88, _, _, _, _, _⟩) (v := ?_) rfl (by kernel_rfl) (by kernel_rfl) (by kernel_rfl) (fun _ _ _ h => h) (Or.inl ⟨by rfl, ?_⟩) hHeld ?_
        rotate_left
        · (intro w' hSw; go_simp; try with_reducible rfl)
        try simp only [Act.put, List.setIfInBounds_toArray, List.set_cons_zero, List.set_cons_succ]
        refine wpAnyH_take (i := 24) (oi := ⟨some 90, _, _, _, _, _⟩) (v := ?_) rfl (by kernel_rfl) (by kernel_rfl) (by kernel_rfl) (fun _ _ _ h => h) (Or.inl ⟨by rfl, ?_⟩) hHeld ?_
        rotate_left
        · (intro w' hSw; go_simp; try with_reducible rfl)
        try simp only [Act.put, List.setIfInBounds_toArray, List.set_cons_zero, List.set_cons_succ]
        refine wpAnyH_take (i := 23) (oi := ⟨some 89, _, _, _, _, _⟩) (v := .agg (svl xs).toArray) rfl (by kernel_rfl) (by kernel_rfl) (by kernel_rfl) (fun _ _ _ h => h) (yieldsIf_load_mid (by rfl) _ _ rfl S 0 rfl (svl xs) _ (fun w' hSw => hSw.1) Try.underlying25 rfl z25) hHeld ?_
        try simp only [Act.put, List.setIfInBounds_toArray, List.set_cons_zero, List.set_cons_succ]
        refine wpAnyH_ready (rs := [25]) (by kernel_rfl) (by simp) ?_
        refine AllReadyH.cons (o := ⟨some 91, _, _, _, _, _⟩) rfl (fun K hK => ?_) AllReadyH.nil
        refine step_call1 (by rfl) 9 cf9 _ _ rfl (.slice va N vc) rfl (.agg (svl xs).toArray) (H9.out _ _ _ _ _ hHeld.2 hHeld.2.v (by have := HN.out; omega)) ?_
        rintro wv ⟨hqv, hbv⟩
        refine hK.out _ _ (PQ.both hqv) (fun hHeld => ?_)
        clear hK K
        try simp only [Act.put, List.setIfInBounds_toArray, List.set_cons_zero, List.set_cons_succ]
        refine wpAnyH_take (i := 26) (oi := ⟨some 92, _, _, _, _, _⟩) (v := ?_) rfl (by kernel_rfl) (by kernel_rfl) (by kernel_rfl) (fun _ _ _ h => h) (Or.inl ⟨by rfl, ?_⟩) hHeld ?_
        rotate_left
        · (intro w' hSw; go_simp; try with_reducible rfl)
        try simp only [Act.put, List.setIfInBounds_toArray, List.set_cons_zero, List.set_cons_succ]
        refine wpAnyH_take (i := 27) (oi := ⟨some 93, _, _, _, _, _⟩) (v := ?_) rfl (by kernel_rfl) (by kernel_rfl) (by kernel_rfl) (fun _ _ _ h => h) (Or.inl ⟨by rfl, ?_⟩) hHeld ?_
        rotate_left
        · (intro w' hSw; go_simp; try with_reducible rfl)
        try simp only [Act.put, List.setIfInBounds_toArray, List.set_cons_zero, List.set_cons_succ]
        refine wpAnyH_take (i := 28) (oi := ⟨some 4, _, _, _, _, _⟩) (v := ?_) rfl (by kernel_rfl) (by kernel_rfl) (by kernel_rfl) (fun _ _ _ h => h) (Or.inl ⟨by rfl, ?_⟩) hHeld ?_
        rotate_left
        · (intro w' hSw; go_simp; try with_reducible rfl)
        try simp only [Act.put, List.setIfInBounds_toArray, List.set_cons_zero, List.set_cons_succ]
        refine wpAnyH_done (by kernel_rfl) ?_ _
        refine NoPanic.normal ?_
        have hfin := hHeld.2.bel
        clear hHeld
        go_wp2_with fail
        go_ret
        exact ⟨rfl, hfin⟩
      · go_simp
        refine hK.out _ _ (PQ.both (PQ.alloc hHeld.2 _)) (fun hHeld => ?_)
        clear hK K
        try simp only [Act.put, List.setIfInBounds_toArray, List.set_cons_zero, List.set_cons_succ]
        refine wpAnyH_ready (rs := [1]) (by kernel_rfl) (by simp) ?_
        refine AllReadyH.cons (o := ⟨some 67, _, _, _, _, _⟩) rfl (fun K hK => ?_) AllReadyH.nil
        refine step_call1 (by rfl) 13 cf13 _ _ rfl (.pointer (some ⟨T, 0, none⟩)) rfl (.agg (svl (xs ++ ys)).toArray) (H13.out T (xs ++ ys) _ hHeld.2 hHeld.2.t hl1) ?_
        rintro wq ⟨hqq, hbb⟩
        have ob1 := own_keep OB0.out hbb
        refine hK.out _ _ (PQ.both hqq) (fun hHeld => ?_)
        clear hK K
        try simp only [Act.put, List.setIfInBounds_toArray, List.set_cons_zero, List.set_cons_succ]
        refine wpAnyH_ready (rs := [4]) (by kernel_rfl) (by simp) ?_
        refine AllReadyH.cons (o := ⟨some 70, _, _, _, _, _⟩) rfl (fun K hK => ?_) AllReadyH.nil
        refine step_append_rd rfl _ _ rfl B _ 0 0 [] rfl ob1 va N vc xs rfl hHeld.2.v (by have := HN.out; omega) hHeld.2.sz N (by omega) xs rfl ?_
        intro g6 cap6 w6 own6 gr6
        have hq6 := PQ.grown hHeld.2 gr6 (Nat.le_of_eq HBB.out)
        refine hK.out _ _ (PQ.both hq6) (fun hHeld => ?_)
        clear hK K
        try simp only [Act.put, List.setIfInBounds_toArray, List.set_cons_zero, List.set_cons_succ]
        refine wpAnyH_ready (rs := [6]) (by kernel_rfl) (by simp) ?_
        refine AllReadyH.cons (o := ⟨some 72, _, _, _, _, _⟩) rfl (fun K hK => ?_) AllReadyH.nil
        refine step_append_rd rfl _ _ rfl B g6 N cap6 xs rfl own6 mo n c ys rfl hHeld.2.m (by have := HN.out; omega) hHeld.2.sz (N + n) rfl (xs ++ ys) rfl ?_
        intro g7 cap7 w7 own7 gr7
        have hq7 := PQ.grown hHeld.2 gr7 (own_base own6)
        refine hK.out _ _ (PQ.both hq7) (fun hHeld => ?_)
        clear hK K
        try simp only [Act.put, List.setIfInBounds_toArray, List.set_cons_zero, List.set_cons_succ]
        refine wpAnyH_ready (rs := [7]) (by kernel_rfl) (by simp) ?_
        refine AllReadyH.cons (o := ⟨some 73, _, _, _, _, _⟩) rfl (fun K hK => ?_) AllReadyH.nil
        refine step_call1 (by rfl) 9 cf9 _ _ rfl (.slice (some ⟨g7, 0, none⟩) (N + n) cap7) rfl (.agg (svl (xs ++ ys)).toArray) (H9.out _ _ _ _ _ hHeld.2 (Rd.ofOwn own7 HN.out.2.2.2) (by have := HNN.out; omega)) ?_
        rintro w9 ⟨hq9, hb9⟩
        refine hK.out _ _ (PQ.both hq9) (fun hHeld => ?_)
        clear hK K
        try simp only [Act.put, List.setIfInBounds_toArray, List.set_cons_zero, List.set_cons_succ]
        refine wpAnyH_take (i := 8) (oi := ⟨some 74, _, _, _, _, _⟩) (v := ?_) rfl (by kernel_rfl) (by kernel_rfl) (by kernel_rfl) (fun _ _ _ h => h) (Or.inl ⟨by rfl, ?_⟩) hHeld ?_
        rotate_left
        · (intro w' hSw; go_simp; try with_reducible rfl)
        try simp only [Act.put, List.setIfInBounds_toArray, List.set_cons_zero, List.set_cons_succ]
        refine wpAnyH_take (i := 9) (oi := ⟨some 75, _, _, _, _, _⟩) (v := ?_) rfl (by kernel_rfl) (by kernel_rfl) (by kernel_rfl) (fun _ _ _ h => h) (Or.inl ⟨by rfl, ?_⟩) hHeld ?_
        rotate_left
        · (intro w' hSw; go_simp; try with_reducible rfl)
        try simp only [Act.put, List.setIfInBounds_toArray, List.set_cons_zero, List.set_cons_succ]
        refine wpAnyH_take (i := 10) (oi := ⟨some 76, _, _, _, _, _⟩) (v := .agg (svl xs).toArray) rfl (by kernel_rfl) (by kernel_rfl) (by kernel_rfl) (fun _ _ _ h => h) (yieldsIf_load_mid (by rfl) _ _ rfl S 0 rfl (svl xs) _ (fun w' hSw => hSw.1) Try.underlying25 rfl z25) hHeld ?_
        try simp only [Act.put, List.setIfInBounds_toArray, List.set_cons_zero, List.set_cons_succ]
        refine wpAnyH_take (i := 11) (oi := ⟨some 77, _, _, _, _, _⟩) (v := ?_) rfl (by kernel_rfl) (by kernel_rfl) (by kernel_rfl) (fun _ _ _ h => h) (Or.inl ⟨by rfl, ?_⟩) hHeld ?_
        rotate_left
        · (intro w' hSw; go_simp; try with_reducible rfl)
        try simp only [Act.put, List.setIfInBounds_toArray, List.set_cons_zero, List.set_cons_succ]
        refine wpAnyH_ready (rs := [12]) (by kernel_rfl) (by simp) ?_
        refine AllReadyH.cons (o := ⟨some 78, _, _, _, _, _⟩) rfl (fun K hK => ?_) AllReadyH.nil
        refine step_call1 (by rfl) 13 cf13 _ _ rfl (.pointer (some ⟨R, 0, none⟩)) rfl (.agg (svl xs).toArray) (H13.out R xs _ hHeld.2 hHeld.2.r hl2) ?_
        rintro wr2 ⟨hqr, hbr⟩
        refine hK.out _ _ (PQ.both hqr) (fun hHeld => ?_)
        clear hK K
        try simp only [Act.put, List.setIfInBounds_toArray, List.set_cons_zero, List.set_cons_succ]
        refine wpAnyH_take (i := 13) (oi := ⟨some 79, _, _, _, _, _⟩) (v := ?_) rfl (by kernel_rfl) (by kernel_rfl) (by kernel_rfl) (fun _ _ _ h => h) (Or.inl ⟨by rfl, ?_⟩) hHeld ?_
        rotate_left
        · (intro w' hSw; go_simp; try with_reducible rfl)
        try simp only [Act.put, List.setIfInBounds_toArray, List.set_cons_zero, List.set_cons_succ]
        refine wpAnyH_take (i := 14) (oi := ⟨some 80, _, _, _, _, _⟩) (v := ?_) rfl (by kernel_rfl) (by kernel_rfl) (by kernel_rfl) (fun _ _ _ h => h) (Or.inl ⟨by rfl, ?_⟩) hHeld ?_
        rotate_left
        · (intro w' hSw; go_simp; try with_reducible rfl)
        try simp only [Act.put, List.setIfInBounds_toArray, List.set_cons_zero, List.set_cons_succ]
        refine wpAnyH_take (i := 15) (oi := ⟨some 81, _, _, _, _, _⟩) (v := ?_) rfl (by kernel_rfl) (by kernel_rfl) (by kernel_rfl) (fun _ _ _ h => h) (Or.inl ⟨by rfl, ?_⟩) hHeld ?_
        rotate_left
        · (intro w' hSw; go_simp; try with_reducible rfl)
        try simp only [Act.put, List.setIfInBounds_toArray, List.set_cons_zero, List.set_cons_succ]
        refine wpAnyH_take (i := 16) (oi := ⟨some 82, _, _, _, _, _⟩) (v := ?_) rfl (by kernel_rfl) (by kernel_rfl) (by kernel_rfl) (fun _ _ _ h => h) (Or.inl ⟨by rfl, ?_⟩) hHeld ?_
        rotate_left
        · (intro w' hSw; go_simp; try with_reducible rfl)
        try simp only [Act.put, List.setIfInBounds_toArray, List.set_cons_zero, List.set_cons_succ]
        refine wpAnyH_take (i := 18) (oi := ⟨some 84, _, _, _, _, _⟩) (v := ?_) rfl (by kernel_rfl) (by kernel_rfl) (by kernel_rfl) (fun _ _ _ h => h) (Or.inl ⟨by rfl, ?_⟩) hHeld ?_
        rotate_left
        · (intro w' hSw; go_simp; try with_reducible rfl)
        try simp only [Act.put, List.setIfInBounds_toArray, List.set_cons_zero, List.set_cons_succ]
        refine wpAnyH_take (i := 19) (oi := ⟨some 85, _, _, _, _, _⟩) (v := ?_) rfl (by kernel_rfl) (by kernel_rfl) (by kernel_rfl) (fun _ _ _ h => h) (Or.inl ⟨by rfl, ?_⟩) hHeld ?_
        rotate_left
        · (intro w' hSw; go_simp; try with_reducible rfl)
        try simp only [Act.put, List.setIfInBounds_toArray, List.set_cons_zero, List.set_cons_succ]
        refine wpAnyH_ready (rs := [17]) (by kernel_rfl) (by simp) ?_
        refine AllReadyH.cons (o := ⟨some 83, _, _, _, _, _⟩) rfl (fun K hK => ?_) AllReadyH.nil
        refine step_call1 (by rfl) 12 cf12 _ _ rfl (.pointer (some ⟨R, 0, none⟩)) rfl (.int .i64 (N : Int)) (H12.out _ hHeld.2) ?_
        intro wl hql
        refine hK.out _ _ (PQ.both hql) (fun hHeld => ?_)
        clear hK K
        try simp only [Act.put, List.setIfInBounds_toArray, List.set_cons_zero, List.set_cons_succ]
        refine wpAnyH_take (i := 20) (oi := ⟨some 86, _, _, _, _, _⟩) (v := ?_) rfl (by kernel_rfl) (by kernel_rfl) (by kernel_rfl) (fun _ _ _ h => h) (Or.inl ⟨by rfl, ?_⟩) hHeld ?_
        rotate_left
        · (intro w' hSw; go_simp; try with_reducible rfl)
        try simp only [Act.put, List.setIfInBounds_toArray, List.set_cons_zero, List.set_cons_succ]
        refine wpAnyH_take (i := 21) (oi := ⟨some 87, _, _, _, _, _⟩) (v := ?_) rfl (by kernel_rfl) (by kernel_rfl) (by kernel_rfl) (fun _ _ _ h => h) (Or.inl ⟨by rfl, ?_⟩) hHeld ?_
        rotate_left
        · (intro w' hSw; go_simp; try with_reducible rfl)
        try simp only [Act.put, List.setIfInBounds_toArray, List.set_cons_zero, List.set_cons_succ]
        refine wpAnyH_take (i := 22) (oi := ⟨some 88, _, _, _, _, _⟩) (v := ?_) rfl (by kernel_rfl) (by kernel_rfl) (by kernel_rfl) (fun _ _ _ h => h) (Or.inl ⟨by rfl, ?_⟩) hHeld ?_
        rotate_left
        · (intro w' hSw; go_simp; try with_reducible rfl)
        try simp only [Act.put, List.setIfInBounds_toArray, List.set_cons_zero, List.set_cons_succ]
        refine wpAnyH_take (i := 24) (oi := ⟨some 90, _, _, _, _, _⟩) (v := ?_) rfl (by kernel_rfl) (by kernel_rfl) (by kernel_rfl) (fun _ _ _ h => h) (Or.inl ⟨by rfl, ?_⟩) hHeld ?_
        rotate_left
        · (intro w' hSw; go_simp; try with_reducible rfl)
        try simp only [Act.put, List.setIfInBounds_toArray, List.set_cons_zero, List.set_cons_succ]
        refine wpAnyH_take (i := 23) (oi := ⟨some 89, _, _, _, _, _⟩) (v := .agg (svl xs).toArray) rfl (by kernel_rfl) (by kernel_rfl) (by kernel_rfl) (fun _ _ _ h => h) (yieldsIf_load_mid (by rfl) _ _ rfl S 0 rfl (svl xs) _ (fun w' hSw => hSw.1) Try.underlying25 rfl z25) hHeld ?_
        try simp only [Act.put, List.setIfInBounds_toArray, List.set_cons_zero, List.set_cons_succ]
        refine wpAnyH_ready (rs := [25]) (by kernel_rfl) (by simp) ?_
        refine AllReadyH.cons (o := ⟨some 91, _, _, _, _, _⟩) rfl (fun K hK => ?_) AllReadyH.nil
        refine step_call1 (by rfl) 9 cf9 _ _ rfl (.slice va N vc) rfl (.agg (svl xs).toArray) (H9.out _ _ _ _ _ hHeld.2 hHeld.2.v (by have := HN.out; omega)) ?_
        rintro wv ⟨hqv, hbv⟩
        refine hK.out _ _ (PQ.both hqv) (fun hHeld => ?_)
        clear hK K
        try simp only [Act.put, List.setIfInBounds_toArray, List.set_cons_zero, List.set_cons_succ]
        refine wpAnyH_take (i := 26) (oi := ⟨some 92, _, _, _, _, _⟩) (v := ?_) rfl (by kernel_rfl) (by kernel_rfl) (by kernel_rfl) (fun _ _ _ h => h) (Or.inl ⟨by rfl, ?_⟩) hHeld ?_
        rotate_left
        · (intro w' hSw; go_simp; try with_reducible rfl)
        try simp only [Act.put, List.setIfInBounds_toArray, List.set_cons_zero, List.set_cons_succ]
        refine wpAnyH_take (i := 27) (oi := ⟨some 93, _, _, _, _, _⟩) (v := ?_) rfl (by kernel_rfl) (by kernel_rfl) (by kernel_rfl) (fun _ _ _ h => h) (Or.inl ⟨by rfl, ?_⟩) hHeld ?_
        rotate_left
        · (intro w' hSw; go_simp; try with_reducible rfl)
        try simp only [Act.put, List.setIfInBounds_toArray, List.set_cons_zero, List.set_cons_succ]
        refine wpAnyH_take (i := 28) (oi := ⟨some 4, _, _, _, _, _⟩) (v := ?_) rfl (by kernel_rfl) (by kernel_rfl) (by kernel_rfl) (fun _ _ _ h => h) (Or.inl ⟨by rfl, ?_⟩) hHeld ?_
        rotate_left
        · (intro w' hSw; go_simp; try with_reducible rfl)
        try simp only [Act.put, List.setIfInBounds_toArray, List.set_cons_zero, List.set_cons_succ]
        refine wpAnyH_done (by kernel_rfl) ?_ _
        refine NoPanic.normal ?_
        have hfin := hHeld.2.bel
        clear hHeld
        go_wp2_with fail
        go_ret
        exact ⟨rfl, hfin⟩

set_option maxHeartbeats 1000000 in
theorem parts_skip (lo mo : Option Addr) (m d n c : Nat) (w : World) (h : 30 < m ∨ 3000 < n) :
    Calls Try.prog 4 #[.slice lo m d, .slice mo n c] w fun e w' => e = .returned (.bool true) ∧ Below w.heap.size w w' := by
  by_cases h1 : 30 < m
  · have d1 : decide ((30 : Int) < (m : Int)) = true := by simp; omega
    clear h
    go_enter Try.func4, Try.ntmps4
    go_wp2_with (go_at_call 7; refine (known_any _).mono ?_; rintro e w1 ⟨rfl, hb⟩)
    go_ret
    exact ⟨rfl, hb⟩
  · have d1 : decide ((30 : Int) < (m : Int)) = false := by simp; omega
    have d2 : decide ((3000 : Int) < (n : Int)) = true := by simp; omega
    clear h
    go_enter Try.func4, Try.ntmps4
    go_wp2_with (go_at_call 7; refine (known_any _).mono ?_; rintro e w1 ⟨rfl, hb⟩)
    go_ret
    exact ⟨rfl, hb⟩

end Go.Proofs.Ytebkgmjmjmaleaa
