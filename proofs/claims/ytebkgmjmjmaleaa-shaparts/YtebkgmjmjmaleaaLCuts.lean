/- The walk of ShaCuts. -/
import Derived.Test.YtebkgmjmjmaleaaWKnown
namespace Go.Proofs.Ytebkgmjmjmaleaa
open Go.RowKit

theorem run_sub {w : World} {ao : Option Addr} {n c p m : Nat} {ys : List Int} (h : Rd w ao n c ys) (hpm : p + m ≤ n) (lo hi : Option Value)
    (hlo : lo = some (.int .i64 (p : Int)) ∨ lo = none ∧ p = 0) (hhi : hi = some (.int .i64 ((p + m : Nat) : Int)) ∨ hi = none ∧ p + m = n) :
    (Instr.slice 22 (.slice ao n c) lo hi none).run Try.prog w = .ok (.slice (if c = p then ao else Option.map (fun x => x.add p) ao) m (c - p)) w := by
  have hle := h.le
  have hz : ∀ w, (sizeOf 5).run Try.prog w = .ok 1 w := fun w => by simp [go_sem]
  have e1 : 0 ≤ ((p + m : Nat) : Int) ∧ ((p + m : Nat) : Int) ≤ (c : Int) := by omega
  have e2 : 0 ≤ (p : Int) ∧ (p : Int) ≤ ((p + m : Nat) : Int) := by omega
  have e3 : ((p + m : Nat) : Int).toNat = p + m := by omega
  have e4 : p + m - p = m := by omega
  unfold Instr.slice Instr.sliceBounds
  rcases hlo with rfl | ⟨rfl, rfl⟩ <;> rcases hhi with rfl | ⟨rfl, rfl⟩ <;>
    simp only [run_underlying Try.underlying22, Instr.sliceBound, asIntOf, hz, Result.andThen_ok, Sem.run_bind, Sem.run_pure, if_pos e1, if_pos e2, e3, e4, Option.isSome_none, Int.toNat_natCast, Nat.mul_one, Nat.sub_zero]

theorem wpList_sub {ops : Array Oper} {rest : List Oper} {op : Oper} {a : Act} {w : World} {Q : Exit → Act → World → Prop} (hgd : op.guard = none) (x : Operand) (lo hi : Option Operand) (ho : op.op = .slice 22 x lo hi none)
    {ao : Option Addr} {n c : Nat} {ys : List Int} (h : Rd w ao n c ys) (p m : Nat) (hpm : p + m ≤ n) (hx : a.eval x = .slice ao n c)
    (hlo : lo.map a.eval = some (.int .i64 (p : Int)) ∨ lo.map a.eval = none ∧ p = 0) (hhi : hi.map a.eval = some (.int .i64 ((p + m : Nat) : Int)) ∨ hi.map a.eval = none ∧ p + m = n)
    (hk : ∀ ao' c', Rd w ao' m c' ((ys.drop p).take m) → (∀ ad, ao' = some ad → ∃ a0, ao = some a0 ∧ ad.block = a0.block) → wpList Try.prog ops Q rest (a.put op.dst (.slice ao' m c')) w) : wpList Try.prog ops Q (op :: rest) a w := by
  refine wpList_plain hgd fun K hK => ?_
  unfold Oper.wp
  have hrun := run_sub h hpm _ _ hlo hhi
  have hat : (Instr.sliceAt 22 (.slice ao n c) (lo.map a.eval) (hi.map a.eval) none).run Try.prog w = .ok (.slice (if c = p then ao else Option.map (fun x => x.add p) ao) m (c - p)) w := by
    unfold Instr.sliceAt
    simp only [Sem.run_bind, run_underlying Try.underlying22, Result.andThen_ok]
    exact hrun
  simp only [execOp, ho, hx, Sem.run_bind, Option.map_none, hat, Result.andThen_ok, Sem.run_pure]
  refine hK _ _ (hk _ _ (h.sub p m hpm) fun ad had => ?_)
  by_cases hc : c = p
  · rw [if_pos hc] at had
    exact ⟨ad, had, rfl⟩
  · rw [if_neg hc] at had
    cases ao with
    | none => cases had
    | some a0 => exact ⟨a0, rfl, by cases had; unfold Addr.add; split <;> rfl⟩

theorem Rd.blk {w : World} {ao : Option Addr} {n c : Nat} {ys : List Int} (h : Rd w ao n c ys) : ∀ ad, ao = some ad → 0 < n → ad.block < w.heap.size := fun ad had hn => by
  have := h.cells ad had 0 hn
  have := World.block_lt_of_cell? w _ this
  rwa [show (ad.add 0).block = ad.block by unfold Addr.add; split <;> rfl] at this

theorem q_call1 {ops : Array Oper} {o : Oper} {a : Act} {C : World → Prop} {K : Act → Prop} {E : Prop} (hw : Region.wanted o (yielded ops a.tmps) = true) (f : FuncId) (hf : ∀ vs w, (callFunc f vs).run Try.prog w = .ok (.enter f vs) w) (x : Operand) (ts : Array TypeId) (ho : o.op = .call { callee := .value (.func f), args := #[x], argTypes := ts }) (u : Value) (hx : a.eval x = u) (v : Value)
    (hc : ∀ w, C w → Calls Try.prog f #[u] w (fun e w' => e = .returned v ∧ C w')) (hk : K (a.put o.dst v)) : if Region.wanted o (yielded ops a.tmps) = true then o.quiet Try.prog a C K else E := by
  rw [if_pos hw]
  refine ⟨v, fun w hC => ?_, hk⟩
  have h := hc w hC
  have hr : (resolve a.eval { callee := .value (.func f), args := #[x], argTypes := ts } o.type >>= fun d => invoke d.target d.args).run Try.prog w = .ok (.enter f #[u]) w := by
    rw [← hf #[u] w, ← hx]
    simp [resolve, Act.eval, invoke, Deferred.ofValue]
  unfold Oper.quietAt execOp
  simp only [ho, hr]
  exact ⟨rfl, h⟩

theorem cf13 (vs : Array Value) (w : World) : (callFunc 13 vs).run Try.prog w = .ok (.enter 13 vs) w := by simp [go_sem]
theorem cf12 (vs : Array Value) (w : World) : (callFunc 12 vs).run Try.prog w = .ok (.enter 12 vs) w := by simp [go_sem]

/-- What region 21 reads. -/
structure CS (S R R2 T : Nat) (ys : List Int) (w : World) : Prop where
  s : w.rangeAt S 0 (svl ys)
  a : IsH w R ys
  b : IsH w R2 ys
  c : IsH w T ys

theorem CS.keep {S R R2 T : Nat} {ys : List Int} {w w' : World} (h : CS S R R2 T ys w) (hb : Below w.heap.size w w') : CS S R R2 T ys w' :=
  ⟨fun j v hv => (hb.cell (World.block_lt_of_cell? w _ (h.s j v hv))).trans (h.s j v hv), h.a.keep hb, h.b.keep hb, h.c.keep hb⟩

theorem take_one (ys : List Int) (k : Nat) : ys.take k ++ (ys.drop k).take 1 = ys.take (k + 1) := by rw [List.take_add]

theorem half_join (ys : List Int) (h : Nat) : ys.take h ++ ys.drop h = ys := List.take_append_drop h ys

set_option maxRecDepth 100000 in
set_option maxHeartbeats 4000000 in
theorem cuts_go (ao : Option Addr) (n c : Nat) (ys : List Int) (w : World) (hr : Rd w ao n c ys) (hn : n ≤ 300) :
    Calls Try.prog 6 #[.slice ao n c] w fun e w' => e = .returned (.bool true) ∧ Below w.heap.size w w' := by
  have hd1 : decide ((300 : Int) < (n : Int)) = false := by simp; omega
  have hlen := hr.len
  have HL : Hid (ys.length = n ∧ Rd w ao n c ys) := ⟨hlen, hr⟩
  clear hlen hr
  go_enter Try.func6, Try.ntmps6
  go_wp2_with fail
  refine (known_any _).mono ?_
  rintro e w0 ⟨rfl, hb0⟩
  have HB0 : Hid (Below w.heap.size w w0) := hb0
  clear hb0
  go_wp2_with fail
  refine (newH_any _).mono ?_
  rintro e w1 ⟨rfl, h1, b1⟩
  obtain ⟨R, hR⟩ : ∃ R, R = w0.heap.size := ⟨_, rfl⟩
  rw [← hR] at h1 b1 ⊢
  have HR : Hid (w.heap.size ≤ R) := by rw [hR]; exact HB0.out.size
  have HB1 : Hid (IsH w1 R [] ∧ Below w.heap.size w w1) := ⟨h1, HB0.out.trans (b1.mono HR.out)⟩
  clear h1 b1 HB0 hR
  go_wp2_with fail
  go_loopw [4] (fun i wr => ∃ k : Nat, i = .int .i64 (k : Int) ∧ k ≤ n ∧ IsH wr R (ys.take k) ∧ Below w.heap.size w wr) (fun i _ => n - (intOf i).toNat)
  case atStart => exact ⟨0, rfl, by omega, by simpa using HB1.out.1, HB1.out.2⟩
  case round =>
    clear HB1
    obtain ⟨k, rfl, hk, hH, hb⟩ := hrel
    by_cases hkn : k < n
    · have hkn' : decide ((k : Int) < (n : Int)) = true := by simp; omega
      have hrd := HL.out.2.keep hb
      have HH : Hid (IsH wr R (ys.take k) ∧ Below w.heap.size w wr) := ⟨hH, hb⟩
      clear hH hb
      go_wp2_with (first | (refine wpList_sub rfl _ _ _ rfl hrd k 1 (by omega) rfl (.inl rfl) (.inl rfl) ?_; intro ao' c' hr' hs'; clear hrd))
      refine (write_any R ao' 1 c' (ys.take k) ((ys.drop k).take 1) _ HH.out.1 hr' (fun ad had _ e => by obtain ⟨a0, h0, h1⟩ := hs' ad had; have := HL.out.2.blk a0 h0 (by omega); have := HR.out; omega) (by have := HL.out.1; simp; omega)).mono ?_
      rintro e w2 ⟨rfl, h2, f2⟩
      rw [take_one] at h2
      have H2 : Hid (IsH w2 R (ys.take (k + 1)) ∧ Below w.heap.size w w2) := ⟨h2, HH.out.2.trans (f2.below _ HH.out.2.size (fun i hi e => by have := HR.out; omega))⟩
      clear h2 f2 hr' hs' HH
      go_wp2_with fail
      refine (write_any R none 0 0 (ys.take (k + 1)) [] _ H2.out.1 (Rd.nil _) (fun ad had _ e => by cases had) (by have := HL.out.1; simp; omega)).mono ?_
      rintro e w3 ⟨rfl, h3, f3⟩
      rw [List.append_nil] at h3
      have H3 : Hid (IsH w3 R (ys.take (k + 1)) ∧ Below w.heap.size w w3) := ⟨h3, H2.out.2.trans (f3.below _ H2.out.2.size (fun i hi e => by have := HR.out; omega))⟩
      clear h3 f3 H2
      by_cases h16 : (k : Int) % 16 = 0
      · go_wp2_with fail
        refine (hsum_any R _ _ H3.out.1 (by have := HL.out.1; simp; omega)).mono ?_
        rintro e w4 ⟨rfl, b4⟩
        have H4 : Hid (IsH w4 R (ys.take (k + 1)) ∧ Below w.heap.size w w4) := ⟨H3.out.1.keep b4, H3.out.2.trans (b4.mono H3.out.2.size)⟩
        clear b4
        obtain ⟨u, hu⟩ : ∃ u, u = sv (ys.take (k + 1)) := ⟨_, rfl⟩
        rw [← hu]
        clear hu
        go_wp2_with fail
        exact ⟨⟨k + 1, rfl, by omega, H4.out.1, H4.out.2⟩, by simp [intOf]; omega⟩
      · go_wp2_with fail
        exact ⟨⟨k + 1, rfl, by omega, H3.out.1, H3.out.2⟩, by simp [intOf]; omega⟩
    · have hkn' : decide ((k : Int) < (n : Int)) = false := by simp; omega
      obtain ⟨h, hh⟩ : ∃ h, h = n / 2 := ⟨_, rfl⟩
      have hq : (n : Int) / 2 = (h : Int) := by omega
      have hhn : h ≤ n := by omega
      have e2 : ys.take k = ys := List.take_of_length_le (by have := HL.out.1; omega)
      rw [e2] at hH
      have H2 : Hid (IsH wr R ys ∧ Below w.heap.size w wr) := ⟨hH, hb⟩
      clear hH hb e2 hh
      go_wp2_with fail
      refine (newH_any _).mono ?_
      rintro e w2 ⟨rfl, h2, b2⟩
      obtain ⟨R2, hR2⟩ : ∃ R2, R2 = wr.heap.size := ⟨_, rfl⟩
      rw [← hR2] at h2 b2 ⊢
      have HR2 : Hid (w.heap.size ≤ R2 ∧ R < R2) := by rw [hR2]; exact ⟨H2.out.2.size, H2.out.1.lt⟩
      have H3 : Hid (IsH w2 R ys ∧ IsH w2 R2 [] ∧ Below w.heap.size w w2) := by
        rw [hR2] at b2
        exact ⟨H2.out.1.keep b2, h2, H2.out.2.trans (b2.mono H2.out.2.size)⟩
      clear h2 b2 H2 hR2
      have hrd := HL.out.2.keep H3.out.2.2
      go_wp2_with (first | (refine wpList_sub rfl _ _ _ rfl hrd 0 h (by omega) rfl (.inr ⟨rfl, rfl⟩) (.inl (by rw [Nat.zero_add]; rfl)) ?_; intro ao' c' hr' hs'; clear hrd))
      refine (write_any R2 ao' h c' [] ((ys.drop 0).take h) _ H3.out.2.1 hr' (fun ad had _ e => by obtain ⟨a0, h0, h1⟩ := hs' ad had; have := HL.out.2.blk a0 h0 (by omega); have := HR2.out; omega) (by have := HL.out.1; simp; omega)).mono ?_
      rintro e w3 ⟨rfl, h3, f3⟩
      rw [List.drop_zero, List.nil_append] at h3
      have H4 : Hid (IsH w3 R ys ∧ IsH w3 R2 (ys.take h) ∧ Below w.heap.size w w3) := ⟨H3.out.1.fr f3 (fun e => by have := HR2.out; omega), h3, H3.out.2.2.trans (f3.below _ H3.out.2.2.size (fun i hi e => by have := HR2.out; omega))⟩
      clear h3 f3 hr' hs' H3
      go_wp2_with fail
      refine (twinH_any R2 _ _ H4.out.2.1).mono ?_
      rintro e w4 ⟨rfl, h4, b4⟩
      obtain ⟨T, hT⟩ : ∃ T, T = w3.heap.size := ⟨_, rfl⟩
      rw [← hT] at h4 b4 ⊢
      have HT : Hid (w.heap.size ≤ T ∧ R < T ∧ R2 < T) := by rw [hT]; exact ⟨H4.out.2.2.size, H4.out.1.lt, H4.out.2.1.lt⟩
      have H5 : Hid (IsH w4 R ys ∧ IsH w4 R2 (ys.take h) ∧ IsH w4 T (ys.take h) ∧ Below w.heap.size w w4) := by
        rw [hT] at b4
        exact ⟨H4.out.1.keep b4, H4.out.2.1.keep b4, h4, H4.out.2.2.trans (b4.mono H4.out.2.2.size)⟩
      clear h4 b4 H4 hT
      have hrd := HL.out.2.keep H5.out.2.2.2
      go_wp2_with (first | (refine wpList_sub rfl _ _ _ rfl hrd h (n - h) (by omega) rfl (.inl rfl) (.inr ⟨rfl, by omega⟩) ?_; intro ao' c' hr' hs'; clear hrd))
      refine (write_any R2 ao' (n - h) c' (ys.take h) ((ys.drop h).take (n - h)) _ H5.out.2.1 hr' (fun ad had _ e => by obtain ⟨a0, h0, h1⟩ := hs' ad had; have := HL.out.2.blk a0 h0 (by omega); have := HR2.out; omega) (by have := HL.out.1; simp; omega)).mono ?_
      rintro e w5 ⟨rfl, h5, f5⟩
      have hj : (ys.drop h).take (n - h) = ys.drop h := List.take_of_length_le (by have := HL.out.1; simp; omega)
      have HJ : Hid ((ys.drop h).take (n - h) = ys.drop h) := hj
      rw [hj, half_join] at h5
      have H6 : Hid (IsH w5 R ys ∧ IsH w5 R2 ys ∧ IsH w5 T (ys.take h) ∧ Below w.heap.size w w5) := ⟨H5.out.1.fr f5 (fun e => by have := HR2.out; omega), h5, H5.out.2.2.1.fr f5 (fun e => by have := HT.out; omega), H5.out.2.2.2.trans (f5.below _ H5.out.2.2.2.size (fun i hi e => by have := HR2.out; omega))⟩
      clear h5 f5 hr' hs' H5 hj
      have hrd := HL.out.2.keep H6.out.2.2.2
      go_wp2_with (first | (refine wpList_sub rfl _ _ _ rfl hrd h (n - h) (by omega) rfl (.inl rfl) (.inr ⟨rfl, by omega⟩) ?_; intro ao' c' hr' hs'; clear hrd))
      refine (write_any T ao' (n - h) c' (ys.take h) ((ys.drop h).take (n - h)) _ H6.out.2.2.1 hr' (fun ad had _ e => by obtain ⟨a0, h0, h1⟩ := hs' ad had; have := HL.out.2.blk a0 h0 (by omega); have := HT.out; omega) (by have := HL.out.1; simp; omega)).mono ?_
      rintro e w6 ⟨rfl, h6, f6⟩
      rw [HJ.out, half_join] at h6
      have H7 : Hid (IsH w6 R ys ∧ IsH w6 R2 ys ∧ IsH w6 T ys ∧ Below w.heap.size w w6) := ⟨H6.out.1.fr f6 (fun e => by have := HT.out; omega), H6.out.2.1.fr f6 (fun e => by have := HT.out; omega), h6, H6.out.2.2.2.trans (f6.below _ H6.out.2.2.2.size (fun i hi e => by have := HT.out; omega))⟩
      clear h6 f6 hr' hs' H6 HJ
      go_wp2_with fail
      refine (sum_any ao n c ys _ (HL.out.2.keep H7.out.2.2.2) (by have := HL.out.1; omega)).mono ?_
      rintro e w7 ⟨rfl, b7⟩
      have H8 : Hid (IsH w7 R ys ∧ IsH w7 R2 ys ∧ IsH w7 T ys ∧ Below w.heap.size w w7) := ⟨H7.out.1.keep b7, H7.out.2.1.keep b7, H7.out.2.2.1.keep b7, H7.out.2.2.2.trans (b7.mono H7.out.2.2.2.size)⟩
      clear b7 H7
      obtain ⟨g, hg, hgl, hg1⟩ := svg ys
      rw [hg]
      have HG : Hid (svl ys = vals g 20) := hgl
      clear hg hgl
      have rz := z20_row w7
      go_wp2_with (first | (refine wpList_st rfl 25 _ _ rfl w7.heap.size rfl g rfl rz size25 hg1 ?_; intro w8 h8 f8; clear rz))
      obtain ⟨S, hS⟩ : ∃ S, S = w7.heap.size := ⟨_, rfl⟩
      have b8 : Below w7.heap.size w7 w8 := new_fr f8
      rw [← hS] at h8 ⊢
      have hs8 : CS S R R2 T ys w8 := ⟨by
        rw [HG.out]
        have := rangeAt_row h8 0 20 (by omega)
        simpa using this, H8.out.1.keep b8, H8.out.2.1.keep b8, H8.out.2.2.1.keep b8⟩
      have HW : Hid (Below w.heap.size w w8) := H8.out.2.2.2.trans (b8.mono H8.out.2.2.2.size)
      have hlen := HL.out.1
      have heq := sv_eql ys
      clear h8 f8 b8 H8 hS HG hg1 HT HR2 HR HL hq hd1 hkn' hkn hk
      have hcA : ∀ wq, CS S R R2 T ys wq ∧ Below w.heap.size w wq → Calls Try.prog 13 #[.pointer (some ⟨R, 0, none⟩)] wq (fun e w' => e = .returned (.agg (svl ys).toArray) ∧ CS S R R2 T ys w' ∧ Below w.heap.size w w') := fun wq hs => (hsum_any R ys _ hs.1.a (by omega)).mono (fun e w'' h => ⟨h.1, hs.1.keep h.2, hs.2.trans (h.2.mono hs.2.size)⟩)
      have hcB : ∀ wq, CS S R R2 T ys wq ∧ Below w.heap.size w wq → Calls Try.prog 13 #[.pointer (some ⟨R2, 0, none⟩)] wq (fun e w' => e = .returned (.agg (svl ys).toArray) ∧ CS S R R2 T ys w' ∧ Below w.heap.size w w') := fun wq hs => (hsum_any R2 ys _ hs.1.b (by omega)).mono (fun e w'' h => ⟨h.1, hs.1.keep h.2, hs.2.trans (h.2.mono hs.2.size)⟩)
      have hcC : ∀ wq, CS S R R2 T ys wq ∧ Below w.heap.size w wq → Calls Try.prog 13 #[.pointer (some ⟨T, 0, none⟩)] wq (fun e w' => e = .returned (.agg (svl ys).toArray) ∧ CS S R R2 T ys w' ∧ Below w.heap.size w w') := fun wq hs => (hsum_any T ys _ hs.1.c (by omega)).mono (fun e w'' h => ⟨h.1, hs.1.keep h.2, hs.2.trans (h.2.mono hs.2.size)⟩)
      have hcD : ∀ wq, CS S R R2 T ys wq ∧ Below w.heap.size w wq → Calls Try.prog 12 #[.pointer (some ⟨R, 0, none⟩)] wq (fun e w' => e = .returned (.int .i64 (n : Int)) ∧ CS S R R2 T ys w' ∧ Below w.heap.size w w') := fun wq hs => (lenH_any R ys _ hs.1.a).mono (fun e w'' h => ⟨by rw [h.1, hlen], by rw [h.2]; exact hs⟩)
      clear hlen
      refine wp_region_quiet (C := fun w' => CS S R R2 T ys w' ∧ Below w.heap.size w w') (by kernel_rfl) (by kernel_rfl) ⟨hs8.keep (Below.refl _ _).drew, HW.out.drew⟩ ?_
      repeat
        refine wpQuiet_step (fun K hK => ?_)
        first
          | (refine q_ld (by rfl) _ rfl S rfl (svl ys) (fun w h => h.1.s) (svl_len _) (hK _ ?_); clear hK K)
          | (refine q_call1 (by rfl) 13 cf13 _ _ rfl (.pointer (some ⟨R, 0, none⟩)) rfl (.agg (svl ys).toArray) hcA (hK _ ?_); clear hK K)
          | (refine q_call1 (by rfl) 13 cf13 _ _ rfl (.pointer (some ⟨R2, 0, none⟩)) rfl (.agg (svl ys).toArray) hcB (hK _ ?_); clear hK K)
          | (refine q_call1 (by rfl) 13 cf13 _ _ rfl (.pointer (some ⟨T, 0, none⟩)) rfl (.agg (svl ys).toArray) hcC (hK _ ?_); clear hK K)
          | (refine q_call1 (by rfl) 12 cf12 _ _ rfl (.pointer (some ⟨R, 0, none⟩)) rfl (.int .i64 (n : Int)) hcD (hK _ ?_); clear hK K)
          | (go_simp; refine hK _ ?_; clear hK K)
          | (go_simp; refine ⟨_, fun wq hs hb => rfl, hK _ ?_⟩; clear hK K)
      refine wpQuiet_nil ?_
      intro w9 h9
      have hb9 := h9.2
      clear hs8 HW h9
      go_wp2_with fail
      go_ret
      exact ⟨rfl, hb9⟩

theorem cuts_skip (ao : Option Addr) (n c : Nat) (w : World) (hn : 300 < n) :
    Calls Try.prog 6 #[.slice ao n c] w fun e w' => e = .returned (.bool true) ∧ Below w.heap.size w w' := by
  have hd1 : decide ((300 : Int) < (n : Int)) = true := by simp; omega
  go_enter Try.func6, Try.ntmps6
  go_wp2_with (go_at_call 7; refine (known_any _).mono ?_; rintro e w1 ⟨rfl, hb⟩)
  go_ret
  exact ⟨rfl, hb⟩

theorem cuts_any (ao : Option Addr) (n c : Nat) (ys : List Int) (w : World) (hr : Rd w ao n c ys) :
    Calls Try.prog 6 #[.slice ao n c] w fun e w' => e = .returned (.bool true) ∧ Below w.heap.size w w' := by
  by_cases hn : n ≤ 300
  · exact cuts_go ao n c ys w hr hn
  · exact cuts_skip ao n c w (by omega)

end Go.Proofs.Ytebkgmjmjmaleaa
