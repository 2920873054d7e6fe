/- Sums that are known. -/
import Derived.Test.YtebkgmjmjmaleaaWSum
import Derived.Laws.StructEq
namespace Go.Proofs.Ytebkgmjmjmaleaa
open Go.RowKit

theorem eq_same (d : Nat) (g : Nat → Int) (w : World) : (Op.equalIn (d + 2) 25 (.agg (vals (fun j => .int .u8 (g j)) 20).toArray) (.agg (vals (fun j => .int .u8 (g j)) 20).toArray)).run Try.prog w = .ok true w := by
  have hsz : ∀ w, (sizeOf 5).run Try.prog w = .ok 1 w := fun w => by simp [go_sem]
  have he : Try.prog.underlying 5 = some (.int .u8) := Try.underlying5
  rw [Op.equalIn]
  simp only [Sem.run_bind, run_underlying Try.underlying25, Result.andThen_ok, hsz, Std.Legacy.Range.forIn_eq_forIn_range', Std.Legacy.Range.size, Nat.sub_zero, Nat.add_sub_cancel, Nat.div_one]
  have hl : ∀ i ∈ List.range' 0 20 1, i < 20 := fun i hi => by simpa using (List.mem_range'_1.1 hi).2
  generalize List.range' 0 20 1 = l at hl ⊢
  induction l with
  | nil => simp
  | cons i l ih =>
    have hi : i < 20 := hl i (by simp)
    have px : (part 5 (vals (fun j => .int .u8 (g j)) 20).toArray (i * 1)).run Try.prog w = .ok (.int .u8 (g i)) w := by
      have := vals_get (fun j => .int .u8 (g j)) 20 i hi
      simp [part, isAgg, run_underlying he, this]
    have pe : (Op.equalIn (d + 1) 5 (.int .u8 (g i)) (.int .u8 (g i))).run Try.prog w = .ok true w := by
      rw [run_equalIn_int w d 5 .u8 .u8 _ _ he]
      simp
    simp only [List.forIn_cons, Sem.run_bind, px, pe, Result.andThen_ok]
    simp only [Bool.not_true, Bool.false_eq_true, if_false, Sem.run_pure, Result.andThen_ok]
    exact ih fun j hj => hl j (by simp [hj])

/-- A sum's cells. -/
def svl (xs : List Int) : List Value := vals (fun j => .int .u8 ((dig xs).getD j 0)) 20

theorem sv_agg (xs : List Int) : sv xs = .agg (svl xs).toArray := rfl

theorem sv_eql (xs : List Int) (w : World) : (Op.equalIn 10000 25 (.agg (svl xs).toArray) (.agg (svl xs).toArray)).run Try.prog w = .ok true w := eq_same 9998 _ w

theorem svl_len (xs : List Int) : (svl xs).length = 20 := vals_len _ _

theorem abc_rd (w : World) : Rd (w.alloc (Obj.cells #[.int .u8 97, .int .u8 98, .int .u8 99] 5)) (some ⟨w.heap.size, 0, none⟩) 3 3 [97, 98, 99] :=
  Rd.ofRow (World.rowIs_alloc w #[.int .u8 97, .int .u8 98, .int .u8 99] 5 _ (fun i hi => by
    simp at hi
    rcases i with _ | _ | _ | i <;> first | rfl | omega)) rfl (by intro x hx; simp at hx; omega)

theorem ab_rd (w : World) : Rd (w.alloc (Obj.cells #[.int .u8 97, .int .u8 98] 5)) (some ⟨w.heap.size, 0, none⟩) 2 2 [97, 98] :=
  Rd.ofRow (World.rowIs_alloc w #[.int .u8 97, .int .u8 98] 5 _ (fun i hi => by
    simp at hi
    rcases i with _ | _ | i <;> first | rfl | omega)) rfl (by intro x hx; simp at hx; omega)

theorem c_rd (w : World) : Rd (w.alloc (Obj.cells #[.int .u8 99] 5)) (some ⟨w.heap.size, 0, none⟩) 1 1 [99] :=
  Rd.ofRow (World.rowIs_alloc w #[.int .u8 99] 5 _ (fun i hi => by
    simp at hi
    rcases i with _ | i <;> first | rfl | omega)) rfl (by intro x hx; simp at hx; omega)

theorem freeze_cell (w : World) (b : Addr) (a : Addr) : (w.freeze b 1).cell? a = w.cell? a := by
  unfold World.freeze
  rw [if_neg (by omega)]
  unfold World.cell?
  simp only [Array.getElem?_modify]
  by_cases h : b.block = a.block
  · rw [if_pos h]
    cases ho : w.heap[a.block]? with
    | none => simp
    | some o => cases o <;> simp
  · rw [if_neg h]

theorem freeze_fr (w : World) (b : Addr) : Fr (fun k => k = b.block) w (w.freeze b 1) := by
  unfold World.freeze
  rw [if_neg (by omega)]
  exact ⟨rfl, rfl, rfl, by simp, fun k _ hn => by
    rw [Array.getElem?_modify, if_neg (fun e => hn e.symm)]⟩

theorem conv22 (w : World) (a : Addr) (n c : Nat) : ∃ w', (convert 22 22 (.slice (some a) n c)).run Try.prog w = .ok (.slice (some a) n c) w' ∧ Fr (fun k => k = a.block) w w' ∧ ∀ p, w'.cell? p = w.cell? p := by
  cases h : w.shape? a.block with
  | none => exact ⟨w, by simp [convert, run_underlying Try.underlying22, run_underlying Try.underlying5, markStringish, h], Fr.refl _ _, fun _ => rfl⟩
  | some x => exact ⟨w.freeze ⟨a.block, x.2, none⟩ 1, by simp [convert, run_underlying Try.underlying22, run_underlying Try.underlying5, markStringish, h], freeze_fr w ⟨a.block, x.2, none⟩, freeze_cell w ⟨a.block, x.2, none⟩⟩

theorem wpList_conv {ops : Array Oper} {rest : List Oper} {op : Oper} {a : Act} {w : World} {Q : Exit → Act → World → Prop} (hgd : op.guard = none) (x : Operand) (ho : op.op = .convert 22 22 x)
    (ad : Addr) (n c : Nat) (hx : a.eval x = .slice (some ad) n c)
    (hk : ∀ w', Fr (fun k => k = ad.block) w w' → (∀ p, w'.cell? p = w.cell? p) → wpList Try.prog ops Q rest (a.put op.dst (.slice (some ad) n c)) w') : wpList Try.prog ops Q (op :: rest) a w := by
  refine wpList_plain hgd fun K hK => ?_
  obtain ⟨w', hrun, hf, hc⟩ := conv22 w ad n c
  unfold Oper.wp
  simp [execOp, ho, hx, hrun, Result.andThen]
  exact hK _ _ (hk w' hf hc)

theorem Rd.same {w w' : World} {ao : Option Addr} {n c : Nat} {xs : List Int} (h : Rd w ao n c xs) (hc : ∀ p, w'.cell? p = w.cell? p) : Rd w' ao n c xs :=
  ⟨h.len, h.le, h.nul, fun ad had j hj => by rw [hc]; exact h.cells ad had j hj, h.byt⟩

theorem new_below (w : World) (o : Obj) : Below w.heap.size w (w.alloc o) := (Below.refl _ _).alloc (Nat.le_refl _) _

/-- A variable of a sum, and its store. -/
theorem z20_row (w : World) : (w.alloc (Obj.cells #[.int .u8 0, .int .u8 0, .int .u8 0, .int .u8 0, .int .u8 0, .int .u8 0, .int .u8 0, .int .u8 0, .int .u8 0, .int .u8 0, .int .u8 0, .int .u8 0, .int .u8 0, .int .u8 0, .int .u8 0, .int .u8 0, .int .u8 0, .int .u8 0, .int .u8 0, .int .u8 0] 25)).rowIs w.heap.size 25 20 (fun _ => .int .u8 0) := rowIs_rep w (Value.int .u8 0) 20 25

theorem svg (xs : List Int) : ∃ g : Nat → Value, sv xs = row g 20 ∧ svl xs = vals g 20 ∧ ∀ j, (g j).oneCell' = true := ⟨_, rfl, rfl, fun _ => rfl⟩

theorem new_fr {w w' : World} {o : Obj} (f : Fr (fun k => k = w.heap.size) (w.alloc o) w') : Below w.heap.size w w' :=
  (new_below w o).trans (f.below _ (by simp) (fun i hi e => by omega))

theorem q_ld {ops : Array Oper} {o : Oper} {a : Act} {C : World → Prop} {K : Act → Prop} {E : Prop} (hw : Region.wanted o (yielded ops a.tmps) = true) (x : Operand) (ho : o.op = .load 25 x) (b : Nat) (hx : a.eval x = .pointer (some ⟨b, 0, none⟩)) (cs : List Value)
    (hc : ∀ w, C w → w.rangeAt b 0 cs) (hl : cs.length = 20) (hk : K (a.put o.dst (.agg cs.toArray))) : if Region.wanted o (yielded ops a.tmps) = true then o.quiet Try.prog a C K else E := by
  rw [if_pos hw]
  refine ⟨_, fun w hC => ?_, hk⟩
  unfold Oper.quietAt execOp
  simp only [ho, hx, Instr.loadAt, Instr.sureAddr, Sem.run_bind, Sem.run_pure, Result.andThen_ok, run_loadVar_mid w b 0 25 cs _ (hc w hC) Try.underlying25 rfl (by rw [hl]; exact size25)]
  exact ⟨rfl, rfl⟩

theorem q_cell {ops : Array Oper} {o : Oper} {a : Act} {C : World → Prop} {K : Act → Prop} {E : Prop} (hw : Region.wanted o (yielded ops a.tmps) = true) (x : Operand) (ho : o.op = .load 5 x) (b i : Nat) (hx : a.eval x = .pointer (some ⟨b, i, none⟩)) (v : Value)
    (hc : ∀ w, C w → w.cell? ⟨b, i, none⟩ = some v) (hk : K (a.put o.dst v)) : if Region.wanted o (yielded ops a.tmps) = true then o.quiet Try.prog a C K else E := by
  rw [if_pos hw]
  refine ⟨v, fun w hC => ?_, hk⟩
  have h := hc w hC
  unfold Oper.quietAt execOp
  simp only [ho, hx]
  simp [go_sem, h]

/-- What region 8 reads. -/
structure KS (A B R : Nat) (w : World) : Prop where
  a0 : w.cell? ⟨A, 0, none⟩ = some (.int .u8 218)
  a1 : w.cell? ⟨A, 19, none⟩ = some (.int .u8 9)
  b0 : w.cell? ⟨B, 0, none⟩ = some (.int .u8 169)
  b1 : w.cell? ⟨B, 19, none⟩ = some (.int .u8 157)
  b2 : w.rangeAt B 0 (svl [97, 98, 99])
  h : IsH w R [97, 98, 99]

theorem KS.keep {A B R : Nat} {w w' : World} (h : KS A B R w) (hb : Below w.heap.size w w') : KS A B R w' := by
  have hc : ∀ p u, w.cell? p = some u → w'.cell? p = some u := fun p u hu => (hb.cell (World.block_lt_of_cell? w _ hu)).trans hu
  exact ⟨hc _ _ h.a0, hc _ _ h.a1, hc _ _ h.b0, hc _ _ h.b1, fun j v hv => hc _ _ (h.b2 j v hv), h.h.keep hb⟩

set_option maxRecDepth 100000 in
set_option maxHeartbeats 4000000 in
theorem known_any (w : World) : Calls Try.prog 7 #[] w fun e w' => e = .returned (.bool true) ∧ Below w.heap.size w w' := by
  go_enter Try.func7, Try.ntmps7
  go_wp2_with fail
  refine (sum_any none 0 0 [] w (Rd.nil w) (by simp)).mono ?_
  rintro e w1 ⟨rfl, b1⟩
  obtain ⟨g, hg, hgl, hg1⟩ := svg []
  rw [hg]
  have HG : Hid (svl [] = vals g 20) := hgl
  have HB1 : Hid (Below w.heap.size w w1) := b1
  clear hg hgl b1
  have rz := z20_row w1
  go_wp2_with (first | (refine wpList_st rfl 25 _ _ rfl w1.heap.size rfl g rfl rz size25 hg1 ?_; intro w2 h2 f2; clear rz) | (refine wpList_conv rfl _ rfl ⟨w2.heap.size, 0, none⟩ 3 3 rfl ?_; intro w2' fc cc))
  have rab' := (abc_rd w2).same cc
  have HB2 : Hid (w2.rowIs w1.heap.size 25 20 g ∧ Below w1.heap.size w1 w2) := ⟨h2, new_fr f2⟩
  clear h2 f2 hg1 cc
  refine (sum_any _ 3 3 [97, 98, 99] _ rab' (by simp)).mono ?_
  rintro e w3 ⟨rfl, b3⟩
  obtain ⟨g', hg', hgl', hg1'⟩ := svg [97, 98, 99]
  rw [hg']
  have HG' : Hid (svl [97, 98, 99] = vals g' 20) := hgl'
  have HB3 : Hid (Below w2.heap.size w2 w3) := (new_fr fc).trans (b3.mono (new_fr fc).size)
  clear hg' hgl' b3 fc rab'
  have rz := z20_row w3
  go_wp2_with (first | (refine wpList_st rfl 25 _ _ rfl w3.heap.size rfl g' rfl rz size25 hg1' ?_; intro w4 h4 f4; clear rz))
  have HB4 : Hid (w4.rowIs w3.heap.size 25 20 g' ∧ Below w3.heap.size w3 w4) := ⟨h4, new_fr f4⟩
  clear h4 f4 hg1'
  go_wp2_with fail
  refine (newH_any _).mono ?_
  rintro e w5 ⟨rfl, h5, b5⟩
  have HB5 : Hid (IsH w5 w4.heap.size [] ∧ Below w4.heap.size w4 w5) := ⟨h5, b5⟩
  clear h5 b5
  go_wp2_with (first | (refine wpList_conv rfl _ rfl ⟨w5.heap.size, 0, none⟩ 2 2 rfl ?_; intro w5' fc cc))
  have rab' := (ab_rd w5).same cc
  clear cc
  refine (write_any w4.heap.size _ 2 2 [] [97, 98] _ (HB5.out.1.keep (new_fr fc)) rab' (fun ad had _ e => by cases had; have := HB5.out.1.lt; change w5.heap.size = w4.heap.size at e; omega) (by simp)).mono ?_
  rintro e w6 ⟨rfl, h6, f6⟩
  have HB6 : Hid (IsH w6 w4.heap.size [97, 98] ∧ Below w4.heap.size w5 w6) := ⟨h6, ((new_fr fc).mono (by have := HB5.out.2.size; omega)).trans (f6.below _ (by have := HB5.out.2.size; have := (new_fr fc).size; omega) (fun i hi e => by omega))⟩
  clear h6 f6 fc rab'
  go_wp2_with (first | (refine wpList_conv rfl _ rfl ⟨w6.heap.size, 0, none⟩ 1 1 rfl ?_; intro w6' fc cc))
  have rab' := (c_rd w6).same cc
  clear cc
  refine (write_any w4.heap.size _ 1 1 [97, 98] [99] _ (HB6.out.1.keep (new_fr fc)) rab' (fun ad had _ e => by cases had; have := HB6.out.1.lt; change w6.heap.size = w4.heap.size at e; omega) (by simp)).mono ?_
  rintro e w7 ⟨rfl, h7, f7⟩
  have HB7 : Hid (IsH w7 w4.heap.size [97, 98, 99] ∧ Below w4.heap.size w6 w7) := ⟨h7, ((new_fr fc).mono (by have := HB6.out.1.lt; omega)).trans (f7.below _ (by have := HB6.out.1.lt; have := (new_fr fc).size; omega) (fun i hi e => by omega))⟩
  clear h7 f7 fc rab'
  go_wp2_with fail
  obtain ⟨h2, b2⟩ := HB2.out
  have b3 := HB3.out
  obtain ⟨h4, b4⟩ := HB4.out
  obtain ⟨h5, b5⟩ := HB5.out
  obtain ⟨h6, b6⟩ := HB6.out
  obtain ⟨h7, b7⟩ := HB7.out
  have l2 := h2.lt
  have l4 := h4.lt
  have b47 : Below w4.heap.size w4 w7 := b5.trans (b6.trans b7)
  have b27 : Below w2.heap.size w2 w7 := b3.trans ((b4.mono b3.size).trans (b47.mono (by have := b3.size; have := b4.size; omega)))
  have rA : w7.rowIs w1.heap.size 25 20 g := h2.of_block (b27.block _ l2)
  have rB : w7.rowIs w3.heap.size 25 20 g' := h4.of_block (b47.block _ l4)
  have gA : ∀ j, j < 20 → g j = .int .u8 (sumNil.getD j 0) := fun j hj => by
    have e1 := vals_get g 20 j hj
    rw [← HG.out, svl, vals_get _ 20 j hj, dig_nil] at e1
    exact (Option.some.inj e1).symm
  have gB : ∀ j, j < 20 → g' j = .int .u8 (sumAbc.getD j 0) := fun j hj => by
    have e1 := vals_get g' 20 j hj
    rw [← HG'.out, svl, vals_get _ 20 j hj, dig_abc] at e1
    exact (Option.some.inj e1).symm
  have k0 : w7.cell? ⟨w1.heap.size, 0, none⟩ = some (.int .u8 218) := by rw [rA.cell (i := 0) (by omega), gA 0 (by omega)]; rfl
  have k1 : w7.cell? ⟨w1.heap.size, 19, none⟩ = some (.int .u8 9) := by rw [rA.cell (i := 19) (by omega), gA 19 (by omega)]; rfl
  have k2 : w7.cell? ⟨w3.heap.size, 0, none⟩ = some (.int .u8 169) := by rw [rB.cell (i := 0) (by omega), gB 0 (by omega)]; rfl
  have k3 : w7.cell? ⟨w3.heap.size, 19, none⟩ = some (.int .u8 157) := by rw [rB.cell (i := 19) (by omega), gB 19 (by omega)]; rfl
  have k4 : w7.rangeAt w3.heap.size 0 (svl [97, 98, 99]) := by
    rw [HG'.out]
    have := rangeAt_row rB 0 20 (by omega)
    simpa using this
  have bw : Below w.heap.size w w7 := HB1.out.trans ((b2.mono HB1.out.size).trans (b27.mono (by have := HB1.out.size; have := b2.size; omega)))
  have HT : Hid (∀ w', KS w1.heap.size w3.heap.size w4.heap.size w' → ∀ w'', Below w'.heap.size w' w'' → KS w1.heap.size w3.heap.size w4.heap.size w'') := fun w' hs w'' hb => hs.keep hb
  have HW : Hid (Below w.heap.size w w7) := bw
  have u25 := Try.underlying25
  have z25 := size25
  have heq := sv_eql [97, 98, 99]
  have hs7 : KS w1.heap.size w3.heap.size w4.heap.size w7 := ⟨k0, k1, k2, k3, k4, h7⟩
  clear h2 b2 b3 h4 b4 h5 b5 h6 b6 b7 l2 l4 b47 b27 rA rB gA gB bw HB1 HB2 HB3 HB4 HB5 HB6 HB7 HG HG' k0 k1 k2 k3 k4 h7
  rw [show w7 = w7 from rfl]
  refine wp_region_quiet (C := fun w' => KS w1.heap.size w3.heap.size w4.heap.size w' ∧ Below w.heap.size w w') (by kernel_rfl) (by kernel_rfl) ⟨hs7.keep (Below.refl _ _).drew, HW.out.drew⟩ ?_
  have hsvg := sv_agg [97, 98, 99]
  repeat
    refine wpQuiet_step (fun K hK => ?_)
    first
      | (refine q_cell (by rfl) _ rfl w1.heap.size 0 rfl _ (fun w h => h.1.a0) (hK _ ?_); clear hK K)
      | (refine q_cell (by rfl) _ rfl w1.heap.size 19 rfl _ (fun w h => h.1.a1) (hK _ ?_); clear hK K)
      | (refine q_cell (by rfl) _ rfl w3.heap.size 0 rfl _ (fun w h => h.1.b0) (hK _ ?_); clear hK K)
      | (refine q_cell (by rfl) _ rfl w3.heap.size 19 rfl _ (fun w h => h.1.b1) (hK _ ?_); clear hK K)
      | (refine q_ld (by rfl) _ rfl w3.heap.size rfl (svl [97, 98, 99]) (fun w h => h.1.b2) (svl_len _) (hK _ ?_); clear hK K)
      | (go_simp; refine hK _ ?_; clear hK K)
      | (go_simp; refine ⟨_, fun wq hs hb => rfl, hK _ ?_⟩; clear hK K)
      | (go_simp; refine ⟨.agg (svl [97, 98, 99]).toArray, fun wq hs hb => (hsum_any _ [97, 98, 99] _ hs.h (by decide)).mono (fun e w'' h => ⟨h.1, hs.keep h.2, hb.trans (h.2.mono hb.size)⟩), hK _ ?_⟩; clear hK K)
      | (go_simp; refine ⟨.int .i64 3, fun wq hs hb => (lenH_any _ [97, 98, 99] _ hs.h).mono (fun e w'' h => ⟨h.1, by rw [h.2]; exact hs, by rw [h.2]; exact hb⟩), hK _ ?_⟩; clear hK K)
  refine wpQuiet_nil ?_
  intro w8 h8
  have hb8 := h8.2
  clear hs7 HT HW h8
  go_wp2_with fail
  go_ret
  exact ⟨rfl, hb8⟩

end Go.Proofs.Ytebkgmjmjmaleaa
