/- New. -/
import Derived.Test.YtiahbicodlgmhaaGreatDoorM03
namespace Go.Proofs.YtiahbicodlgmhaaGreatDoor
open Go.RowKit

theorem step_call1 {w : World} {ops : Array Oper} {o : Oper} {a : Act} {K : Act → World → Prop} {Q : Exit → Act → World → Prop} {E : Prop} {C : Value → World → Prop} (hw : Region.wanted o (yielded ops a.tmps) = true) (f : FuncId) (hf : ∀ vs w, (callFunc f vs).run Tryz.prog w = .ok (.enter f vs) w) (x : Operand) (ts : Array TypeId) (ho : o.op = .call { callee := .value (.func f), args := #[x], argTypes := ts }) (u : Value) (hx : a.eval x = u)
    (hc : Calls Tryz.prog f #[u] w (fun e w' => ∃ v, e = .returned v ∧ C v w')) (hk : ∀ v w', C v w' → K (a.put o.dst v) w') : if Region.wanted o (yielded ops a.tmps) = true then Oper.wp Tryz.prog o a w K Q else E := by
  rw [if_pos hw]
  have hr : (resolve a.eval { callee := .value (.func f), args := #[x], argTypes := ts } o.type >>= fun d => invoke d.target d.args).run Tryz.prog w = .ok (.enter f #[u]) w := by
    rw [← hf #[u] w, ← hx]
    simp [resolve, Act.eval, invoke, Deferred.ofValue]
  unfold Oper.wp execOp
  simp only [ho, hr]
  refine hc.mono ?_
  rintro e w' ⟨v, rfl, h⟩
  exact hk v w' h

theorem step_call2 {w : World} {ops : Array Oper} {o : Oper} {a : Act} {K : Act → World → Prop} {Q : Exit → Act → World → Prop} {E : Prop} {C : Value → World → Prop} (hw : Region.wanted o (yielded ops a.tmps) = true) (f : FuncId) (hf : ∀ vs w, (callFunc f vs).run Tryz.prog w = .ok (.enter f vs) w) (x y : Operand) (ts : Array TypeId) (ho : o.op = .call { callee := .value (.func f), args := #[x, y], argTypes := ts }) (u u' : Value) (hx : a.eval x = u) (hy : a.eval y = u')
    (hc : Calls Tryz.prog f #[u, u'] w (fun e w' => ∃ v, e = .returned v ∧ C v w')) (hk : ∀ v w', C v w' → K (a.put o.dst v) w') : if Region.wanted o (yielded ops a.tmps) = true then Oper.wp Tryz.prog o a w K Q else E := by
  rw [if_pos hw]
  have hr : (resolve a.eval { callee := .value (.func f), args := #[x, y], argTypes := ts } o.type >>= fun d => invoke d.target d.args).run Tryz.prog w = .ok (.enter f #[u, u']) w := by
    rw [← hf #[u, u'] w, ← hx, ← hy]
    simp [resolve, Act.eval, invoke, Deferred.ofValue]
  unfold Oper.wp execOp
  simp only [ho, hr]
  refine hc.mono ?_
  rintro e w' ⟨v, rfl, h⟩
  exact hk v w' h

theorem cf62 (vs : Array Value) (w : World) : (callFunc 118 vs).run Tryz.prog w = .ok (.enter 118 vs) w := by simp [go_sem]
theorem cf47 (vs : Array Value) (w : World) : (callFunc 119 vs).run Tryz.prog w = .ok (.enter 119 vs) w := by simp [go_sem]
theorem cf64 (vs : Array Value) (w : World) : (callFunc 120 vs).run Tryz.prog w = .ok (.enter 120 vs) w := by simp [go_sem]
theorem cf141 (vs : Array Value) (w : World) : (callFunc 121 vs).run Tryz.prog w = .ok (.enter 121 vs) w := by simp [go_sem]

/-- The error of New. -/
def nw (L : Nat → Int) (n : Nat) (half : Bool) : Int := if er L n = 0 then (if fu L n = true ∨ (half = true ∧ SM L n ≤ 1) then 0 else 2) else er L n

/-- A code's cells. -/
def ccells (ls cs sy : Value) (C F : Nat → Int) (dp : Int) (j : Nat) : Value :=
  if j = 0 then ls else if j = 1 then cs else if j < 18 then .int .i64 (C (j - 2)) else if j < 34 then .int .i64 (F (j - 18)) else if j = 34 then sy else .int .i64 dp

theorem run_build73 (la ca sa : Option Addr) (n lc n' cc M sc : Nat) (C F : Nat → Int) (dp : Int) (w : World) : (Instr.build 166 #[(0, .slice la n lc), (1, .slice ca n' cc), (2, tal C), (3, tal F), (4, .slice sa M sc), (5, .int .i64 dp)]).run Tryz.prog w = .ok (row (ccells (.slice la n lc) (.slice ca n' cc) (.slice sa M sc) C F dp) 36) w := by
  kernel_rfl

theorem step_build {w : World} {ops : Array Oper} {o : Oper} {a : Act} {K : Act → World → Prop} {Q : Exit → Act → World → Prop} {E : Prop} (hw : Region.wanted o (yielded ops a.tmps) = true) (ty : TypeId) (parts : Array (Nat × Operand)) (ho : o.op = .build ty parts) (vs : Array (Nat × Value)) (hp : (parts.map fun (i, x) => (i, a.eval x)) = vs) (v : Value)
    (hr : (Instr.build ty vs).run Tryz.prog w = .ok v w) (hk : K (a.put o.dst v) w) : if Region.wanted o (yielded ops a.tmps) = true then Oper.wp Tryz.prog o a w K Q else E := by
  rw [if_pos hw]
  unfold Oper.wp
  subst hp
  simp only [execOp, ho, Sem.run_bind, hr, Result.andThen_ok, Sem.run_pure]
  exact hk

/-- Block R is a code of these n lengths; all of it lies below K. -/
structure IsC (w : World) (R K : Nat) (L : Nat → Int) (n : Nat) (la : Option Addr) (lc cg sg : Nat) (sy : Nat → Int) (M dp : Nat) : Prop where
  row : w.rowIs R 166 36 (ccells (.slice la n lc) (.slice (some ⟨cg, 0, none⟩) n n) (.slice (some ⟨sg, 0, none⟩) M M) (C L n) (F L n) dp)
  rl : Ri w la n lc L
  rc : w.rowIs cg 3 n (fun j => .int .i64 (cd L n j))
  rs : w.rowIs sg 3 M (fun j => .int .i64 (sy j))
  sym : Sym L n n sy
  m : pl L n 16 = M
  dp15 : dp ≤ 15
  dpx : ∀ j, j < n → L j ≤ dp
  dpe : dp = 0 ∨ ∃ j, j < n ∧ L j = dp
  bl : ∀ ad, la = some ad → ad.block < K
  bR : R < K
  bc : cg < K
  bs : sg < K
  kw : K ≤ w.heap.size
  ok : er L n = 0

theorem IsC.keep {w w' : World} {R K : Nat} {L : Nat → Int} {n : Nat} {la : Option Addr} {lc cg sg : Nat} {sy : Nat → Int} {M dp : Nat} (h : IsC w R K L n la lc cg sg sy M dp) (hb : Below K w w') : IsC w' R K L n la lc cg sg sy M dp :=
  ⟨h.row.of_block (hb.block _ h.bR), ⟨h.rl.le, h.rl.nul, fun ad had j hj => by
    have hbk : (ad.add j).block = ad.block := by unfold Addr.add; split <;> rfl
    rw [hb.cell (by rw [hbk]; exact h.bl ad had)]
    exact h.rl.cells ad had j hj⟩, h.rc.of_block (hb.block _ h.bc), h.rs.of_block (hb.block _ h.bs), h.sym, h.m, h.dp15, h.dpx, h.dpe, h.bl, h.bR, h.bc, h.bs, Nat.le_trans h.kw hb.size, h.ok⟩

theorem deep_max (L : Nat → Int) (n dp : Nat) (hL : ∀ j, j < n → Lm (L j)) (hz : ∀ j, dp < j → j < 16 → C L n j = 0) (j : Nat) (hj : j < n) : L j ≤ dp := by
  obtain ⟨x, hx⟩ := Int.eq_ofNat_of_zero_le (hL j hj).1
  have h15 := (hL j hj).2
  rcases Nat.lt_or_ge dp x with h | h
  · have h1 := hz x h (by omega)
    rw [C_pos L n x (by omega)] at h1
    have h2 := cn_lt L x j n hj hx
    have h3 := (cn_nn L x j).1
    omega
  · omega

theorem deep_is (L : Nat → Int) (n dp : Nat) (h : dp = 0 ∨ C L n dp ≠ 0) : dp = 0 ∨ ∃ j, j < n ∧ L j = dp := by
  by_cases h0 : dp = 0
  · exact .inl h0
  · right
    have h1 : C L n dp ≠ 0 := by rcases h with h | h; exact absurd h h0; exact h
    rw [C_pos L n dp (by omega)] at h1
    have h2 := (cn_nn L dp n).1
    obtain ⟨i, hi, hl, _⟩ := cn_find L dp n 0 (by omega) (by omega)
    exact ⟨i, hi, hl⟩

/-- The parts that New has made are a code. -/
theorem made_isC {w5 w6 w7 w8 w9 : World} {L : Nat → Int} {n : Nat} {la : Option Addr} {lc cg sg : Nat} {sy : Nat → Int} {M dp : Nat} (he : er L n = 0) (hL : ∀ j, j < n → Lm (L j)) (hM : pl L n 16 = M)
    (l6 : Ri w6 la n lc L) (o6 : w6.ownsRow w5.heap.size 3 1 (.slice la n lc) n (ivs L n)) (g6 : ∀ ad, la = some ad → (Value.slice la n lc).ownBlock = some ad.block ∧ w5.heap.size ≤ ad.block)
    (c7 : w7.rowIs cg 3 n (fun j => .int .i64 (nb L (F L n) j))) (b7 : Below w6.heap.size w6 w7) (s8 : w8.rowIs sg 3 M (fun j => .int .i64 (sy j))) (hsy : Sym L n n sy) (b8 : Below w7.heap.size w7 w8)
    (hd15 : dp ≤ 15) (hdz : ∀ j, dp < j → j < 16 → C L n j = 0) (hdp : dp = 0 ∨ C L n dp ≠ 0) (b9 : Below w8.heap.size w8 w9) :
    IsC (w9.alloc (Obj.cells (vals (ccells (.slice la n lc) (.slice (some ⟨cg, 0, none⟩) n n) (.slice (some ⟨sg, 0, none⟩) M M) (C L n) (F L n) dp) 36).toArray 166)) w9.heap.size (w9.heap.size + 1) L n la lc cg sg sy M dp := by
  have bA : Below w9.heap.size w9 (w9.alloc (Obj.cells (vals (ccells (.slice la n lc) (.slice (some ⟨cg, 0, none⟩) n n) (.slice (some ⟨sg, 0, none⟩) M M) (C L n) (F L n) dp) 36).toArray 166)) := (Below.refl _ _).alloc (Nat.le_refl _) _
  have c8 := c7.of_block (b8.block _ c7.lt)
  have c9 := c8.of_block (b9.block _ c8.lt)
  have s9 := s8.of_block (b9.block _ s8.lt)
  have s7 := b7.size
  have s8' := b8.size
  have s9' := b9.size
  refine ⟨rowIs_vals w9 _ 36 166, (((l6.keep b7).keep b8).keep b9).keep bA, c9.of_block (bA.block _ c9.lt), s9.of_block (bA.block _ s9.lt), hsy, hM, hd15, deep_max L n dp hL hdz, deep_is L n dp hdp, fun ad had => ?_, by omega, by have := c9.lt; omega, by have := s9.lt; omega, by simp, he⟩
  have := (o6.lt ad.block (g6 ad had).1).2
  omega

/-- What holds while New's code is put together. -/
structure NS (w : World) (A B : Nat) (ao : Option Addr) (n c : Nat) (L : Nat → Int) (w' : World) : Prop where
  a : w'.rangeAt A 0 (vals (fun j => .int .i64 (C L n j)) 16)
  b : w'.rangeAt B 0 (vals (fun j => .int .i64 (F L n j)) 16)
  r : Ri w' ao n c L
  bel : Below w.heap.size w w'

theorem range_keep {w w' : World} {A : Nat} {xs : List Value} (h : w.rangeAt A 0 xs) (hb : Below w.heap.size w w') : w'.rangeAt A 0 xs := by
  intro j v hv
  have hc := h j v hv
  rw [hb.cell (World.block_lt_of_cell? w _ hc)]
  exact hc

theorem NS.keep {w : World} {A B : Nat} {ao : Option Addr} {n c : Nat} {L : Nat → Int} {w' w'' : World} (h : NS w A B ao n c L w') (hb : Below w'.heap.size w' w'') : NS w A B ao n c L w'' :=
  ⟨range_keep h.a hb, range_keep h.b hb, h.r.keep hb, h.bel.trans (hb.mono h.bel.size)⟩

theorem numb_v (ao : Option Addr) (n c : Nat) (L f : Nat → Int) (w : World) (h : Ri w ao n c L) (hn : n ≤ 288) (hL : ∀ j, j < n → Lm (L j)) (hf : ∀ j, j < 16 → 0 ≤ f j ∧ f j ≤ 1000000) :
    Calls Tryz.prog 119 #[.slice ao n c, tal f] w fun e w' => ∃ v, e = .returned v ∧ (∃ g, v = .slice (some ⟨g, 0, none⟩) n n ∧ w'.rowIs g 3 n (fun j => .int .i64 (nb L f j)) ∧ w.heap.size ≤ g ∧ Below w.heap.size w w') :=
  (numb_any ao n c L f w h hn hL hf).mono (fun _ _ ⟨g, h1, h2⟩ => ⟨_, h1, g, rfl, h2⟩)

theorem order_v (ao : Option Addr) (n c : Nat) (L : Nat → Int) (w : World) (h : Ri w ao n c L) (hn : n ≤ 288) (hL : ∀ j, j < n → Lm (L j)) (M : Nat) (hM : pl L n 16 = M) :
    Calls Tryz.prog 120 #[.slice ao n c, tal (C L n)] w fun e w' => ∃ v, e = .returned v ∧ (∃ g sy, v = .slice (some ⟨g, 0, none⟩) M M ∧ w'.rowIs g 3 M (fun j => .int .i64 (sy j)) ∧ Sym L n n sy ∧ w.heap.size ≤ g ∧ Below w.heap.size w w') :=
  (order_any ao n c L w h hn hL M hM).mono (fun _ _ ⟨g, sy, h1, h2⟩ => ⟨_, h1, g, sy, rfl, h2⟩)

theorem longest_v (c : Nat → Int) (w : World) :
    Calls Tryz.prog 121 #[tal c] w fun e w' => ∃ v, e = .returned v ∧ (∃ dp : Nat, v = .int .i64 dp ∧ dp ≤ 15 ∧ (∀ j, dp < j → j < 16 → c j = 0) ∧ (dp = 0 ∨ c dp ≠ 0) ∧ Below w.heap.size w w') :=
  (longest_any c w).mono (fun _ _ ⟨dp, h1, h2⟩ => ⟨_, h1, dp, rfl, h2⟩)

set_option maxRecDepth 100000 in
set_option maxHeartbeats 4000000 in
theorem new_go (ao : Option Addr) (n c : Nat) (L : Nat → Int) (half : Bool) (w : World) (h : Ri w ao n c L) (he : er L n = 0) (hcase : fu L n = true ∨ (fu L n = false ∧ half = true ∧ hv (C L n) = true)) (M : Nat) (hM : pl L n 16 = M) :
    Calls Tryz.prog 89 #[.slice ao n c, .bool half] w fun e w' => ∃ R, e = .returned (.tuple #[.pointer (some ⟨R, 0, none⟩), .int .i64 0]) ∧ (∃ K la lc cg sg sy dp, IsC w' R K L n la lc cg sg sy M dp ∧ w.heap.size ≤ R ∧ w.heap.size ≤ cg ∧ w.heap.size ≤ sg ∧ ∀ ad, la = some ad → w.heap.size ≤ ad.block) ∧ Below w.heap.size w w' := by
  have z64 := zero64
  obtain ⟨h288, hL, hf⟩ := er_zero L n he
  have hFb : ∀ j, j < 16 → 0 ≤ F L n j ∧ F L n j ≤ 1000000 := fun j hj => by have := F_small L n j hf (by omega); omega
  have z16 : ∀ f : Nat → Int, (Tryz.prog.info? 158).map (·.size) = some (vals (fun j => Value.int .i64 (f j)) 16).length := fun f => by rw [vals_len]; exact size64
  have hc := checked_all ao n c L w h
  rw [he] at hc
  rcases hcase with hfu | ⟨hfu, rfl, hhv⟩
  all_goals
    rw [hfu] at hc
    go_enter Tryz.func89, Tryz.ntmps89
    go_wp2_with (first
      | (go_at_call 115; refine hc.mono ?_; rintro e w1 ⟨cc, rfl, hcc, hb⟩; obtain rfl := hcc rfl)
      | (refine wpList_st rfl 158 _ _ rfl w1.heap.size rfl (fun j => .int .i64 (C L n j)) rfl (box_row w1 (fun _ => 0)) size64 (fun j => rfl) ?_; intro w3 h3 f3; have B3 : Below w.heap.size w w3 := (hb.alloc hb.size _).trans (f3.below _ (by have := hb.size; simp; omega) (fun i hi e => by have := hb.size; omega)); have h3' := h3; have HB3 : Hid (Below w.heap.size w w3) := B3)
      | (refine wpList_ldW (by rfl) 158 _ rfl w1.heap.size rfl _ h3 16 (by omega) Tryz.underlying158 rfl size64 ?_)
      | (go_at_call 116; refine (half_any (C L n) _).mono ?_; rintro e w3' ⟨rfl, b3'⟩; rw [hhv]; have h3'' := h3.of_block (b3'.block _ h3.lt); have B3' := B3.trans (b3'.mono B3.size))
      | (refine wpList_ldW (by rfl) 158 _ rfl w1.heap.size rfl _ h3'' 16 (by omega) Tryz.underlying158 rfl size64 ?_))
  · refine (first_any L n w3 hf).mono ?_
    rintro e w4 ⟨rfl, b4⟩
    have B4 := B3.trans (b4.mono B3.size)
    have h4 : w4.rowIs w1.heap.size 158 16 (fun j => .int .i64 (C L n j)) := h3'.of_block (b4.block _ h3'.lt)
    have hA4 : w1.heap.size < w4.heap.size := h4.lt
    have hr4 := h.keep B4
    clear hb f3 h3 b4 B3 hc
    generalize w1.heap.size = A at *
    go_wp2_with (refine wpList_st rfl 158 _ _ rfl w4.heap.size rfl (fun j => .int .i64 (F L n j)) rfl (box_row w4 (fun _ => 0)) size64 (fun j => rfl) ?_; intro w5 h5 f5)
    have F5 : Fr (fun k => k = w4.heap.size) w4 w5 := ((Fr.refl _ w4).alloc _).trans f5 (fun _ _ e => e)
    have B5 : Below w.heap.size w w5 := B4.trans (F5.below _ B4.size (fun i hi e => by have := B4.size; omega))
    have h45 : w5.rowIs A 158 16 (fun j => .int .i64 (C L n j)) := rowIs_fr h4 F5 (by omega)
    have hns : NS w A w4.heap.size ao n c L w5.drew := ⟨by simpa using rangeAt_row h45.drew 0 16 (by omega), by simpa using rangeAt_row h5.drew 0 16 (by omega), (h.keep B5).drew, B5.drew⟩
    clear B4 h4 hA4 hr4 h5 f5 F5 B5 h45
    generalize w4.heap.size = B at *
    simp only [Act.put]
    refine wp_region_noPanic ?_
    refine wp_region_held_drew (S := NS w A B ao n c L) (by kernel_rfl) hns (fun hHeld => ?_)
    refine wpAnyH_take (i := 0) (oi := ⟨some 31, _, _, _, _, _⟩) (v := ?_) rfl (by kernel_rfl) (by kernel_rfl) (by kernel_rfl) (fun _ _ _ h => h) (Or.inl ⟨by rfl, ?_⟩) hHeld ?_
    rotate_left
    · (intro w' hSw; go_simp; try with_reducible rfl)
    try simp only [Act.put, List.setIfInBounds_toArray, List.set_cons_zero, List.set_cons_succ]
    refine wpAnyH_take (i := 2) (oi := ⟨some 33, _, _, _, _, _⟩) (v := ?_) rfl (by kernel_rfl) (by kernel_rfl) (by kernel_rfl) (fun _ _ _ h => h) (Or.inl ⟨by rfl, ?_⟩) hHeld ?_
    rotate_left
    · (intro w' hSw; go_simp; try with_reducible rfl)
    try simp only [Act.put, List.setIfInBounds_toArray, List.set_cons_zero, List.set_cons_succ]
    refine wpAnyH_take (i := 3) (oi := ⟨some 34, _, _, _, _, _⟩) (v := tal (F L n)) rfl (by kernel_rfl) (by kernel_rfl) (by kernel_rfl) (fun _ _ _ h => h) (yieldsIf_load_mid (by rfl) _ _ rfl B 0 rfl (vals (fun j => .int .i64 (F L n j)) 16) _ (fun w' hSw => hSw.b) Tryz.underlying158 rfl (z16 _)) hHeld ?_
    try simp only [Act.put, List.setIfInBounds_toArray, List.set_cons_zero, List.set_cons_succ]
    refine wpAnyH_take (i := 5) (oi := ⟨some 36, _, _, _, _, _⟩) (v := tal (C L n)) rfl (by kernel_rfl) (by kernel_rfl) (by kernel_rfl) (fun _ _ _ h => h) (yieldsIf_load_mid (by rfl) _ _ rfl A 0 rfl (vals (fun j => .int .i64 (C L n j)) 16) _ (fun w' hSw => hSw.a) Tryz.underlying158 rfl (z16 _)) hHeld ?_
    try simp only [Act.put, List.setIfInBounds_toArray, List.set_cons_zero, List.set_cons_succ]
    refine wpAnyH_take (i := 6) (oi := ⟨some 37, _, _, _, _, _⟩) (v := tal (F L n)) rfl (by kernel_rfl) (by kernel_rfl) (by kernel_rfl) (fun _ _ _ h => h) (yieldsIf_load_mid (by rfl) _ _ rfl B 0 rfl (vals (fun j => .int .i64 (F L n j)) 16) _ (fun w' hSw => hSw.b) Tryz.underlying158 rfl (z16 _)) hHeld ?_
    try simp only [Act.put, List.setIfInBounds_toArray, List.set_cons_zero, List.set_cons_succ]
    refine wpAnyH_take (i := 7) (oi := ⟨some 38, _, _, _, _, _⟩) (v := ?_) rfl (by kernel_rfl) (by kernel_rfl) (by kernel_rfl) (fun _ _ _ h => h) (Or.inl ⟨by rfl, ?_⟩) hHeld ?_
    rotate_left
    · (intro w' hSw; go_simp; try with_reducible rfl)
    try simp only [Act.put, List.setIfInBounds_toArray, List.set_cons_zero, List.set_cons_succ]
    refine wpAnyH_take (i := 8) (oi := ⟨some 39, _, _, _, _, _⟩) (v := tal (C L n)) rfl (by kernel_rfl) (by kernel_rfl) (by kernel_rfl) (fun _ _ _ h => h) (yieldsIf_load_mid (by rfl) _ _ rfl A 0 rfl (vals (fun j => .int .i64 (C L n j)) 16) _ (fun w' hSw => hSw.a) Tryz.underlying158 rfl (z16 _)) hHeld ?_
    try simp only [Act.put, List.setIfInBounds_toArray, List.set_cons_zero, List.set_cons_succ]
    refine wpAnyH_take (i := 10) (oi := ⟨some 41, _, _, _, _, _⟩) (v := tal (C L n)) rfl (by kernel_rfl) (by kernel_rfl) (by kernel_rfl) (fun _ _ _ h => h) (yieldsIf_load_mid (by rfl) _ _ rfl A 0 rfl (vals (fun j => .int .i64 (C L n j)) 16) _ (fun w' hSw => hSw.a) Tryz.underlying158 rfl (z16 _)) hHeld ?_
    try simp only [Act.put, List.setIfInBounds_toArray, List.set_cons_zero, List.set_cons_succ]
    refine wpAnyH_ready (rs := [1]) (by kernel_rfl) (by simp) ?_
    refine AllReadyH.cons (o := ⟨some 32, _, _, _, _, _⟩) rfl (fun K hK => ?_) AllReadyH.nil
    refine step_call1 (by rfl) 118 cf62 _ _ rfl (.slice ao n c) rfl (iclone_any ao n c L _ hHeld.r (by omega)) ?_
    rintro v1 w6 ⟨o6, b6⟩
    refine hK.out _ _ (hHeld.keep b6) (fun hHeld => ?_)
    clear hK K
    obtain ⟨la, lc, rfl, l6, g6⟩ := own_ri o6
    try simp only [Act.put, List.setIfInBounds_toArray, List.set_cons_zero, List.set_cons_succ]
    refine wpAnyH_ready (rs := [4]) (by kernel_rfl) (by simp) ?_
    refine AllReadyH.cons (o := ⟨some 35, _, _, _, _, _⟩) rfl (fun K hK => ?_) AllReadyH.nil
    refine step_call2 (by rfl) 119 cf47 _ _ _ rfl (.slice ao n c) (tal (F L n)) rfl rfl (numb_v ao n c L (F L n) _ hHeld.r h288 hL hFb) ?_
    rintro v2 w7 ⟨cg, rfl, c7, gc, b7⟩
    refine hK.out _ _ (hHeld.keep b7) (fun hHeld => ?_)
    clear hK K
    try simp only [Act.put, List.setIfInBounds_toArray, List.set_cons_zero, List.set_cons_succ]
    refine wpAnyH_ready (rs := [9]) (by kernel_rfl) (by simp) ?_
    refine AllReadyH.cons (o := ⟨some 40, _, _, _, _, _⟩) rfl (fun K hK => ?_) AllReadyH.nil
    refine step_call2 (by rfl) 120 cf64 _ _ _ rfl (.slice ao n c) (tal (C L n)) rfl rfl (order_v ao n c L _ hHeld.r h288 hL M hM) ?_
    rintro v3 w8 ⟨sg, sy, rfl, s8, hsy, gs, b8⟩
    refine hK.out _ _ (hHeld.keep b8) (fun hHeld => ?_)
    clear hK K
    try simp only [Act.put, List.setIfInBounds_toArray, List.set_cons_zero, List.set_cons_succ]
    refine wpAnyH_ready (rs := [11]) (by kernel_rfl) (by simp) ?_
    refine AllReadyH.cons (o := ⟨some 42, _, _, _, _, _⟩) rfl (fun K hK => ?_) AllReadyH.nil
    refine step_call1 (by rfl) 121 cf141 _ _ rfl (tal (C L n)) rfl (longest_v (C L n) _) ?_
    rintro v4 w9 ⟨dp, rfl, hd15, hdz, hdp, b9⟩
    refine hK.out _ _ (hHeld.keep b9) (fun hHeld => ?_)
    clear hK K
    try simp only [Act.put, List.setIfInBounds_toArray, List.set_cons_zero, List.set_cons_succ]
    refine wpAnyH_ready (rs := [12]) (by kernel_rfl) (by simp) ?_
    refine AllReadyH.cons (o := ⟨some 43, _, _, _, _, _⟩) rfl (fun K hK => ?_) AllReadyH.nil
    refine step_build (by rfl) 166 _ rfl _ (by kernel_rfl) _ (run_build73 la (some ⟨cg, 0, none⟩) (some ⟨sg, 0, none⟩) n lc n n M M (C L n) (F L n) dp _) ?_
    refine hK.out _ _ hHeld (fun hHeld => ?_)
    clear hK K
    try simp only [Act.put, List.setIfInBounds_toArray, List.set_cons_zero, List.set_cons_succ]
    refine wpAnyH_ready (rs := [13]) (by kernel_rfl) (by simp) ?_
    refine AllReadyH.cons (o := ⟨some 44, _, _, _, _, _⟩) rfl (fun K hK => ?_) AllReadyH.nil
    go_simp
    have hC := made_isC he hL hM l6 o6 g6 c7 b7 s8 hsy b8 hd15 hdz hdp b9
    have bA : Below w9.heap.size w9 (w9.alloc (Obj.cells (vals (ccells (.slice la n lc) (.slice (some ⟨cg, 0, none⟩) n n) (.slice (some ⟨sg, 0, none⟩) M M) (C L n) (F L n) dp) 36).toArray 166)) := (Below.refl _ _).alloc (Nat.le_refl _) _
    refine hK.out _ _ (hHeld.keep bA) (fun hHeld => ?_)
    clear hK K
    try simp only [Act.put, List.setIfInBounds_toArray, List.set_cons_zero, List.set_cons_succ]
    refine wpAnyH_ready (rs := [14]) (by kernel_rfl) (by simp) ?_
    refine AllReadyH.cons (o := ⟨some 4, _, _, _, _, _⟩) rfl (fun K hK => ?_) AllReadyH.nil
    go_simp
    refine hK.out _ _ hHeld (fun hHeld => ?_)
    clear hK K
    try simp only [Act.put, List.setIfInBounds_toArray, List.set_cons_zero, List.set_cons_succ]
    refine wpAnyH_ready (rs := [15]) (by kernel_rfl) (by simp) ?_
    refine AllReadyH.cons (o := ⟨some 5, _, _, _, _, _⟩) rfl (fun K hK => ?_) AllReadyH.nil
    go_simp
    refine hK.out _ _ hHeld (fun hHeld => ?_)
    clear hK K
    try simp only [Act.put, List.setIfInBounds_toArray, List.set_cons_zero, List.set_cons_succ]
    refine wpAnyH_done (by kernel_rfl) ?_ _
    refine NoPanic.normal ?_
    have hfin := hHeld.bel
    clear hHeld
    go_wp2_with fail
    go_ret2
    have y1 := hns.bel.size
    have y2 := b6.size
    have y3 := b7.size
    have y4 := b8.size
    have y5 := b9.size
    exact ⟨_, rfl, ⟨_, _, _, _, _, _, _, hC, by omega, by omega, by omega, fun ad had => by have := (g6 ad had).2; omega⟩, hfin⟩
  · refine (first_any L n w3' hf).mono ?_
    rintro e w4 ⟨rfl, b4⟩
    have B4 := B3'.trans (b4.mono B3'.size)
    have h4 : w4.rowIs w1.heap.size 158 16 (fun j => .int .i64 (C L n j)) := h3''.of_block (b4.block _ h3''.lt)
    have hA4 : w1.heap.size < w4.heap.size := h4.lt
    have hr4 := h.keep B4
    clear hb f3 h3 b4 B3 B3' b3' h3' h3'' hc
    generalize w1.heap.size = A at *
    go_wp2_with (refine wpList_st rfl 158 _ _ rfl w4.heap.size rfl (fun j => .int .i64 (F L n j)) rfl (box_row w4 (fun _ => 0)) size64 (fun j => rfl) ?_; intro w5 h5 f5)
    have F5 : Fr (fun k => k = w4.heap.size) w4 w5 := ((Fr.refl _ w4).alloc _).trans f5 (fun _ _ e => e)
    have B5 : Below w.heap.size w w5 := B4.trans (F5.below _ B4.size (fun i hi e => by have := B4.size; omega))
    have h45 : w5.rowIs A 158 16 (fun j => .int .i64 (C L n j)) := rowIs_fr h4 F5 (by omega)
    have hns : NS w A w4.heap.size ao n c L w5.drew := ⟨by simpa using rangeAt_row h45.drew 0 16 (by omega), by simpa using rangeAt_row h5.drew 0 16 (by omega), (h.keep B5).drew, B5.drew⟩
    clear B4 h4 hA4 hr4 h5 f5 F5 B5 h45
    generalize w4.heap.size = B at *
    simp only [Act.put]
    refine wp_region_noPanic ?_
    refine wp_region_held_drew (S := NS w A B ao n c L) (by kernel_rfl) hns (fun hHeld => ?_)
    refine wpAnyH_take (i := 0) (oi := ⟨some 31, _, _, _, _, _⟩) (v := ?_) rfl (by kernel_rfl) (by kernel_rfl) (by kernel_rfl) (fun _ _ _ h => h) (Or.inl ⟨by rfl, ?_⟩) hHeld ?_
    rotate_left
    · (intro w' hSw; go_simp; try with_reducible rfl)
    try simp only [Act.put, List.setIfInBounds_toArray, List.set_cons_zero, List.set_cons_succ]
    refine wpAnyH_take (i := 2) (oi := ⟨some 33, _, _, _, _, _⟩) (v := ?_) rfl (by kernel_rfl) (by kernel_rfl) (by kernel_rfl) (fun _ _ _ h => h) (Or.inl ⟨by rfl, ?_⟩) hHeld ?_
    rotate_left
    · (intro w' hSw; go_simp; try with_reducible rfl)
    try simp only [Act.put, List.setIfInBounds_toArray, List.set_cons_zero, List.set_cons_succ]
    refine wpAnyH_take (i := 3) (oi := ⟨some 34, _, _, _, _, _⟩) (v := tal (F L n)) rfl (by kernel_rfl) (by kernel_rfl) (by kernel_rfl) (fun _ _ _ h => h) (yieldsIf_load_mid (by rfl) _ _ rfl B 0 rfl (vals (fun j => .int .i64 (F L n j)) 16) _ (fun w' hSw => hSw.b) Tryz.underlying158 rfl (z16 _)) hHeld ?_
    try simp only [Act.put, List.setIfInBounds_toArray, List.set_cons_zero, List.set_cons_succ]
    refine wpAnyH_take (i := 5) (oi := ⟨some 36, _, _, _, _, _⟩) (v := tal (C L n)) rfl (by kernel_rfl) (by kernel_rfl) (by kernel_rfl) (fun _ _ _ h => h) (yieldsIf_load_mid (by rfl) _ _ rfl A 0 rfl (vals (fun j => .int .i64 (C L n j)) 16) _ (fun w' hSw => hSw.a) Tryz.underlying158 rfl (z16 _)) hHeld ?_
    try simp only [Act.put, List.setIfInBounds_toArray, List.set_cons_zero, List.set_cons_succ]
    refine wpAnyH_take (i := 6) (oi := ⟨some 37, _, _, _, _, _⟩) (v := tal (F L n)) rfl (by kernel_rfl) (by kernel_rfl) (by kernel_rfl) (fun _ _ _ h => h) (yieldsIf_load_mid (by rfl) _ _ rfl B 0 rfl (vals (fun j => .int .i64 (F L n j)) 16) _ (fun w' hSw => hSw.b) Tryz.underlying158 rfl (z16 _)) hHeld ?_
    try simp only [Act.put, List.setIfInBounds_toArray, List.set_cons_zero, List.set_cons_succ]
    refine wpAnyH_take (i := 7) (oi := ⟨some 38, _, _, _, _, _⟩) (v := ?_) rfl (by kernel_rfl) (by kernel_rfl) (by kernel_rfl) (fun _ _ _ h => h) (Or.inl ⟨by rfl, ?_⟩) hHeld ?_
    rotate_left
    · (intro w' hSw; go_simp; try with_reducible rfl)
    try simp only [Act.put, List.setIfInBounds_toArray, List.set_cons_zero, List.set_cons_succ]
    refine wpAnyH_take (i := 8) (oi := ⟨some 39, _, _, _, _, _⟩) (v := tal (C L n)) rfl (by kernel_rfl) (by kernel_rfl) (by kernel_rfl) (fun _ _ _ h => h) (yieldsIf_load_mid (by rfl) _ _ rfl A 0 rfl (vals (fun j => .int .i64 (C L n j)) 16) _ (fun w' hSw => hSw.a) Tryz.underlying158 rfl (z16 _)) hHeld ?_
    try simp only [Act.put, List.setIfInBounds_toArray, List.set_cons_zero, List.set_cons_succ]
    refine wpAnyH_take (i := 10) (oi := ⟨some 41, _, _, _, _, _⟩) (v := tal (C L n)) rfl (by kernel_rfl) (by kernel_rfl) (by kernel_rfl) (fun _ _ _ h => h) (yieldsIf_load_mid (by rfl) _ _ rfl A 0 rfl (vals (fun j => .int .i64 (C L n j)) 16) _ (fun w' hSw => hSw.a) Tryz.underlying158 rfl (z16 _)) hHeld ?_
    try simp only [Act.put, List.setIfInBounds_toArray, List.set_cons_zero, List.set_cons_succ]
    refine wpAnyH_ready (rs := [1]) (by kernel_rfl) (by simp) ?_
    refine AllReadyH.cons (o := ⟨some 32, _, _, _, _, _⟩) rfl (fun K hK => ?_) AllReadyH.nil
    refine step_call1 (by rfl) 118 cf62 _ _ rfl (.slice ao n c) rfl (iclone_any ao n c L _ hHeld.r (by omega)) ?_
    rintro v1 w6 ⟨o6, b6⟩
    refine hK.out _ _ (hHeld.keep b6) (fun hHeld => ?_)
    clear hK K
    obtain ⟨la, lc, rfl, l6, g6⟩ := own_ri o6
    try simp only [Act.put, List.setIfInBounds_toArray, List.set_cons_zero, List.set_cons_succ]
    refine wpAnyH_ready (rs := [4]) (by kernel_rfl) (by simp) ?_
    refine AllReadyH.cons (o := ⟨some 35, _, _, _, _, _⟩) rfl (fun K hK => ?_) AllReadyH.nil
    refine step_call2 (by rfl) 119 cf47 _ _ _ rfl (.slice ao n c) (tal (F L n)) rfl rfl (numb_v ao n c L (F L n) _ hHeld.r h288 hL hFb) ?_
    rintro v2 w7 ⟨cg, rfl, c7, gc, b7⟩
    refine hK.out _ _ (hHeld.keep b7) (fun hHeld => ?_)
    clear hK K
    try simp only [Act.put, List.setIfInBounds_toArray, List.set_cons_zero, List.set_cons_succ]
    refine wpAnyH_ready (rs := [9]) (by kernel_rfl) (by simp) ?_
    refine AllReadyH.cons (o := ⟨some 40, _, _, _, _, _⟩) rfl (fun K hK => ?_) AllReadyH.nil
    refine step_call2 (by rfl) 120 cf64 _ _ _ rfl (.slice ao n c) (tal (C L n)) rfl rfl (order_v ao n c L _ hHeld.r h288 hL M hM) ?_
    rintro v3 w8 ⟨sg, sy, rfl, s8, hsy, gs, b8⟩
    refine hK.out _ _ (hHeld.keep b8) (fun hHeld => ?_)
    clear hK K
    try simp only [Act.put, List.setIfInBounds_toArray, List.set_cons_zero, List.set_cons_succ]
    refine wpAnyH_ready (rs := [11]) (by kernel_rfl) (by simp) ?_
    refine AllReadyH.cons (o := ⟨some 42, _, _, _, _, _⟩) rfl (fun K hK => ?_) AllReadyH.nil
    refine step_call1 (by rfl) 121 cf141 _ _ rfl (tal (C L n)) rfl (longest_v (C L n) _) ?_
    rintro v4 w9 ⟨dp, rfl, hd15, hdz, hdp, b9⟩
    refine hK.out _ _ (hHeld.keep b9) (fun hHeld => ?_)
    clear hK K
    try simp only [Act.put, List.setIfInBounds_toArray, List.set_cons_zero, List.set_cons_succ]
    refine wpAnyH_ready (rs := [12]) (by kernel_rfl) (by simp) ?_
    refine AllReadyH.cons (o := ⟨some 43, _, _, _, _, _⟩) rfl (fun K hK => ?_) AllReadyH.nil
    refine step_build (by rfl) 166 _ rfl _ (by kernel_rfl) _ (run_build73 la (some ⟨cg, 0, none⟩) (some ⟨sg, 0, none⟩) n lc n n M M (C L n) (F L n) dp _) ?_
    refine hK.out _ _ hHeld (fun hHeld => ?_)
    clear hK K
    try simp only [Act.put, List.setIfInBounds_toArray, List.set_cons_zero, List.set_cons_succ]
    refine wpAnyH_ready (rs := [13]) (by kernel_rfl) (by simp) ?_
    refine AllReadyH.cons (o := ⟨some 44, _, _, _, _, _⟩) rfl (fun K hK => ?_) AllReadyH.nil
    go_simp
    have hC := made_isC he hL hM l6 o6 g6 c7 b7 s8 hsy b8 hd15 hdz hdp b9
    have bA : Below w9.heap.size w9 (w9.alloc (Obj.cells (vals (ccells (.slice la n lc) (.slice (some ⟨cg, 0, none⟩) n n) (.slice (some ⟨sg, 0, none⟩) M M) (C L n) (F L n) dp) 36).toArray 166)) := (Below.refl _ _).alloc (Nat.le_refl _) _
    refine hK.out _ _ (hHeld.keep bA) (fun hHeld => ?_)
    clear hK K
    try simp only [Act.put, List.setIfInBounds_toArray, List.set_cons_zero, List.set_cons_succ]
    refine wpAnyH_ready (rs := [14]) (by kernel_rfl) (by simp) ?_
    refine AllReadyH.cons (o := ⟨some 4, _, _, _, _, _⟩) rfl (fun K hK => ?_) AllReadyH.nil
    go_simp
    refine hK.out _ _ hHeld (fun hHeld => ?_)
    clear hK K
    try simp only [Act.put, List.setIfInBounds_toArray, List.set_cons_zero, List.set_cons_succ]
    refine wpAnyH_ready (rs := [15]) (by kernel_rfl) (by simp) ?_
    refine AllReadyH.cons (o := ⟨some 5, _, _, _, _, _⟩) rfl (fun K hK => ?_) AllReadyH.nil
    go_simp
    refine hK.out _ _ hHeld (fun hHeld => ?_)
    clear hK K
    try simp only [Act.put, List.setIfInBounds_toArray, List.set_cons_zero, List.set_cons_succ]
    refine wpAnyH_done (by kernel_rfl) ?_ _
    refine NoPanic.normal ?_
    have hfin := hHeld.bel
    clear hHeld
    go_wp2_with fail
    go_ret2
    have y1 := hns.bel.size
    have y2 := b6.size
    have y3 := b7.size
    have y4 := b8.size
    have y5 := b9.size
    exact ⟨_, rfl, ⟨_, _, _, _, _, _, _, hC, by omega, by omega, by omega, fun ad had => by have := (g6 ad had).2; omega⟩, hfin⟩

end Go.Proofs.YtiahbicodlgmhaaGreatDoor
