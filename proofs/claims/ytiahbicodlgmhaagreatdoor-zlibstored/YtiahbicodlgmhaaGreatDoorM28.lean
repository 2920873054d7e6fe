/- ZCost, ZQ, ZCosts, ZCostk. -/
import Derived.Test.YtiahbicodlgmhaaGreatDoorM27
import Derived.Test.YtiahbicodlgmhaaGreatDoorM15
/- Costs. -/
namespace Go.Proofs.YtiahbicodlgmhaaGreatDoor.Z
open Go.RowKit

set_option maxRecDepth 100000 in
set_option maxHeartbeats 4000000 in
theorem cost_gen (R lo K : Nat) (L D : Nat → Int) (n m q : Nat) (hq : q = min n m) (co : Option Addr) (cc : Nat) (w : World) (hC : Cx w R lo K L n) (hr : Ri w co m cc D) (hm : m ≤ 300) (hn0 : 0 < n) (hD : ∀ j, j < m → 0 ≤ D j ∧ D j ≤ 16777216) :
    Calls Tryz.prog 136 #[.pointer (some ⟨R, 0, none⟩), .slice co m cc] w fun e w' => e = .returned (.int .i64 (Lim.CS L D q)) ∧ w' = w.drew := by
  obtain ⟨la, lc, cg, sg, sy, M, dp, hC, _⟩ := hC
  obtain ⟨h288, hL, hf⟩ := er_zero L n hC.ok
  have c0 := hC.row.cell (i := 0) (by omega)
  rw [show ccells (.slice la n lc) (.slice (some ⟨cg, 0, none⟩) n n) (.slice (some ⟨sg, 0, none⟩) M M) (C L n) (F L n) dp 0 = .slice la n lc from rfl] at c0
  have hle := hC.rl.le
  have rl := hC.rl.drew
  have rd := hr.drew
  have HLm : Hid (∀ j, j < q → Lm (L j)) := fun j hj => hL j (by omega)
  have HDm : Hid (∀ j, j < q → 0 ≤ D j ∧ D j ≤ 16777216) := fun j hj => hD j (by omega)
  obtain ⟨b, off, rfl, hc1⟩ := rl.plain hn0
  have HC1 : Hid (∀ j, j < n → w.drew.cell? ⟨b, off + j, none⟩ = some (.int .i64 (L j))) := hc1
  have HRD : Hid (Ri w.drew co m cc D) := rd
  have hqn : q ≤ n := by omega
  have hqm : q ≤ m := by omega
  have hqc : q ≤ lc := by omega
  have hcm : n ≤ m ∧ q = n ∨ m < n ∧ q = m := by omega
  clear hC hr hf hL hD rl rd hc1 hq
  rcases hcm with ⟨h1, rfl⟩ | ⟨h1, rfl⟩
  · have d1 : decide ((q : Int) < (m : Int)) = decide (q < m) := by simp
    by_cases hqm' : q < m
    all_goals
      go_enter Tryz.func136, Tryz.ntmps136
      go_wp2_with fail
      go_region
      go_wp2_with fail
      clear c0
      go_loop [5, 6, 7, 22] (fun cv _ _ i => ∃ k : Nat, k ≤ q ∧ i = .int .i64 k ∧ cv = .int .i64 (Lim.CS L D k)) (fun _ _ _ i => q - (intOf i).toNat)
      case atStart => exact ⟨0, by omega, rfl, rfl⟩
      case round =>
        obtain ⟨k, hk, rfl, rfl⟩ := hrel
        by_cases hlt : k < q
        · obtain ⟨b', off', he, hc2⟩ := HRD.out.plain (by omega)
          have c1 := HC1.out k (by omega)
          have c2 := hc2 k (by omega)
          have hb := Lim.CS_bound L D k (fun j hj => HLm.out j (by omega)) (fun j hj => HDm.out j (by omega))
          have h4 : 0 ≤ L k * D k := Int.mul_nonneg (HLm.out k hlt).1 (HDm.out k hlt).1
          have h5 : L k * D k ≤ 15 * 16777216 := Int.mul_le_mul (HLm.out k hlt).2 (HDm.out k hlt).2 (HDm.out k hlt).1 (by omega)
          have HS : Hid (Lim.CS L D (k + 1) = Lim.CS L D k + L k * D k) := rfl
          have hkm : k < m := by omega
          subst he
          clear hc2
          go_wp2
          go_round
          case rel => exact ⟨k + 1, by omega, by go_num, by rw [HS.out]⟩
          case measure => simp [intOf]; omega
        · obtain rfl : k = q := by omega
          go_wp2
          go_ret
          exact ⟨rfl, rfl⟩
  · go_enter Tryz.func136, Tryz.ntmps136
    go_wp2_with fail
    go_region
    go_wp2_with fail
    clear c0
    go_loop [5, 6, 7, 22] (fun cv _ _ i => ∃ k : Nat, k ≤ q ∧ i = .int .i64 k ∧ cv = .int .i64 (Lim.CS L D k)) (fun _ _ _ i => q - (intOf i).toNat)
    case atStart => exact ⟨0, by omega, rfl, rfl⟩
    case round =>
      obtain ⟨k, hk, rfl, rfl⟩ := hrel
      by_cases hlt : k < q
      · obtain ⟨b', off', he, hc2⟩ := HRD.out.plain (by omega)
        have c1 := HC1.out k (by omega)
        have c2 := hc2 k (by omega)
        have hb := Lim.CS_bound L D k (fun j hj => HLm.out j (by omega)) (fun j hj => HDm.out j (by omega))
        have h4 : 0 ≤ L k * D k := Int.mul_nonneg (HLm.out k hlt).1 (HDm.out k hlt).1
        have h5 : L k * D k ≤ 15 * 16777216 := Int.mul_le_mul (HLm.out k hlt).2 (HDm.out k hlt).2 (HDm.out k hlt).1 (by omega)
        have HS : Hid (Lim.CS L D (k + 1) = Lim.CS L D k + L k * D k) := rfl
        have hkn : k < n := by omega
        subst he
        clear hc2
        go_wp2
        go_round
        case rel => exact ⟨k + 1, by omega, by go_num, by rw [HS.out]⟩
        case measure => simp [intOf]; omega
      · obtain rfl : k = q := by omega
        go_wp2
        go_ret
        exact ⟨rfl, rfl⟩

set_option maxHeartbeats 1000000 in
theorem storedBlocks_any (n : Nat) (w : World) (hn : n ≤ 2000000000) : Calls Tryz.prog 48 #[.int .i64 n] w fun e w' => e = .returned (.int .i64 (nck n)) ∧ w' = w := by
  have t1 : (n : Int).tmod 65535 = ((n % 65535 : Nat) : Int) := by rw [Int.tmod_eq_emod_of_nonneg (by omega)]; omega
  have t2 : (n : Int).tdiv 65535 = ((n / 65535 : Nat) : Int) := by rw [Int.tdiv_eq_ediv_of_nonneg (by omega)]; omega
  have t1' : (n : Int) % 65535 = ((n % 65535 : Nat) : Int) := by omega
  have t2' : (n : Int) / 65535 = ((n / 65535 : Nat) : Int) := by omega
  obtain ⟨q, hq⟩ : ∃ q, q = n / 65535 := ⟨_, rfl⟩
  obtain ⟨r, hr⟩ : ∃ r, r = n % 65535 := ⟨_, rfl⟩
  have hqr : n = 65535 * q + r ∧ r < 65535 := by omega
  rw [← hq] at t2 t2'
  rw [← hr] at t1 t1'
  have hq9 : q ≤ 100000 := by omega
  by_cases h0 : r = 0
  · have hk : nck n = max q 1 := by unfold nck; omega
    have HMX : Hid (((nck n : Nat) : Int) = max (q : Int) 1) := by show ((nck n : Nat) : Int) = max (q : Int) 1; rw [hk]; omega
    generalize nck n = x at *
    rw [h0] at t1 t1'
    clear hk hqr h0 hq hr
    go_enter Tryz.func48, Tryz.ntmps48
    go_wp2_with (refine wpList_max rfl _ _ rfl (q : Int) 1 rfl rfl rfl (x : Int) HMX.out ?_)
    go_ret
    exact ⟨rfl, rfl⟩
  · have hk : ((nck n : Nat) : Int) = q + 1 := by unfold nck; omega
    rw [hk]
    have d0 : ((r : Int) == 0) = false := by simp; omega
    clear hk hqr h0 hq hr
    go_enter Tryz.func48, Tryz.ntmps48
    go_wp2
    go_ret
    exact ⟨by go_num, rfl⟩

/-- How many bytes n bytes take, stored. -/
def ssz (n : Nat) : Nat := n + 5 * nck n

theorem storedSize_any (n : Nat) (w : World) (hn : n ≤ 2000000000) : Calls Tryz.prog 28 #[.int .i64 n] w fun e w' => e = .returned (.int .i64 (ssz n)) ∧ w' = w := by
  have hs := storedBlocks_any n w hn
  have hb : nck n ≤ 100000 := by unfold nck; omega
  have e : ((ssz n : Nat) : Int) = n + 5 * (nck n : Nat) := by unfold ssz; omega
  rw [e]
  generalize nck n = x at *
  clear e
  go_enter Tryz.func28, Tryz.ntmps28
  go_wp2_with (go_at_call 48; refine hs.mono ?_; rintro e w1 ⟨rfl, hw⟩; subst w1)
  go_ret
  exact ⟨by go_num, rfl⟩

theorem bound_yes (n : Nat) (w : World) (hn : n ≤ 2000000000) : Calls Tryz.prog 13 #[.int .i64 n] w fun e w' => e = .returned (.int .i64 ((ssz n + 6 : Nat) : Int)) ∧ w' = w := by
  have hs := storedSize_any n w hn
  have hb : ssz n ≤ 3000000000 := by unfold ssz nck; omega
  have d : decide ((n : Int) < 0) = false := by simp
  have e : ((ssz n + 6 : Nat) : Int) = (ssz n : Nat) + 2 + 4 := by omega
  rw [e]
  generalize ssz n = x at *
  clear e
  go_enter Tryz.func13, Tryz.ntmps13
  go_wp2_with (go_at_call 28; refine hs.mono ?_; rintro e w1 ⟨rfl, hw⟩; subst w1)
  go_ret
  exact ⟨by go_num, rfl⟩

end Go.Proofs.YtiahbicodlgmhaaGreatDoor.Z

/- Quiet steps. -/
namespace Go.Proofs.YtiahbicodlgmhaaGreatDoor.Z
open Go.RowKit

theorem q_call1 {ops : Array Oper} {o : Oper} {a : Act} {C : World → Prop} {K : Act → Prop} {E : Prop} (hw : Region.wanted o (yielded ops a.tmps) = true) (f : FuncId) (hf : ∀ vs w, (callFunc f vs).run Tryz.prog w = .ok (.enter f vs) w) (x : Operand) (ts : Array TypeId) (ho : o.op = .call { callee := .value (.func f), args := #[x], argTypes := ts }) (u : Value) (hx : a.eval x = u) (v : Value)
    (hc : ∀ w, C w → Calls Tryz.prog f #[u] w (fun e w' => e = .returned v ∧ C w')) (hk : K (a.put o.dst v)) : if Region.wanted o (yielded ops a.tmps) = true then o.quiet Tryz.prog a C K else E := by
  rw [if_pos hw]
  refine ⟨v, fun w hC => ?_, hk⟩
  have h := hc w hC
  have hr : (resolve a.eval { callee := .value (.func f), args := #[x], argTypes := ts } o.type >>= fun d => invoke d.target d.args).run Tryz.prog w = .ok (.enter f #[u]) w := by
    rw [← hf #[u] w, ← hx]
    simp [resolve, Act.eval, invoke, Deferred.ofValue]
  unfold Oper.quietAt execOp
  simp only [ho, hr]
  exact ⟨rfl, h⟩

theorem q_call2 {ops : Array Oper} {o : Oper} {a : Act} {C : World → Prop} {K : Act → Prop} {E : Prop} (hw : Region.wanted o (yielded ops a.tmps) = true) (f : FuncId) (hf : ∀ vs w, (callFunc f vs).run Tryz.prog w = .ok (.enter f vs) w) (x y : Operand) (ts : Array TypeId) (ho : o.op = .call { callee := .value (.func f), args := #[x, y], argTypes := ts }) (u u' : Value) (hx : a.eval x = u) (hy : a.eval y = u') (v : Value)
    (hc : ∀ w, C w → Calls Tryz.prog f #[u, u'] w (fun e w' => e = .returned v ∧ C w')) (hk : K (a.put o.dst v)) : if Region.wanted o (yielded ops a.tmps) = true then o.quiet Tryz.prog a C K else E := by
  rw [if_pos hw]
  refine ⟨v, fun w hC => ?_, hk⟩
  have h := hc w hC
  have hr : (resolve a.eval { callee := .value (.func f), args := #[x, y], argTypes := ts } o.type >>= fun d => invoke d.target d.args).run Tryz.prog w = .ok (.enter f #[u, u']) w := by
    rw [← hf #[u, u'] w, ← hx, ← hy]
    simp [resolve, Act.eval, invoke, Deferred.ofValue]
  unfold Oper.quietAt execOp
  simp only [ho, hr]
  exact ⟨rfl, h⟩

/-- A call of a function's value. -/
theorem q_callv2 {ops : Array Oper} {o : Oper} {a : Act} {C : World → Prop} {K : Act → Prop} {E : Prop} (hw : Region.wanted o (yielded ops a.tmps) = true) (f : FuncId) (hf : ∀ vs w, (callFunc f vs).run Tryz.prog w = .ok (.enter f vs) w) (t : Tmp) (x y : Operand) (ts : Array TypeId) (ho : o.op = .call { callee := .value (.tmp t), args := #[x, y], argTypes := ts }) (ht : a.eval (.tmp t) = .func (.func f) #[] #[]) (u u' : Value) (hx : a.eval x = u) (hy : a.eval y = u') (v : Value)
    (hc : ∀ w, C w → Calls Tryz.prog f #[u, u'] w (fun e w' => e = .returned v ∧ C w')) (hk : K (a.put o.dst v)) : if Region.wanted o (yielded ops a.tmps) = true then o.quiet Tryz.prog a C K else E := by
  rw [if_pos hw]
  refine ⟨v, fun w hC => ?_, hk⟩
  have h := hc w hC
  have hr : (resolve a.eval { callee := .value (.tmp t), args := #[x, y], argTypes := ts } o.type >>= fun d => invoke d.target d.args).run Tryz.prog w = .ok (.enter f #[u, u']) w := by
    rw [← hf #[u, u'] w, ← hx, ← hy]
    simp [resolve, ht, invoke, Deferred.ofValue]
  unfold Oper.quietAt execOp
  simp only [ho, hr]
  exact ⟨rfl, h⟩

theorem q_load {ops : Array Oper} {o : Oper} {a : Act} {C : World → Prop} {K : Act → Prop} {E : Prop} (hw : Region.wanted o (yielded ops a.tmps) = true) (ty : TypeId) (x : Operand) (ho : o.op = .load ty x) (ad : Addr) (hx : a.eval x = .pointer (some ad)) (v : Value)
    (hc : ∀ w, C w → (loadVar ty ad).run Tryz.prog w = .ok v w) (hk : K (a.put o.dst v)) : if Region.wanted o (yielded ops a.tmps) = true then o.quiet Tryz.prog a C K else E := by
  rw [if_pos hw]
  refine ⟨v, fun w hC => ?_, hk⟩
  have h := hc w hC
  unfold Oper.quietAt execOp
  simp only [ho, hx]
  simp [Instr.loadAt, Instr.sureAddr, h, Oper.quietUpon]

theorem cf46 (vs : Array Value) (w : World) : (callFunc 46 vs).run Tryz.prog w = .ok (.enter 46 vs) w := by simp [go_sem]
theorem cf73 (vs : Array Value) (w : World) : (callFunc 73 vs).run Tryz.prog w = .ok (.enter 73 vs) w := by simp [go_sem]
theorem cf74 (vs : Array Value) (w : World) : (callFunc 74 vs).run Tryz.prog w = .ok (.enter 74 vs) w := by simp [go_sem]
theorem cf76 (vs : Array Value) (w : World) : (callFunc 76 vs).run Tryz.prog w = .ok (.enter 76 vs) w := by simp [go_sem]
theorem cf106 (vs : Array Value) (w : World) : (callFunc 106 vs).run Tryz.prog w = .ok (.enter 106 vs) w := by simp [go_sem]
theorem cf108 (vs : Array Value) (w : World) : (callFunc 108 vs).run Tryz.prog w = .ok (.enter 108 vs) w := by simp [go_sem]
theorem cf136 (vs : Array Value) (w : World) : (callFunc 136 vs).run Tryz.prog w = .ok (.enter 136 vs) w := by simp [go_sem]

theorem ix63 (p q : Value) (W : World) : (Instr.index 63 (.agg #[p, q]) (.int .i64 0)).run Tryz.prog W = .ok p W ∧ (Instr.index 63 (.agg #[p, q]) (.int .i64 1)).run Tryz.prog W = .ok q W := ⟨by kernel_rfl, by kernel_rfl⟩

/-- What the steps cost by two codes. -/
def bct (La : Nat → Int) (na : Nat) (Lb : Nat → Int) (nb : Nat) (ss : List Stp) : Int := exs ss + Lim.CS La (tl 0 ss) (min na 286) + Lim.CS Lb (tl 1 ss) (min nb 30)

theorem cs_small (L D : Nat → Int) (k : Nat) (hk : k ≤ 300) (hL : ∀ j, j < k → Lm (L j)) (hD : ∀ j, j < k → 0 ≤ D j ∧ D j ≤ 16777216) : 0 ≤ Lim.CS L D k ∧ Lim.CS L D k ≤ 100000000000 := by
  have := Lim.CS_bound L D k hL hD
  omega

set_option maxRecDepth 100000 in
set_option maxHeartbeats 4000000 in
theorem bcost_any (x a b lo K : Nat) (La : Nat → Int) (na : Nat) (Lb : Nat → Int) (nb : Nat) (d : Value) (last : Bool) (is : List It) (sa : Option Addr) (sc g0 g1 f0 f1 T R0 R1 Rb nl nd vn : Nat) (L0 L1 Lc : Nat → Int) (qs : List Cl) (oa oc ca : Nat) (ta : Option Addr) (tc : Nat) (w : World) (h : Bk w x lo K d last is sa sc g0 g1 f0 f1 T R0 R1 Rb nl nd vn L0 L1 Lc qs oa oc ca ta tc) (hCa : Cx w a lo K La na) (hCb : Cx w b lo K Lb nb) (ha0 : 0 < na) (hb0 : 0 < nb) (hok : ∀ i ∈ is, i.ok) (hm : (stps is ++ [eos]).length ≤ 1000000) :
    Calls Tryz.prog 106 #[.pointer (some ⟨x, 0, none⟩), .agg #[.pointer (some ⟨a, 0, none⟩), .pointer (some ⟨b, 0, none⟩)]] w fun e w' => e = .returned (.int .i64 (bct La na Lb nb (stps is ++ [eos]))) ∧ Below w.heap.size w w' := by
  have hKw := h.x0.K_le
  have HB : Hid (∀ W, Below w.heap.size w W → Bk W x lo K d last is sa sc g0 g1 f0 f1 T R0 R1 Rb nl nd vn L0 L1 Lc qs oa oc ca ta tc ∧ Cx W a lo K La na ∧ Cx W b lo K Lb nb) := fun W hW => ⟨h.mid (Mid.ofBelow (hW.mono hKw)), hCa.mid (Mid.ofBelow (hW.mono hKw)), hCb.mid (Mid.ofBelow (hW.mono hKw))⟩
  have hD : ∀ (c : Int) (j : Nat), 0 ≤ tl c (stps is ++ [eos]) j ∧ tl c (stps is ++ [eos]) j ≤ 16777216 := fun c j => by have := tl_bound c (stps is ++ [eos]) j; omega
  have hex := exs_bound (stps_okB hok)
  obtain ⟨_, hLa, _⟩ := er_zero La na hCa.ok
  obtain ⟨_, hLb, _⟩ := er_zero Lb nb hCb.ok
  have hv0 := cs_small La (tl 0 (stps is ++ [eos])) (min na 286) (by omega) (fun j hj => hLa j (by omega)) (fun j _ => hD 0 j)
  have hv1 := cs_small Lb (tl 1 (stps is ++ [eos])) (min nb 30) (by omega) (fun j hj => hLb j (by omega)) (fun j _ => hD 1 j)
  have HC0 : Hid (∀ W, Below w.heap.size w W → Calls Tryz.prog 136 #[.pointer (some ⟨a, 0, none⟩), .slice (some ⟨g0, 0, none⟩) 286 286] W fun e w' => e = .returned (.int .i64 (Lim.CS La (tl 0 (stps is ++ [eos])) (min na 286))) ∧ w' = W.drew) := fun W hW => by
    obtain ⟨k1, k2, _⟩ := HB.out W hW
    exact cost_gen a lo K La _ na 286 _ rfl (some ⟨g0, 0, none⟩) 286 W k2 (Ri.row k1.c0) (by omega) ha0 (fun j _ => hD 0 j)
  have HC1 : Hid (∀ W, Below w.heap.size w W → Calls Tryz.prog 136 #[.pointer (some ⟨b, 0, none⟩), .slice (some ⟨g1, 0, none⟩) 30 30] W fun e w' => e = .returned (.int .i64 (Lim.CS Lb (tl 1 (stps is ++ [eos])) (min nb 30))) ∧ w' = W.drew) := fun W hW => by
    obtain ⟨k1, _, k3⟩ := HB.out W hW
    exact cost_gen b lo K Lb _ nb 30 _ rfl (some ⟨g1, 0, none⟩) 30 W k3 (Ri.row k1.c1) (by omega) hb0 (fun j _ => hD 1 j)
  have HROW : Hid (∀ W, Below w.heap.size w W → W.rowIs x 66 9 (bkc d last (.slice sa (stps is ++ [eos]).length sc) (.slice (some ⟨g0, 0, none⟩) 286 286) (.slice (some ⟨g1, 0, none⟩) 30 30) (exs (stps is ++ [eos])) (.pointer (some ⟨f0, 0, none⟩)) (.pointer (some ⟨f1, 0, none⟩)) (.pointer (some ⟨T, 0, none⟩)))) := fun W hW => (HB.out W hW).1.row
  have HBC : Hid (bct La na Lb nb (stps is ++ [eos]) = exs (stps is ++ [eos]) + Lim.CS La (tl 0 (stps is ++ [eos])) (min na 286) + Lim.CS Lb (tl 1 (stps is ++ [eos])) (min nb 30)) := rfl
  generalize bct La na Lb nb (stps is ++ [eos]) = vt at *
  generalize Lim.CS La (tl 0 (stps is ++ [eos])) (min na 286) = v0 at *
  generalize Lim.CS Lb (tl 1 (stps is ++ [eos])) (min nb 30) = v1 at *
  generalize exs (stps is ++ [eos]) = ex at *
  generalize (stps is ++ [eos]).length = m at *
  obtain ⟨W1, hW1⟩ : ∃ W1, W1 = w.alloc (Obj.cells #[Value.pointer (some ⟨a, 0, none⟩), Value.pointer (some ⟨b, 0, none⟩)] 63) := ⟨_, rfl⟩
  have b1 : Below w.heap.size w W1 := by rw [hW1]; exact (Below.refl _ _).alloc (Nat.le_refl _) _
  have x5 := (HROW.out W1 b1).cell (i := 5) (by omega)
  simp only [bkc] at x5
  have HB1 : Hid (Below w.heap.size w W1) := b1
  have HW1 : Hid (W1 = w.alloc (Obj.cells #[Value.pointer (some ⟨a, 0, none⟩), Value.pointer (some ⟨b, 0, none⟩)] 63)) := hW1
  rw [hW1] at x5
  have he0 := hex.1
  have he1 := hex.2
  have hv00 := hv0.1
  have hv01 := hv0.2
  have hv10 := hv1.1
  have hv11 := hv1.2
  clear h hCa hCb hok hD hex hLa hLb hv0 hv1 b1 hW1 ha0 hb0 hKw HB
  go_enter Tryz.func106, Tryz.ntmps106
  go_wp2_with fail
  rw [← HW1.out]
  clear x5 HW1
  go_loopw [5, 13] (fun nv iv wr => Hid (Below w.heap.size w wr) ∧ ((iv = .int .i64 0 ∧ nv = .int .i64 ex) ∨ (iv = .int .i64 1 ∧ nv = .int .i64 (ex + v0)) ∨ (iv = .int .i64 2 ∧ nv = .int .i64 (ex + v0 + v1)))) (fun _ iv _ => 2 - (intOf iv).toNat)
  case atStart => exact ⟨HB1, .inl ⟨rfl, rfl⟩⟩
  case round =>
    clear HB1
    obtain ⟨HBL, ⟨rfl, rfl⟩ | ⟨rfl, rfl⟩ | ⟨rfl, rfl⟩⟩ := hrel
    · have i0 := (ix63 (.pointer (some ⟨a, 0, none⟩)) (.pointer (some ⟨b, 0, none⟩)) wr).1
      have q3 := (HROW.out wr HBL.out).cell (i := 3) (by omega)
      simp only [bkc] at q3
      have hc := HC0.out wr HBL.out
      go_wp2_with (go_at_call 136; refine hc.mono ?_; rintro e w5 ⟨rfl, hw⟩; subst w5)
      go_roundw
      case rel => exact ⟨HBL.out.drew, .inr (.inl ⟨rfl, by go_num⟩)⟩
      case measure => simp [intOf]
    · have i0 := (ix63 (.pointer (some ⟨a, 0, none⟩)) (.pointer (some ⟨b, 0, none⟩)) wr).2
      have q3 := (HROW.out wr HBL.out).cell (i := 4) (by omega)
      simp only [bkc] at q3
      have hc := HC1.out wr HBL.out
      go_wp2_with (go_at_call 136; refine hc.mono ?_; rintro e w5 ⟨rfl, hw⟩; subst w5)
      go_roundw
      case rel => exact ⟨HBL.out.drew, .inr (.inr ⟨rfl, by go_num⟩)⟩
      case measure => simp [intOf]
    · go_wp2
      go_ret
      rw [HBC.out]
      exact ⟨rfl, HBL.out⟩

end Go.Proofs.YtiahbicodlgmhaaGreatDoor.Z

/- The costs of the three kinds. -/
namespace Go.Proofs.YtiahbicodlgmhaaGreatDoor.Z
open Go.RowKit

theorem clst_exs {qs : List Cl} : 0 ≤ exs (qs.map clst) ∧ exs (qs.map clst) ≤ 7 * qs.length := by
  induction qs with
  | nil => simp [exs]
  | cons q qs ih =>
    simp only [List.map_cons, exs, List.length_cons]
    cases q <;> simp [clst] <;> omega

/-- What a telling costs. -/
def tct (Lc : Nat → Int) (vn : Nat) (qs : List Cl) : Int := 14 + 3 * (vn : Int) + Lim.CS Lc (tl 0 (qs.map clst)) 19 + exs (qs.map clst)

theorem ld59 {w : World} {ad : Addr} {v : Value} (h : w.cell? ad = some v) : (loadVar 59 ad).run Tryz.prog w = .ok v w := by simp [go_sem, h]
theorem ld61 {w : World} {ad : Addr} {v : Value} (h : w.cell? ad = some v) : (loadVar 61 ad).run Tryz.prog w = .ok v w := by simp [go_sem, h]
theorem ld64 {w : World} {ad : Addr} {v : Value} (h : w.cell? ad = some v) : (loadVar 64 ad).run Tryz.prog w = .ok v w := by simp [go_sem, h]
theorem ld89 {w : World} {ad : Addr} {v : Value} (h : w.cell? ad = some v) : (loadVar 89 ad).run Tryz.prog w = .ok v w := by simp [go_sem, h]
theorem ld63 {w : World} {b o p q : Nat} (h0 : w.cell? ⟨b, o, none⟩ = some (.pointer (some ⟨p, 0, none⟩))) (h1 : w.cell? ⟨b, o + 1, none⟩ = some (.pointer (some ⟨q, 0, none⟩))) : (loadVar 63 ⟨b, o, none⟩).run Tryz.prog w = .ok (.agg #[.pointer (some ⟨p, 0, none⟩), .pointer (some ⟨q, 0, none⟩)]) w := by simp [go_sem, h0, h1]

set_option maxRecDepth 100000 in
set_option maxHeartbeats 4000000 in
theorem tcost_any (T lo K : Nat) (D0 D1 : Nat → Int) (R0 R1 Rb nl nd vn : Nat) (L0 L1 Lc : Nat → Int) (qs : List Cl) (oa oc ca : Nat) (sa : Option Addr) (sc : Nat) (w : World) (h : Tg w T lo K D0 D1 R0 R1 Rb nl nd vn L0 L1 Lc qs oa oc ca sa sc) :
    Calls Tryz.prog 108 #[.pointer (some ⟨T, 0, none⟩)] w fun e w' => e = .returned (.int .i64 (tct Lc vn qs)) ∧ Below w.heap.size w w' := by
  have hql := h.rn.len
  have n0u := h.t0.le
  have n1u := h.t1.le
  have v19 := h.v19
  have hD : ∀ (j : Nat), 0 ≤ tl 0 (qs.map clst) j ∧ tl 0 (qs.map clst) j ≤ 16777216 := fun j => by have := tl_bound 0 (qs.map clst) j; rw [List.length_map] at this; omega
  obtain ⟨_, hLc, _⟩ := er_zero Lc 19 h.cb.ok
  have hv0 := cs_small Lc (tl 0 (qs.map clst)) 19 (by omega) (fun j hj => hLc j hj) (fun j _ => hD j)
  have hKw := h.cb.K_le
  have HTG : Hid (∀ W, Below w.heap.size w W → Tg W T lo K D0 D1 R0 R1 Rb nl nd vn L0 L1 Lc qs oa oc ca sa sc) := fun W hW => h.mid (Mid.ofBelow (hW.mono hKw))
  have hcall : ∀ W, Below w.heap.size w W → Calls Tryz.prog 136 #[.pointer (some ⟨Rb, 0, none⟩), .slice (some ⟨ca, 0, none⟩) 19 19] W fun e w' => e = .returned (.int .i64 (Lim.CS Lc (tl 0 (qs.map clst)) 19)) ∧ Below w.heap.size w w' := fun W hW => (cost_gen Rb lo K Lc (tl 0 (qs.map clst)) 19 19 19 rfl (some ⟨ca, 0, none⟩) 19 W (HTG.out _ hW).cb (Ri.row (HTG.out _ hW).ct) (by omega) (by omega) (fun j _ => hD j)).mono (fun e w' h => ⟨h.1, by rw [h.2]; exact hW.drew⟩)
  have hex := clst_exs (qs := qs)
  have HEQ : Hid (tct Lc vn qs = 14 + 3 * (vn : Int) + Lim.CS Lc (tl 0 (qs.map clst)) 19 + exs (qs.map clst)) := rfl
  generalize Lim.CS Lc (tl 0 (qs.map clst)) 19 = v0 at *
  obtain ⟨m, hm⟩ : ∃ m, m = qs.length := ⟨_, rfl⟩
  have HM : Hid (m = qs.length) := hm
  have HROW : Hid (∀ W, Below w.heap.size w W → W.rowIs T 144 8 (tlc (.pointer (some ⟨R0, 0, none⟩)) (.pointer (some ⟨R1, 0, none⟩)) nl nd (.slice (some ⟨oa, 0, none⟩) vn oc) (.pointer (some ⟨Rb, 0, none⟩)) (.slice (some ⟨ca, 0, none⟩) 19 19) (.slice sa m sc))) := fun W hW => by rw [hm]; exact (HTG.out W hW).row
  have HL4 : Hid (∀ W, Below w.heap.size w W → W.cell? ⟨T, 4, none⟩ = some (.slice (some ⟨oa, 0, none⟩) vn oc)) := fun W hW => (HROW.out W hW).cell (i := 4) (by omega)
  have HL5 : Hid (∀ W, Below w.heap.size w W → W.cell? ⟨T, 5, none⟩ = some (.pointer (some ⟨Rb, 0, none⟩))) := fun W hW => (HROW.out W hW).cell (i := 5) (by omega)
  have HL6 : Hid (∀ W, Below w.heap.size w W → W.cell? ⟨T, 6, none⟩ = some (.slice (some ⟨ca, 0, none⟩) 19 19)) := fun W hW => (HROW.out W hW).cell (i := 6) (by omega)
  have HCL : Hid (∀ W, Below w.heap.size w W → Calls Tryz.prog 136 #[.pointer (some ⟨Rb, 0, none⟩), .slice (some ⟨ca, 0, none⟩) 19 19] W fun e w' => e = .returned (.int .i64 v0) ∧ Below w.heap.size w w') := hcall
  rw [← hm] at hql
  have tw1 : IntKind.i64.wrap (3 * (vn : Int)) = 3 * vn := wraps_i64 _ (by omega) (by omega)
  have tw2 : IntKind.i64.wrap (14 + 3 * (vn : Int)) = 14 + 3 * vn := wraps_i64 _ (by omega) (by omega)
  have tw3 : IntKind.i64.wrap (14 + 3 * (vn : Int) + v0) = 14 + 3 * vn + v0 := wraps_i64 _ (by omega) (by omega)
  have hv00 := hv0.1
  have hv01 := hv0.2
  have hm4 : m ≤ 400 := by omega
  clear h hD hLc hv0 hKw hql hm hex hcall
  go_enter Tryz.func108, Tryz.ntmps108
  go_wp2_with fail
  refine wp_region_quiet (C := fun W => Below w.heap.size w W) (by kernel_rfl) (by kernel_rfl) (Below.refl _ _).drew ?_
  refine wpQuiet_step (fun K hK => ?_)
  (go_simp; refine ⟨_, fun wq hs => rfl, hK _ ?_⟩; clear hK K)
  refine wpQuiet_step (fun K hK => ?_)
  (go_simp; refine ⟨_, fun wq hs => rfl, hK _ ?_⟩; clear hK K)
  refine wpQuiet_step (fun K hK => ?_)
  (go_simp; refine ⟨_, fun wq hs => rfl, hK _ ?_⟩; clear hK K)
  refine wpQuiet_step (fun K hK => ?_)
  (refine q_load (by rfl) 59 _ rfl ⟨T, 4, none⟩ rfl (.slice (some ⟨oa, 0, none⟩) vn oc) (fun W hW => ld59 (HL4.out W hW)) (hK _ ?_); clear hK K)
  refine wpQuiet_step (fun K hK => ?_)
  (go_simp; refine ⟨_, fun wq hs => rfl, hK _ ?_⟩; clear hK K)
  refine wpQuiet_step (fun K hK => ?_)
  (go_simp; refine ⟨_, fun wq hs => rfl, hK _ ?_⟩; clear hK K)
  refine wpQuiet_step (fun K hK => ?_)
  (go_simp; refine ⟨_, fun wq hs => rfl, hK _ ?_⟩; clear hK K)
  refine wpQuiet_step (fun K hK => ?_)
  (go_simp; refine ⟨_, fun wq hs => rfl, hK _ ?_⟩; clear hK K)
  refine wpQuiet_step (fun K hK => ?_)
  (go_simp; refine ⟨_, fun wq hs => rfl, hK _ ?_⟩; clear hK K)
  refine wpQuiet_step (fun K hK => ?_)
  (go_simp; refine ⟨_, fun wq hs => rfl, hK _ ?_⟩; clear hK K)
  refine wpQuiet_step (fun K hK => ?_)
  (refine q_load (by rfl) 61 _ rfl ⟨T, 5, none⟩ rfl (.pointer (some ⟨Rb, 0, none⟩)) (fun W hW => ld61 (HL5.out W hW)) (hK _ ?_); clear hK K)
  refine wpQuiet_step (fun K hK => ?_)
  (go_simp; refine ⟨_, fun wq hs => rfl, hK _ ?_⟩; clear hK K)
  refine wpQuiet_step (fun K hK => ?_)
  (go_simp; refine ⟨_, fun wq hs => rfl, hK _ ?_⟩; clear hK K)
  refine wpQuiet_step (fun K hK => ?_)
  (go_simp; refine ⟨_, fun wq hs => rfl, hK _ ?_⟩; clear hK K)
  refine wpQuiet_step (fun K hK => ?_)
  (refine q_load (by rfl) 59 _ rfl ⟨T, 6, none⟩ rfl (.slice (some ⟨ca, 0, none⟩) 19 19) (fun W hW => ld59 (HL6.out W hW)) (hK _ ?_); clear hK K)
  refine wpQuiet_step (fun K hK => ?_)
  (refine q_call2 (by rfl) 136 cf136 _ _ _ rfl (.pointer (some ⟨Rb, 0, none⟩)) (.slice (some ⟨ca, 0, none⟩) 19 19) rfl rfl (.int .i64 v0) HCL.out (hK _ ?_); clear hK K)
  refine wpQuiet_step (fun K hK => ?_)
  (go_simp; refine ⟨_, fun wq hs => rfl, hK _ ?_⟩; clear hK K)
  refine wpQuiet_step (fun K hK => ?_)
  (go_simp; refine ⟨_, fun wq hs => rfl, hK _ ?_⟩; clear hK K)
  refine wpQuiet_nil ?_
  intro w1 hB1
  have x7 := (HROW.out w1 hB1).cell (i := 7) (by omega)
  simp only [tlc] at x7
  have HB1 : Hid (Below w.heap.size w w1) := hB1
  clear hB1
  go_wp2_with fail
  clear x7
  go_loopw [3, 28] (fun nv iv wr => ∃ k : Nat, k ≤ m ∧ iv = .int .i64 k ∧ nv = .int .i64 (14 + 3 * (vn : Int) + v0 + exs ((qs.map clst).take k)) ∧ Hid (Below w.heap.size w wr)) (fun _ iv _ => m - (intOf iv).toNat)
  case atStart => exact ⟨0, by omega, rfl, by simp [exs], HB1⟩
  case round =>
    clear HB1
    obtain ⟨k, hk, rfl, rfl, HB⟩ := hrel
    by_cases hlt : k < m
    · obtain ⟨bb, off, hsa, x0, x1, x2, x3⟩ := (HTG.out wr HB.out).st.cells k (by have := HM.out; omega)
      have htk : (qs.map clst).take (k + 1) = (qs.map clst).take k ++ [(qs.map clst).getD k sz0] := Lzz.take_one _ sz0 k (by have := HM.out; simp; omega)
      have hb1 := clst_exs (qs := qs.take k)
      have hb2 := clst_exs (qs := qs.take (k + 1))
      rw [List.map_take, List.length_take] at hb1 hb2
      have hE : exs ((qs.map clst).take (k + 1)) = exs ((qs.map clst).take k) + ((qs.map clst).getD k sz0).2.2.2 := by rw [htk, exs_app]; simp [exs]
      have HE : Hid (exs ((qs.map clst).take (k + 1)) = exs ((qs.map clst).take k) + ((qs.map clst).getD k sz0).2.2.2) := hE
      rw [hE] at hb2
      obtain ⟨st, hst⟩ : ∃ st, st = (qs.map clst).getD k sz0 := ⟨_, rfl⟩
      rw [← hst] at x0 x1 x2 x3 hb2 HE
      obtain ⟨s0, s1, s2, s3⟩ := st
      simp only at x0 x1 x2 x3 hb2
      obtain ⟨ek, hek⟩ : ∃ ek, ek = exs ((qs.map clst).take k) := ⟨_, rfl⟩
      rw [← hek] at hb1 hb2 HE ⊢
      have q1 : 0 ≤ ek := hb1.1
      have q2 : ek ≤ 2800 := by omega
      have q3 : 0 ≤ ek + s3 := hb2.1
      have q4 : ek + s3 ≤ 2900 := by omega
      have HBY : Hid (Below w.heap.size w (wr.alloc (Obj.cells #[Value.int .i64 s0, Value.int .i64 s1, Value.int .i64 s2, Value.int .i64 s3] 109))) := HB.out.alloc HB.out.size _
      subst hsa
      clear htk hb1 hb2 hE hst hek HB
      go_wp2
      go_roundw
      case rel => exact ⟨k + 1, by omega, by go_num, by rw [HE.out]; go_num, HBY⟩
      case measure => simp [intOf]; omega
    · obtain rfl : k = m := by omega
      have hall : (qs.map clst).take k = qs.map clst := by rw [HM.out, ← List.length_map (f := clst), List.take_length]
      rw [hall]
      go_wp2
      go_ret
      rw [HEQ.out]
      exact ⟨rfl, HB.out⟩

/-- What stored blocks cost from bit p on. -/
def sct (p n : Nat) : Int := 3 + ((8 - (p + 3) % 8) % 8 : Nat) - 8 + 8 * (ssz n : Int)

set_option maxHeartbeats 1000000 in
theorem scost_any (x : Nat) (da : Option Addr) (N dc p : Nat) (w : World) (h : w.cell? ⟨x, 0, none⟩ = some (.slice da N dc)) (hN : N ≤ 1000000) (hp : p ≤ 1000000000) :
    Calls Tryz.prog 73 #[.pointer (some ⟨x, 0, none⟩), .int .i64 p] w fun e w' => e = .returned (.int .i64 (sct p N)) ∧ w' = w := by
  have hs := storedSize_any N w (by omega)
  have hb : ssz N ≤ 2000000 := by unfold ssz nck; omega
  obtain ⟨r, hr⟩ : ∃ r, r = (p + 3) % 8 := ⟨_, rfl⟩
  obtain ⟨t, ht⟩ : ∃ t, t = (8 - r) % 8 := ⟨_, rfl⟩
  have t1 : ((p : Int) + 3).tmod 8 = r := by rw [Int.tmod_eq_emod_of_nonneg (by omega)]; omega
  have t1' : ((p : Int) + 3) % 8 = r := by omega
  have t2 : ((8 : Int) - r).tmod 8 = t := by rw [Int.tmod_eq_emod_of_nonneg (by omega)]; omega
  have t2' : ((8 : Int) - r) % 8 = t := by omega
  have hr8 : r < 8 := by omega
  have ht8 : t < 8 := by omega
  have e : sct p N = 3 + (t : Int) - 8 + 8 * (ssz N : Int) := by unfold sct; rw [← hr, ← ht]
  rw [e]
  generalize ssz N = y at *
  clear e hr ht
  go_enter Tryz.func73, Tryz.ntmps73
  go_wp2_with (go_at_call 28; refine hs.mono ?_; rintro e w1 ⟨rfl, hw⟩; subst w1)
  go_ret
  exact ⟨by go_num, rfl⟩

end Go.Proofs.YtiahbicodlgmhaaGreatDoor.Z

/- The costs of a block by its kinds. -/
namespace Go.Proofs.YtiahbicodlgmhaaGreatDoor.Z
open Go.RowKit

/-- Costs are no great numbers. -/
theorem bct_small {w : World} {R R' lo K : Nat} {La : Nat → Int} {na : Nat} {Lb : Nat → Int} {nb : Nat} (hCa : Cx w R lo K La na) (hCb : Cx w R' lo K Lb nb) {is : List It} (hok : ∀ i ∈ is, i.ok) (hm : (stps is ++ [eos]).length ≤ 1000000) : 0 ≤ bct La na Lb nb (stps is ++ [eos]) ∧ bct La na Lb nb (stps is ++ [eos]) ≤ 300000000000 := by
  obtain ⟨_, hLa, _⟩ := er_zero La na hCa.ok
  obtain ⟨_, hLb, _⟩ := er_zero Lb nb hCb.ok
  have hD : ∀ (c : Int) (j : Nat), 0 ≤ tl c (stps is ++ [eos]) j ∧ tl c (stps is ++ [eos]) j ≤ 16777216 := fun c j => by have := tl_bound c (stps is ++ [eos]) j; omega
  have hex := exs_bound (stps_okB hok)
  have hv0 := cs_small La (tl 0 (stps is ++ [eos])) (min na 286) (by omega) (fun j hj => hLa j (by omega)) (fun j _ => hD 0 j)
  have hv1 := cs_small Lb (tl 1 (stps is ++ [eos])) (min nb 30) (by omega) (fun j hj => hLb j (by omega)) (fun j _ => hD 1 j)
  unfold bct
  omega

theorem tct_small {w : World} {T lo K : Nat} {D0 D1 : Nat → Int} {R0 R1 Rb nl nd vn : Nat} {L0 L1 Lc : Nat → Int} {qs : List Cl} {oa oc ca : Nat} {sa : Option Addr} {sc : Nat} (h : Tg w T lo K D0 D1 R0 R1 Rb nl nd vn L0 L1 Lc qs oa oc ca sa sc) : 0 ≤ tct Lc vn qs ∧ tct Lc vn qs ≤ 200000000000 := by
  have hql := h.rn.len
  have n0u := h.t0.le
  have n1u := h.t1.le
  have v19 := h.v19
  have hD : ∀ (j : Nat), 0 ≤ tl 0 (qs.map clst) j ∧ tl 0 (qs.map clst) j ≤ 16777216 := fun j => by have := tl_bound 0 (qs.map clst) j; rw [List.length_map] at this; omega
  obtain ⟨_, hLc, _⟩ := er_zero Lc 19 h.cb.ok
  have hv0 := cs_small Lc (tl 0 (qs.map clst)) 19 (by omega) (fun j hj => hLc j hj) (fun j _ => hD j)
  have hex := clst_exs (qs := qs)
  unfold tct
  omega

set_option maxRecDepth 100000 in
set_option maxHeartbeats 1000000 in
theorem fcost_any (x lo K : Nat) (d : Value) (last : Bool) (is : List It) (hok : ∀ i ∈ is, i.ok) (sa : Option Addr) (sc g0 g1 f0 f1 T R0 R1 Rb nl nd vn : Nat) (L0 L1 Lc : Nat → Int) (qs : List Cl) (oa oc ca : Nat) (ta : Option Addr) (tc : Nat) (w : World) (h : Bk w x lo K d last is sa sc g0 g1 f0 f1 T R0 R1 Rb nl nd vn L0 L1 Lc qs oa oc ca ta tc) (p : Int) (hm : (stps is ++ [eos]).length ≤ 1000000) :
    Calls Tryz.prog 74 #[.pointer (some ⟨x, 0, none⟩), .int .i64 p] w fun e w' => e = .returned (.int .i64 (3 + bct fl 288 dl 32 (stps is ++ [eos]))) ∧ Below w.heap.size w w' := by
  have hb := bcost_any x f0 f1 lo K fl 288 dl 32 d last is sa sc g0 g1 f0 f1 T R0 R1 Rb nl nd vn L0 L1 Lc qs oa oc ca ta tc w h h.x0 h.x1 (by omega) (by omega) hok hm
  have hs := bct_small h.x0 h.x1 hok hm
  have q6 := h.row.cell (i := 6) (by omega)
  have q7 := h.row.cell (i := 7) (by omega)
  simp only [bkc] at q6 q7
  generalize bct fl 288 dl 32 (stps is ++ [eos]) = v at *
  have s0 := hs.1
  have s1 := hs.2
  clear h hok hm hs
  go_enter Tryz.func74, Tryz.ntmps74
  go_wp2_with fail
  refine hb.mono ?_
  rintro e w1 ⟨rfl, hb1⟩
  have HB1 : Hid (Below w.heap.size w w1) := hb1
  clear hb hb1 q6 q7
  go_wp2
  go_ret
  exact ⟨by go_num, HB1.out⟩

set_option maxRecDepth 100000 in
set_option maxHeartbeats 4000000 in
theorem tdcost_any (x lo K : Nat) (d : Value) (last : Bool) (is : List It) (hok : ∀ i ∈ is, i.ok) (sa : Option Addr) (sc g0 g1 f0 f1 T R0 R1 Rb nl nd vn : Nat) (L0 L1 Lc : Nat → Int) (qs : List Cl) (oa oc ca : Nat) (ta : Option Addr) (tc : Nat) (w : World) (h : Bk w x lo K d last is sa sc g0 g1 f0 f1 T R0 R1 Rb nl nd vn L0 L1 Lc qs oa oc ca ta tc) (p : Int) (hm : (stps is ++ [eos]).length ≤ 1000000) :
    Calls Tryz.prog 76 #[.pointer (some ⟨x, 0, none⟩), .int .i64 p] w fun e w' => e = .returned (.int .i64 (3 + tct Lc vn qs + bct L0 nl L1 nd (stps is ++ [eos]))) ∧ Below w.heap.size w w' := by
  have hKw := h.x0.K_le
  have HB : Hid (∀ W, Below w.heap.size w W → Bk W x lo K d last is sa sc g0 g1 f0 f1 T R0 R1 Rb nl nd vn L0 L1 Lc qs oa oc ca ta tc) := fun W hW => h.mid (Mid.ofBelow (hW.mono hKw))
  have n0l := h.tg.t0.ls
  have n1l := h.tg.t1.ls
  have hs0 := tct_small h.tg
  have hs1 := bct_small h.tg.t0.cx h.tg.t1.cx hok hm
  have HC0 : Hid (∀ W, Below w.heap.size w W → Calls Tryz.prog 108 #[.pointer (some ⟨T, 0, none⟩)] W fun e w' => e = .returned (.int .i64 (tct Lc vn qs)) ∧ Below w.heap.size w w') := fun W hW => (tcost_any T lo K _ _ R0 R1 Rb nl nd vn L0 L1 Lc qs oa oc ca ta tc W (HB.out W hW).tg).mono (fun e w' hh => ⟨hh.1, hW.trans (hh.2.mono hW.size)⟩)
  have HC1 : Hid (∀ W, Below w.heap.size w W → Calls Tryz.prog 106 #[.pointer (some ⟨x, 0, none⟩), .agg #[.pointer (some ⟨R0, 0, none⟩), .pointer (some ⟨R1, 0, none⟩)]] W fun e w' => e = .returned (.int .i64 (bct L0 nl L1 nd (stps is ++ [eos]))) ∧ Below w.heap.size w w') := fun W hW => (bcost_any x R0 R1 lo K L0 nl L1 nd d last is sa sc g0 g1 f0 f1 T R0 R1 Rb nl nd vn L0 L1 Lc qs oa oc ca ta tc W (HB.out W hW) (HB.out W hW).tg.t0.cx (HB.out W hW).tg.t1.cx (by omega) (by omega) hok hm).mono (fun e w' hh => ⟨hh.1, hW.trans (hh.2.mono hW.size)⟩)
  have HX8 : Hid (∀ W, Below w.heap.size w W → W.cell? ⟨x, 8, none⟩ = some (.pointer (some ⟨T, 0, none⟩))) := fun W hW => (HB.out W hW).row.cell (i := 8) (by omega)
  have HT0 : Hid (∀ W, Below w.heap.size w W → W.cell? ⟨T, 0, none⟩ = some (.pointer (some ⟨R0, 0, none⟩))) := fun W hW => (HB.out W hW).tg.row.cell (i := 0) (by omega)
  have HT1 : Hid (∀ W, Below w.heap.size w W → W.cell? ⟨T, 0 + 1, none⟩ = some (.pointer (some ⟨R1, 0, none⟩))) := fun W hW => (HB.out W hW).tg.row.cell (i := 1) (by omega)
  generalize tct Lc vn qs = v0 at *
  generalize bct L0 nl L1 nd (stps is ++ [eos]) = v1 at *
  have s0 := hs0.1
  have s1 := hs0.2
  have s2 := hs1.1
  have s3 := hs1.2
  have tw1 : IntKind.i64.wrap (3 + v0) = 3 + v0 := wraps_i64 _ (by omega) (by omega)
  have tw2 : IntKind.i64.wrap (3 + v0 + v1) = 3 + v0 + v1 := wraps_i64 _ (by omega) (by omega)
  clear h hok hm hs0 hs1 hKw n0l n1l
  go_enter Tryz.func76, Tryz.ntmps76
  go_wp2_with fail
  refine wp_region_quiet (C := fun W => Below w.heap.size w W) (by kernel_rfl) (by kernel_rfl) (Below.refl _ _).drew ?_
  refine wpQuiet_step (fun K hK => ?_)
  (go_simp; refine ⟨_, fun wq hs => rfl, hK _ ?_⟩; clear hK K)
  refine wpQuiet_step (fun K hK => ?_)
  (go_simp; refine ⟨_, fun wq hs => rfl, hK _ ?_⟩; clear hK K)
  refine wpQuiet_step (fun K hK => ?_)
  (go_simp; refine ⟨_, fun wq hs => rfl, hK _ ?_⟩; clear hK K)
  refine wpQuiet_step (fun K hK => ?_)
  (refine q_load (by rfl) 64 _ rfl ⟨x, 8, none⟩ rfl (.pointer (some ⟨T, 0, none⟩)) (fun W hW => ld64 (HX8.out W hW)) (hK _ ?_); clear hK K)
  refine wpQuiet_step (fun K hK => ?_)
  (refine q_call1 (by rfl) 108 cf108 _ _ rfl (.pointer (some ⟨T, 0, none⟩)) rfl (.int .i64 v0) HC0.out (hK _ ?_); clear hK K)
  refine wpQuiet_step (fun K hK => ?_)
  (go_simp; refine ⟨_, fun wq hs => rfl, hK _ ?_⟩; clear hK K)
  refine wpQuiet_step (fun K hK => ?_)
  (go_simp; refine ⟨_, fun wq hs => rfl, hK _ ?_⟩; clear hK K)
  refine wpQuiet_step (fun K hK => ?_)
  (go_simp; refine ⟨_, fun wq hs => rfl, hK _ ?_⟩; clear hK K)
  refine wpQuiet_step (fun K hK => ?_)
  (go_simp; refine ⟨_, fun wq hs => rfl, hK _ ?_⟩; clear hK K)
  refine wpQuiet_step (fun K hK => ?_)
  (go_simp; refine ⟨_, fun wq hs => rfl, hK _ ?_⟩; clear hK K)
  refine wpQuiet_step (fun K hK => ?_)
  (refine q_load (by rfl) 64 _ rfl ⟨x, 8, none⟩ rfl (.pointer (some ⟨T, 0, none⟩)) (fun W hW => ld64 (HX8.out W hW)) (hK _ ?_); clear hK K)
  refine wpQuiet_step (fun K hK => ?_)
  (go_simp; refine ⟨_, fun wq hs => rfl, hK _ ?_⟩; clear hK K)
  refine wpQuiet_step (fun K hK => ?_)
  (go_simp; refine ⟨_, fun wq hs => rfl, hK _ ?_⟩; clear hK K)
  refine wpQuiet_step (fun K hK => ?_)
  (refine q_load (by rfl) 63 _ rfl ⟨T, 0, none⟩ rfl (.agg #[.pointer (some ⟨R0, 0, none⟩), .pointer (some ⟨R1, 0, none⟩)]) (fun W hW => ld63 (HT0.out W hW) (HT1.out W hW)) (hK _ ?_); clear hK K)
  refine wpQuiet_step (fun K hK => ?_)
  (refine q_call2 (by rfl) 106 cf106 _ _ _ rfl (.pointer (some ⟨x, 0, none⟩)) (.agg #[.pointer (some ⟨R0, 0, none⟩), .pointer (some ⟨R1, 0, none⟩)]) rfl rfl (.int .i64 v1) HC1.out (hK _ ?_); clear hK K)
  refine wpQuiet_step (fun K hK => ?_)
  (go_simp; refine ⟨_, fun wq hs => rfl, hK _ ?_⟩; clear hK K)
  refine wpQuiet_step (fun K hK => ?_)
  (go_simp; refine ⟨_, fun wq hs => rfl, hK _ ?_⟩; clear hK K)
  refine wpQuiet_nil ?_
  intro w1 hB1
  have HB1 : Hid (Below w.heap.size w w1) := hB1
  clear hB1
  go_wp2
  go_ret
  exact ⟨rfl, HB1.out⟩

end Go.Proofs.YtiahbicodlgmhaaGreatDoor.Z
