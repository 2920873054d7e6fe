/- longest. -/
import Derived.Test.YthaibdflehnbbaaWKeep
namespace Go.Proofs.Ythaibdflehnbbaa
open Go.RowKit Go.Maps Go.ChangeShapes

theorem wpList_max {ops : Array Oper} {rest : List Oper} {op : Oper} {a : Act} {w : World} {Q : Exit → Act → World → Prop} (hgd : op.guard = none) (tt : TypeId) (x y : Operand) (ho : op.op = .call { callee := .builtin .max, args := #[x, y], argTypes := #[tt, tt] })
    (p q : Int) (hx : a.eval x = .int .i64 p) (hy : a.eval y = .int .i64 q) (r : Int) (hr : r = max p q)
    (hk : wpList Try.prog ops Q rest (a.put op.dst (.int .i64 r)) w) : wpList Try.prog ops Q (op :: rest) a w := by
  refine wpList_plain hgd fun K hK => ?_
  have hk' := hK _ _ hk
  subst hr
  unfold Oper.wp
  have hm : (Builtin.max2 (.int .i64 p) (.int .i64 q)).run Try.prog w = .ok (.int .i64 (max p q)) w := by
    by_cases h : q < p
    · rw [show max p q = p by omega]
      simp [Builtin.max2, go_sem]; omega
    · rw [show max p q = q by omega]
      simp [Builtin.max2, go_sem]; omega
  simp [execOp, ho, resolve, invoke, builtin, hx, hy, Builtin.max_, hm, Result.andThen]
  exact hk'

/-- A slice of numbers of the call's own, laid open. -/
theorem ints_form {w : World} {base : Nat} {v : Value} {zs : List Int} (h : w.ownsInts base 3 .i64 v zs) : ∃ ao c, v = .slice ao zs.length c ∧ zs.length ≤ c ∧ ((ao = none ∧ c = 0) ∨ ∃ g, ao = some ⟨g, 0, none⟩) ∧
    ∀ j, j < zs.length → ∃ g, ao = some ⟨g, 0, none⟩ ∧ w.cell? ⟨g, j, none⟩ = some (.int .i64 (zs.getD j 0)) := by
  have h1 := h.1
  rcases h.1.2 with ⟨rfl, h0⟩ | ⟨g, cap, cur, rfl, hg, hh, hle, hrest⟩
  · exact ⟨none, 0, by rw [h0], by omega, .inl ⟨rfl, rfl⟩, fun j hj => by omega⟩
  · refine ⟨_, cap, rfl, hle, .inr ⟨g, rfl⟩, fun j hj => ⟨g, rfl, ?_⟩⟩
    rw [h1.cellAt j (by omega)]
    simp [List.getD, List.getElem?_eq_getElem hj]

theorem wpList_front98 {ops : Array Oper} {rest : List Oper} {op : Oper} {a : Act} {w : World} {Q : Exit → Act → World → Prop} (hgd : op.guard = none) (x hi : Operand) (ho : op.op = .slice 98 x none (some hi) none)
    (ao : Option Addr) (n c m : Nat) (hm : m ≤ n) (hn : n ≤ c) (hao : (ao = none ∧ c = 0) ∨ ∃ g, ao = some ⟨g, 0, none⟩) (hx : a.eval x = .slice ao n c) (hhi : a.eval hi = .int .i64 (m : Int))
    (hk : wpList Try.prog ops Q rest (a.put op.dst (.slice ao m c)) w) : wpList Try.prog ops Q (op :: rest) a w := by
  refine wpList_plain hgd fun K hK => ?_
  unfold Oper.wp
  have hz : ∀ w, (sizeOf 3).run Try.prog w = .ok 1 w := fun w => by simp [go_sem]
  have e1 : 0 ≤ (m : Int) ∧ (m : Int) ≤ (c : Int) := by omega
  have e2 : (0 : Int) ≤ (0 : Int) ∧ (0 : Int) ≤ (m : Int) := by omega
  have e0 : (if c = 0 then ao else Option.map (fun x => x.add 0) ao) = ao := by
    rcases hao with ⟨rfl, rfl⟩ | ⟨g, rfl⟩
    · rfl
    · split
      · rfl
      · rw [Option.map_some, Addr.add_lit]
  have hrun : (Instr.slice 98 (.slice ao n c) none (some (.int .i64 (m : Int))) none).run Try.prog w = .ok (.slice ao m c) w := by
    unfold Instr.slice Instr.sliceBounds
    simp only [run_underlying Try.underlying98, Instr.sliceBound, asIntOf, hz, Result.andThen_ok, Sem.run_bind, Sem.run_pure, if_pos e1, Option.isSome_none, Int.toNat_natCast, Nat.mul_one, Nat.sub_zero]
    simp only [e0]
  have hat : (Instr.sliceAt 98 (.slice ao n c) none (some (.int .i64 (m : Int))) none).run Try.prog w = .ok (.slice ao m c) w := by
    unfold Instr.sliceAt
    simp only [Sem.run_bind, run_underlying Try.underlying98, Result.andThen_ok]
    exact hrun
  simp only [execOp, ho, hx, hhi, Sem.run_bind, Option.map_none, Option.map_some, hat, Result.andThen_ok, Sem.run_pure]
  exact hK _ _ hk

/-- A copy of n bytes from f on makes the target's front; none: n is 0. -/
def Lg (bs ts : List Int) (f n : Nat) : Prop := n = 0 ∨ (16 ≤ n ∧ f + n ≤ bs.length ∧ n ≤ ts.length ∧ (bs.drop f).take n = ts.take n)

theorem Lg.lcp (bs ts : List Int) (f : Nat) (h : f ≤ bs.length) (h16 : 16 ≤ lcp (bs.drop f) ts) : Lg bs ts f (lcp (bs.drop f) ts) := by
  have h1 := lcp_le (bs.drop f) ts
  rw [List.length_drop] at h1
  exact .inr ⟨h16, by omega, h1.2, lcp_same _ _⟩

set_option maxRecDepth 100000 in
set_option maxHeartbeats 2000000 in
theorem longest_any (Mb base k : Nat) (D : DataW Unit) (bo : Option Addr) (N C : Nat) (bs : List Int) (tg : Option Addr) (M E : Nat) (ts : List Int) (s ef : Int) (w : World) (hG : w.ownsGroups Try.prog 91 base 3 .i64 Mb k D) (hR : Rg N D) (hb : Rd w bo N C bs) (ht : Rd w tg M E ts)
    (hs0 : 0 ≤ s) (hs1 : s < 4294967296) (hk : k ≤ 1000000) (hN : N ≤ 1000000) (hM : M ≤ 1000000) :
    Calls Try.prog 57 #[.map (some Mb), .slice bo N C, .slice tg M E, .int .u32 s, .int .i64 ef] w fun e w' => ∃ f n : Nat, e = .returned (.tuple #[.int .i64 f, .int .i64 n]) ∧ Lg bs ts f n ∧ Below w.heap.size w w' := by
  have hkey := keyOf_int_mk (P := Try.prog) (k := 91) Try.underlying91 (u32_wf s hs0 hs1)
  have hbl := hb.len
  have htl := ht.len
  have HB : Hid (Rd w bo N C bs) := hb
  have HT : Hid (Rd w tg M E ts) := ht
  have HR : Hid (Rg N D) := hR
  obtain ⟨mx, hmx⟩ : ∃ mx : Nat, (mx : Int) = max ef 0 := ⟨(max ef 0).toNat, by omega⟩
  have HMX : Hid ((mx : Int) = max ef 0) := hmx
  clear hb ht hR hmx
  go_enter Try.func57, Try.ntmps57
  go_wp2_with (first
    | (at_lookup; refine wpList_lookup_groups _ rfl _ _ 85 rfl 91 98 3 .i64 Try.law91 Try.underlying85 (Try.zero98 _) base Mb k D rfl hG (by unfold maxLen; omega) _ _ rfl hkey ?_; intro v zs hat hoi hzl hback; have hz := HR.out.at s hat hoi; obtain ⟨ao, cz, rfl, hcz, hao, hcells⟩ := ints_form hoi; clear hback hat; obtain ⟨z, hzz⟩ : ∃ z, z = zs.length := ⟨_, rfl⟩; have HZZ : Hid (z = zs.length) := hzz; rw [← hzz] at hcz hcells ⊢; obtain ⟨m, hm⟩ : ∃ m, m = min z mx := ⟨_, rfl⟩; have HM1 : Hid ((m : Int) = min (z : Int) (mx : Int)) := by { show _ = _; omega }; have hmz : m ≤ z := by { omega }; have hzk : z ≤ 1000000 := by { omega }; have HC : Hid (∀ j, j < z → ∃ g, ao = some ⟨g, 0, none⟩ ∧ w.cell? ⟨g, j, none⟩ = some (.int .i64 (zs.getD j 0))) := hcells; clear hzz hm hcells hoi hzl hkey hG)
    | (refine wpList_max rfl 3 _ _ rfl ef 0 rfl rfl mx HMX.out ?_)
    | (refine wpList_min rfl 3 _ _ rfl z mx rfl rfl m HM1.out ?_)
    | (refine wpList_front98 rfl _ _ rfl ao z cz m hmz hcz hao rfl rfl ?_))
  have HZ : Hid (∀ x ∈ zs, 0 ≤ x ∧ x + 16 ≤ N) := hz
  clear hz
  go_loopw [10, 11, 27] (fun fv nv iv wr => ∃ f n i : Nat, i ≤ m ∧ fv = .int .i64 f ∧ nv = .int .i64 n ∧ iv = .int .i64 i ∧ n ≤ M ∧ Hid (Lg bs ts f n) ∧ Hid (Below w.heap.size w wr)) (fun _ _ iv _ => m - (intOf iv).toNat)
  case atStart => exact ⟨0, 0, 0, by omega, rfl, rfl, rfl, by omega, .inl rfl, Below.refl _ _⟩
  case round =>
    obtain ⟨f, n, i, hi, rfl, rfl, rfl, hnM, hL, hbe⟩ := hrel
    by_cases hlt : i < m
    · obtain ⟨g, rfl, hcell⟩ := HC.out i (by omega)
      have hci : wr.cell? ⟨g, i, none⟩ = some (.int .i64 (zs.getD i 0)) := by rw [hbe.out.cell (World.block_lt_of_cell? w _ hcell)]; exact hcell
      have hpr := HZ.out (zs.getD i 0) (by
        have := HZZ.out
        rw [List.getD, List.getElem?_eq_getElem (by omega : i < zs.length)]
        simp)
      obtain ⟨P, hP⟩ : ∃ P : Nat, zs.getD i 0 = P := ⟨(zs.getD i 0).toNat, by omega⟩
      rw [hP] at hci hpr
      have hPN : P + 16 ≤ N := by omega
      have z1 : (i : Int) < m := by omega
      clear hcell hP hpr
      by_cases hnm : n = M
      · subst hnm
        go_wp2
        go_ret2
        exact ⟨f, n, rfl, hL.out, hbe.out⟩
      · have z2 : ((n : Int) == (M : Int)) = false := by simp; omega
        have hnlt : n < M := by omega
        have B2 : Hid (Below w.heap.size w wr.drew) := hbe.out.trans ((drew_keep wr).mono hbe.out.size)
        by_cases hge : N ≤ P + n
        · have y1 : (N : Int) ≤ (P : Int) + n := by omega
          clear hbe
          go_wp2
          go_region
          clear hci
          go_wp2
          go_roundw
          case rel => exact ⟨f, n, i + 1, by omega, rfl, rfl, by go_num, by omega, hL, B2⟩
          case measure => simp [intOf]; omega
        · have y1 : (P : Int) + n < N := by omega
          have y2 : P + n < N := by omega
          have rb := HB.out.keep hbe.out
          have rt := HT.out.keep hbe.out
          obtain ⟨B1, o1, e1, hc1⟩ := rb.plain (by omega)
          obtain ⟨B3, o3, e3, hc3⟩ := rt.plain (by omega)
          have d1 := hc1 (P + n) (by omega)
          have d3 := hc3 n (by omega)
          have dd : decide ((N : Int) ≤ (P : Int) + n) = false := decide_eq_false (by omega)
          by_cases heq : bs.getD (P + n) 0 = ts.getD n 0
          · rw [heq] at d1
            have HRB : Hid (Rd wr.drew bo N C bs) := rb.keep (drew_keep wr)
            have HRT : Hid (Rd wr.drew tg M E ts) := rt.keep (drew_keep wr)
            generalize ts.getD n 0 = x at *
            clear hc1 hc3 heq rb rt
            have hPN2 : P + (N - P) ≤ N := by omega
            by_cases hup : 16 ≤ lcp (bs.drop P) ts ∧ n < lcp (bs.drop P) ts
            · have LU : Hid (Lg bs ts P (lcp (bs.drop P) ts)) := Lg.lcp bs ts P (by omega) hup.1
              have hq2 : lcp (bs.drop P) ts ≤ M := by have := lcp_le (bs.drop P) ts; omega
              obtain ⟨q, hq⟩ : ∃ q, q = lcp (bs.drop P) ts := ⟨_, rfl⟩
              have HQ : Hid (q = lcp (bs.drop P) ts) := hq
              rw [← hq] at hup hq2 LU
              have t1 : (16 : Int) ≤ q := by omega
              have t2 : (n : Int) < q := by omega
              clear hq hup hbe
              subst e1 e3
              go_wp2
              go_region
              go_wp2_with (first
                | (refine wpList_sub rfl _ _ _ rfl HRB.out P (N - P) hPN2 rfl (.inl rfl) (.inr ⟨rfl, by omega⟩) ?_; intro ao2 c2 hr2 _)
                | (go_at_call 41; refine (sameFront_any ao2 (N - P) c2 _ _ M E ts _ (hr2.rest hbl) HRT.out (by omega) hM).mono ?_; rintro e w2 ⟨rfl, hB2⟩; rw [← HQ.out]))
              have B4 : Hid (Below w.heap.size w w2) := B2.out.trans (hB2.mono B2.out.size)
              clear B2 hB2 hci d1 d3 hr2
              go_roundw
              case rel => exact ⟨P, q, i + 1, by omega, rfl, rfl, by go_num, hq2, LU, B4⟩
              case measure => simp [intOf]; omega
            · have hq2 : lcp (bs.drop P) ts ≤ M := by have := lcp_le (bs.drop P) ts; omega
              obtain ⟨q, hq⟩ : ∃ q, q = lcp (bs.drop P) ts := ⟨_, rfl⟩
              have HQ : Hid (q = lcp (bs.drop P) ts) := hq
              rw [← hq] at hup hq2
              by_cases h16 : 16 ≤ q
              · have t1 : (16 : Int) ≤ q := by omega
                have t2 : (q : Int) ≤ n := by omega
                have t3 : decide ((n : Int) < (q : Int)) = false := decide_eq_false (by omega)
                clear hq hbe
                subst e1 e3
                go_wp2
                go_region
                go_wp2_with (first
                  | (refine wpList_sub rfl _ _ _ rfl HRB.out P (N - P) hPN2 rfl (.inl rfl) (.inr ⟨rfl, by omega⟩) ?_; intro ao2 c2 hr2 _)
                  | (go_at_call 41; refine (sameFront_any ao2 (N - P) c2 _ _ M E ts _ (hr2.rest hbl) HRT.out (by omega) hM).mono ?_; rintro e w2 ⟨rfl, hB2⟩; rw [← HQ.out]))
                have B4 : Hid (Below w.heap.size w w2) := B2.out.trans (hB2.mono B2.out.size)
                clear B2 hB2 hci d1 d3 hr2
                go_roundw
                case rel => exact ⟨f, n, i + 1, by omega, rfl, rfl, by go_num, by omega, hL, B4⟩
                case measure => simp [intOf]; omega
              · have t1 : (q : Int) < 16 := by omega
                have t3 : decide ((16 : Int) ≤ (q : Int)) = false := decide_eq_false (by omega)
                clear hq hbe
                subst e1 e3
                go_wp2
                go_region
                go_wp2_with (first
                  | (refine wpList_sub rfl _ _ _ rfl HRB.out P (N - P) hPN2 rfl (.inl rfl) (.inr ⟨rfl, by omega⟩) ?_; intro ao2 c2 hr2 _)
                  | (go_at_call 41; refine (sameFront_any ao2 (N - P) c2 _ _ M E ts _ (hr2.rest hbl) HRT.out (by omega) hM).mono ?_; rintro e w2 ⟨rfl, hB2⟩; rw [← HQ.out]))
                have B4 : Hid (Below w.heap.size w w2) := B2.out.trans (hB2.mono B2.out.size)
                clear B2 hB2 hci d1 d3 hr2
                go_roundw
                case rel => exact ⟨f, n, i + 1, by omega, rfl, rfl, by go_num, by omega, hL, B4⟩
                case measure => simp [intOf]; omega
          · have qe : (bs.getD (P + n) 0 == ts.getD n 0) = false := by simp only [beq_eq_false_iff_ne]; exact heq
            have qn : (bs.getD (P + n) 0 != ts.getD n 0) = true := by simp only [bne_iff_ne]; exact heq
            generalize bs.getD (P + n) 0 = x at *
            generalize ts.getD n 0 = y at *
            clear hc1 hc3 rb rt hbe
            subst e1 e3
            go_wp2
            go_region
            clear hci d1 d3
            go_wp2
            go_roundw
            case rel => exact ⟨f, n, i + 1, by omega, rfl, rfl, by go_num, by omega, hL, B2⟩
            case measure => simp [intOf]; omega
    · obtain rfl : i = m := by omega
      go_wp2
      go_ret2
      exact ⟨f, n, rfl, hL.out, hbe.out⟩

end Go.Proofs.Ythaibdflehnbbaa
