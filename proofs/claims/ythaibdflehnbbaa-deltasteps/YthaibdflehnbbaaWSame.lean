/- sameFront, sameBack, worth. -/
import Derived.Test.YthaibdflehnbbaaDm
import Derived.Test.YthaibdflehnbbaaHelp
namespace Go.Proofs.Ythaibdflehnbbaa
open Go.RowKit

theorem wpList_min {ops : Array Oper} {rest : List Oper} {op : Oper} {a : Act} {w : World} {Q : Exit → Act → World → Prop} (hgd : op.guard = none) (tt : TypeId) (x y : Operand) (ho : op.op = .call { callee := .builtin .min, args := #[x, y], argTypes := #[tt, tt] })
    (p q : Int) (hx : a.eval x = .int .i64 p) (hy : a.eval y = .int .i64 q) (r : Int) (hr : r = min p q)
    (hk : wpList Try.prog ops Q rest (a.put op.dst (.int .i64 r)) w) : wpList Try.prog ops Q (op :: rest) a w := by
  refine wpList_plain hgd fun K hK => ?_
  have hk' := hK _ _ hk
  subst hr
  unfold Oper.wp
  have hm : (Builtin.min2 (.int .i64 p) (.int .i64 q)).run Try.prog w = .ok (.int .i64 (min p q)) w := by
    by_cases h : p < q
    · rw [show min p q = p by omega]
      simp [Builtin.min2, go_sem]; omega
    · rw [show min p q = q by omega]
      simp [Builtin.min2, go_sem]; omega
  simp [execOp, ho, resolve, invoke, builtin, hx, hy, Builtin.min_, hm, Result.andThen]
  exact hk'

theorem drew_keep (w : World) : Below w.heap.size w w.drew := ⟨rfl, rfl, rfl, Nat.le_refl _, fun _ _ => rfl⟩

set_option maxRecDepth 100000 in
set_option maxHeartbeats 1000000 in
theorem sameFront_any (ao : Option Addr) (N c : Nat) (a : List Int) (bo : Option Addr) (M d : Nat) (b : List Int) (w : World) (ha : Rd w ao N c a) (hb : Rd w bo M d b) (hN : N ≤ 1000000) (hM : M ≤ 1000000) :
    Calls Try.prog 41 #[.slice ao N c, .slice bo M d] w fun e w' => e = .returned (.int .i64 (lcp a b : Nat)) ∧ Below w.heap.size w w' := by
  have hal := ha.len
  have hbl := hb.len
  have HA : Hid (Rd w ao N c a) := ha
  have HB : Hid (Rd w bo M d b) := hb
  obtain ⟨m, hm⟩ : ∃ m, m = min N M := ⟨_, rfl⟩
  have HM : Hid (m = min N M) := hm
  have HM2 : Hid ((m : Int) = min (N : Int) (M : Int)) := by show _ = _; omega
  have hmN : m ≤ N := by omega
  have hmM : m ≤ M := by omega
  clear ha hb hm
  go_enter Try.func41, Try.ntmps41
  go_wp2_with (first | (refine wpList_min rfl 3 _ _ rfl N M rfl rfl m HM2.out ?_))
  go_loopw [5] (fun v wr => ∃ k : Nat, k ≤ m ∧ v = .int .i64 k ∧ Hid (∀ i, i < k → a.getD i 0 = b.getD i 0) ∧ Hid (Below w.heap.size w wr)) (fun v _ => m - (intOf v).toNat)
  case atStart => exact ⟨0, by omega, rfl, (fun i hi => by omega), Below.refl _ _⟩
  case round =>
    obtain ⟨k, hk, rfl, hall, hbw⟩ := hrel
    by_cases hlt : k < m
    · obtain ⟨B1, o1, rfl, hc1⟩ := (HA.out.keep hbw.out).plain (by omega)
      obtain ⟨B2, o2, rfl, hc2⟩ := (HB.out.keep hbw.out).plain (by omega)
      have d0 := hc1 k (by omega)
      have d1 := hc2 k (by omega)
      have q0 : k < N := by omega
      have q1 : k < M := by omega
      by_cases he : a.getD k 0 = b.getD k 0
      · have HX : Hid (∀ i, i < k + 1 → a.getD i 0 = b.getD i 0) := fun i hi => by
          rcases Nat.lt_or_ge i k with h' | h'
          · exact hall.out i h'
          · obtain rfl : i = k := by omega
            exact he
        rw [he] at d0
        generalize b.getD k 0 = x at *
        clear hc1 hc2 hall he
        go_wp2
        go_region
        have B2 : Hid (Below w.heap.size w wr.drew) := hbw.out.trans ((drew_keep wr).mono hbw.out.size)
        clear hbw d0 d1
        go_wp2
        go_roundw
        case rel => exact ⟨k + 1, by omega, by go_num, HX, B2⟩
        case measure => simp [intOf]; omega
      · have HS : Hid (lcp a b = k) := lcp_is k a b (by omega) (by omega) hall.out (.inr (.inr he))
        have qe : (a.getD k 0 == b.getD k 0) = false := by simp only [beq_eq_false_iff_ne]; exact he
        generalize a.getD k 0 = x at *
        generalize b.getD k 0 = y at *
        clear hc1 hc2 hall he
        go_wp2
        go_region
        have B2 : Hid (Below w.heap.size w wr.drew) := hbw.out.trans ((drew_keep wr).mono hbw.out.size)
        clear hbw d0 d1
        go_wp2
        go_ret
        rw [HS.out]
        exact ⟨rfl, B2.out⟩
    · obtain rfl : k = m := by omega
      have HS : Hid (lcp a b = k) := lcp_is k a b (by omega) (by omega) hall.out (by have := HM.out; omega)
      clear hlt hall
      go_wp2
      go_region
      have B2 : Hid (Below w.heap.size w wr.drew) := hbw.out.trans ((drew_keep wr).mono hbw.out.size)
      clear hbw
      go_wp2
      go_ret
      rw [HS.out]
      exact ⟨rfl, B2.out⟩

set_option maxRecDepth 100000 in
set_option maxHeartbeats 1000000 in
theorem sameBack_any (ao : Option Addr) (N c : Nat) (a : List Int) (bo : Option Addr) (M d : Nat) (b : List Int) (w : World) (ha : Rd w ao N c a) (hb : Rd w bo M d b) (hN : N ≤ 1000000) (hM : M ≤ 1000000) :
    Calls Try.prog 42 #[.slice ao N c, .slice bo M d] w fun e w' => e = .returned (.int .i64 (lcs a b : Nat)) ∧ Below w.heap.size w w' := by
  have hal := ha.len
  have hbl := hb.len
  have HA : Hid (Rd w ao N c a) := ha
  have HB : Hid (Rd w bo M d b) := hb
  obtain ⟨m, hm⟩ : ∃ m, m = min N M := ⟨_, rfl⟩
  have HM : Hid (m = min N M) := hm
  have HM2 : Hid ((m : Int) = min (N : Int) (M : Int)) := by show _ = _; omega
  have hmN : m ≤ N := by omega
  have hmM : m ≤ M := by omega
  clear ha hb hm
  go_enter Try.func42, Try.ntmps42
  go_wp2_with (first | (refine wpList_min rfl 3 _ _ rfl N M rfl rfl m HM2.out ?_))
  go_loopw [5] (fun v wr => ∃ k : Nat, k ≤ m ∧ v = .int .i64 k ∧ Hid (∀ i, i < k → a.getD (N - 1 - i) 0 = b.getD (M - 1 - i) 0) ∧ Hid (Below w.heap.size w wr)) (fun v _ => m - (intOf v).toNat)
  case atStart => exact ⟨0, by omega, rfl, (fun i hi => by omega), Below.refl _ _⟩
  case round =>
    obtain ⟨k, hk, rfl, hall, hbw⟩ := hrel
    by_cases hlt : k < m
    · obtain ⟨B1, o1, rfl, hc1⟩ := (HA.out.keep hbw.out).plain (by omega)
      obtain ⟨B2, o2, rfl, hc2⟩ := (HB.out.keep hbw.out).plain (by omega)
      have d0 := hc1 (N - 1 - k) (by omega)
      have d1 := hc2 (M - 1 - k) (by omega)
      obtain ⟨p, hp⟩ : ∃ p, p = N - 1 - k := ⟨_, rfl⟩
      obtain ⟨q, hq⟩ : ∃ q, q = M - 1 - k := ⟨_, rfl⟩
      have HP : Hid (p = N - 1 - k) := hp
      have HQ : Hid (q = M - 1 - k) := hq
      rw [← hp] at d0
      rw [← hq] at d1
      have i1 : (N : Int) - 1 - k = p := by omega
      have i2 : (M : Int) - 1 - k = q := by omega
      have q0 : p < N := by omega
      have q1 : q < M := by omega
      by_cases he : a.getD p 0 = b.getD q 0
      · have HX : Hid (∀ i, i < k + 1 → a.getD (N - 1 - i) 0 = b.getD (M - 1 - i) 0) := fun i hi => by
          rcases Nat.lt_or_ge i k with h' | h'
          · exact hall.out i h'
          · obtain rfl : i = k := by omega
            rw [← hp, ← hq]
            exact he
        rw [he] at d0
        generalize b.getD q 0 = x at *
        clear hc1 hc2 hall he hp hq
        go_wp2
        go_region
        have B2 : Hid (Below w.heap.size w wr.drew) := hbw.out.trans ((drew_keep wr).mono hbw.out.size)
        clear hbw d0 d1
        go_wp2
        go_roundw
        case rel => exact ⟨k + 1, by omega, by go_num, HX, B2⟩
        case measure => simp [intOf]; omega
      · have HS : Hid (lcs a b = k) := lcs_is k a b (by omega) (by omega) (by rw [hal, hbl]; exact hall.out) (.inr (.inr ⟨by omega, by omega, by rw [hal, hbl, ← hp, ← hq]; exact he⟩))
        have qe : (a.getD p 0 == b.getD q 0) = false := by simp only [beq_eq_false_iff_ne]; exact he
        generalize a.getD p 0 = x at *
        generalize b.getD q 0 = y at *
        clear hc1 hc2 hall he hp hq
        go_wp2
        go_region
        have B2 : Hid (Below w.heap.size w wr.drew) := hbw.out.trans ((drew_keep wr).mono hbw.out.size)
        clear hbw d0 d1
        go_wp2
        go_ret
        rw [HS.out]
        exact ⟨rfl, B2.out⟩
    · obtain rfl : k = m := by omega
      have HS : Hid (lcs a b = k) := lcs_is k a b (by omega) (by omega) (by rw [hal, hbl]; exact hall.out) (by have := HM.out; omega)
      clear hlt hall
      go_wp2
      go_region
      have B2 : Hid (Below w.heap.size w wr.drew) := hbw.out.trans ((drew_keep wr).mono hbw.out.size)
      clear hbw
      go_wp2
      go_ret
      rw [HS.out]
      exact ⟨rfl, B2.out⟩

theorem worth_any (n : Nat) (w : World) : Calls Try.prog 40 #[.int .i64 n] w fun e w' => e = .returned (.int .i64 (wth n : Nat)) ∧ w' = w := by
  by_cases h : n < 8
  · have HE : Hid (wth n = 0) := if_pos h
    have z : (n : Int) < 8 := by omega
    go_enter Try.func40, Try.ntmps40
    go_wp2
    go_ret
    rw [HE.out]
    exact ⟨rfl, rfl⟩
  · have HE : Hid (wth n = n) := if_neg h
    have z : ¬ (n : Int) < 8 := by omega
    go_enter Try.func40, Try.ntmps40
    go_wp2
    go_ret
    rw [HE.out]
    exact ⟨rfl, rfl⟩

end Go.Proofs.Ythaibdflehnbbaa
