/- row.alike. -/
import Derived.Test.YtmjcikomcnokkaaDoorWCom
namespace Go.Proofs.YtmjcikomcnokkaaDoor
open Go.RowKit

theorem Cm.uniq {x y : List Int} {c e : Nat} (h : Cm x y c) (g : Cm x y e) : c = e := by
  have one : ∀ {c e}, Cm x y c → Cm x y e → ¬ c < e := fun h g hlt => h.ne (by have := g.le; omega) (g.eq _ hlt)
  have := one h g
  have := one g h
  omega

theorem cm_ex (x y : List Int) : ∃ c, Cm x y c := by
  have key : ∀ m, m ≤ 40 → (∀ j, j < m → bt (hx x) j = bt (hx y) j) ∨ ∃ c, c < m ∧ (∀ j, j < c → bt (hx x) j = bt (hx y) j) ∧ bt (hx x) c ≠ bt (hx y) c := by
    intro m
    induction m with
    | zero => exact fun _ => .inl (fun j hj => by omega)
    | succ m ih =>
      intro hm
      rcases ih (by omega) with h | ⟨c, h1, h2, h3⟩
      · by_cases e : bt (hx x) m = bt (hx y) m
        · refine .inl (fun j hj => ?_)
          by_cases hj' : j = m
          · subst hj'; exact e
          · exact h j (by omega)
        · exact .inr ⟨m, by omega, h, e⟩
      · exact .inr ⟨c, by omega, h2, h3⟩
  rcases key 40 (Nat.le_refl _) with h | ⟨c, h1, h2, h3⟩
  · exact ⟨40, Nat.le_refl _, h, fun h => by omega⟩
  · exact ⟨c, by omega, h2, fun _ => h3⟩

theorem common_is (x y : List Int) (c : Nat) (hx0 : IsId x) (hy0 : IsId y) (hc : Cm x y c) (w : World) : Calls Tryd.prog 46 #[idv x, idv y] w fun e w' => e = .returned (.int .i64 c) ∧ Below w.heap.size w w' := by
  refine (common_any x y hx0 hy0 w).mono ?_
  rintro e w' ⟨c', rfl, hc', hb⟩
  obtain rfl := hc.uniq hc'
  exact ⟨rfl, hb⟩

theorem run_max2 (p q : Int) (w : World) : (Builtin.max2 (.int .i64 p) (.int .i64 q)).run Tryd.prog w = .ok (.int .i64 (max p q)) w := by
  by_cases h : q < p
  · rw [show max p q = p by omega]
    simp [Builtin.max2, go_sem]; omega
  · rw [show max p q = q by omega]
    simp [Builtin.max2, go_sem]; omega

theorem q_max {ops : Array Oper} {o : Oper} {a : Act} {C : World → Prop} {K : Act → Prop} {E : Prop} (hw : Region.wanted o (yielded ops a.tmps) = true) (x y : Operand) (ho : o.op = .call { callee := .builtin .max, args := #[x, y], argTypes := #[3, 3] }) (ht : o.type = 3) (p q : Int) (hx : a.eval x = .int .i64 p) (hy : a.eval y = .int .i64 q) (r : Int) (hr : r = max p q)
    (hk : K (a.put o.dst (.int .i64 r))) : if Region.wanted o (yielded ops a.tmps) = true then o.quiet Tryd.prog a C K else E := by
  rw [if_pos hw]
  refine ⟨.int .i64 r, fun w hC => ?_, hk⟩
  subst hr
  have hm := run_max2 p q w
  unfold Oper.quietAt
  simp [execOp, ho, ht, resolve, invoke, builtin, hx, hy, Builtin.max_, hm, Result.andThen, Oper.quietUpon]

theorem wpList_max {ops : Array Oper} {rest : List Oper} {op : Oper} {a : Act} {w : World} {Q : Exit → Act → World → Prop} (hgd : op.guard = none) (x y : Operand) (ho : op.op = .call { callee := .builtin .max, args := #[x, y], argTypes := #[3, 3] })
    (p q : Int) (hx : a.eval x = .int .i64 p) (hy : a.eval y = .int .i64 q) (ht : op.type = 3) (r : Int) (hr : r = max p q)
    (hk : wpList Tryd.prog ops Q rest (a.put op.dst (.int .i64 r)) w) : wpList Tryd.prog ops Q (op :: rest) a w := by
  refine wpList_plain hgd fun K hK => ?_
  have hk' := hK _ _ hk
  subst hr
  unfold Oper.wp
  have hm := run_max2 p q w
  simp [execOp, ho, resolve, invoke, builtin, hx, hy, ht, Builtin.max_, hm, Result.andThen]
  exact hk'

theorem run_min2 (p q : Int) (w : World) : (Builtin.min2 (.int .i64 p) (.int .i64 q)).run Tryd.prog w = .ok (.int .i64 (min p q)) w := by
  by_cases h : q < p
  · rw [show min p q = q by omega]
    simp [Builtin.min2, go_sem]; omega
  · rw [show min p q = p by omega]
    simp [Builtin.min2, go_sem]; omega

theorem wpList_min {ops : Array Oper} {rest : List Oper} {op : Oper} {a : Act} {w : World} {Q : Exit → Act → World → Prop} (hgd : op.guard = none) (x y : Operand) (ho : op.op = .call { callee := .builtin .min, args := #[x, y], argTypes := #[3, 3] })
    (p q : Int) (hx : a.eval x = .int .i64 p) (hy : a.eval y = .int .i64 q) (ht : op.type = 3) (r : Int) (hr : r = min p q)
    (hk : wpList Tryd.prog ops Q rest (a.put op.dst (.int .i64 r)) w) : wpList Tryd.prog ops Q (op :: rest) a w := by
  refine wpList_plain hgd fun K hK => ?_
  have hk' := hK _ _ hk
  subst hr
  unfold Oper.wp
  have hm := run_min2 p q w
  simp [execOp, ho, resolve, invoke, builtin, hx, hy, ht, Builtin.min_, hm, Result.andThen]
  exact hk'

/-- What stands in the k-th name's place, from both sides. -/
theorem al_of {r : Array (List Int)} {k n a c1 c2 : Nat} (hn : r.size = n) (hk : k < n) (h1 : 0 < k → Cm r[k]! r[k - 1]! c1) (h2 : k + 1 < n → Cm r[k]! r[k + 1]! c2) (ha : a = max (if 0 < k then c1 else 0) (if k + 1 < n then c2 else 0)) : Al r k a := by
  constructor
  · intro q hq hqk
    rcases hqk with e | e
    · have hk0 : 0 < k := by omega
      obtain rfl : q = k - 1 := by omega
      rw [if_pos hk0] at ha
      exact ⟨c1, h1 hk0, by omega⟩
    · subst e
      have hk1 : k + 1 < n := by omega
      rw [if_pos hk1] at ha
      exact ⟨c2, h2 hk1, by omega⟩
  · by_cases hk0 : 0 < k <;> by_cases hk1 : k + 1 < n
    · rw [if_pos hk0, if_pos hk1] at ha
      by_cases hc : c1 ≤ c2
      · exact .inr ⟨k + 1, by omega, .inr rfl, by rw [show a = c2 by omega]; exact h2 hk1⟩
      · exact .inr ⟨k - 1, by omega, .inl (by omega), by rw [show a = c1 by omega]; exact h1 hk0⟩
    · rw [if_pos hk0, if_neg hk1] at ha
      exact .inr ⟨k - 1, by omega, .inl (by omega), by rw [show a = c1 by omega]; exact h1 hk0⟩
    · rw [if_neg hk0, if_pos hk1] at ha
      exact .inr ⟨k + 1, by omega, .inr rfl, by rw [show a = c2 by omega]; exact h2 hk1⟩
    · rw [if_neg hk0, if_neg hk1] at ha
      exact .inl (by omega)

set_option maxRecDepth 100000 in
set_option maxHeartbeats 2000000 in
theorem alike_any (b N c n : Nat) (r : Array (List Int)) (w : World) (h : Rw w b N r) (hn : r.size = n) (k : Nat) (hk : k < n) (hsz : n < 100000) :
    Calls Tryd.prog 36 #[.slice (some ⟨b, 0, none⟩) n c, .int .i64 k] w fun e w' => ∃ a : Nat, e = .returned (.int .i64 a) ∧ Al r k a ∧ Below w.heap.size w w' := by
  obtain ⟨c1, hc1⟩ := cm_ex r[k]! r[k - 1]!
  obtain ⟨c2, hc2⟩ := cm_ex r[k]! r[k + 1]!
  have HA : Hid (∀ a, a = max (if 0 < k then c1 else 0) (if k + 1 < n then c2 else 0) → Al r k a) := fun a ha => al_of hn hk (fun _ => hc1) (fun _ => hc2) ha
  have HW : Hid (∀ W, Below w.heap.size w W → (loadVar 23 ⟨b, k * 20, none⟩).run Tryd.prog W = .ok (idv r[k]!) W ∧ (0 < k → (loadVar 23 ⟨b, (k - 1) * 20, none⟩).run Tryd.prog W = .ok (idv r[k - 1]!) W ∧ Calls Tryd.prog 46 #[idv r[k]!, idv r[k - 1]!] W (fun e w' => e = .returned (.int .i64 c1) ∧ Below w.heap.size w w')) ∧ (k + 1 < n → (loadVar 23 ⟨b, (k + 1) * 20, none⟩).run Tryd.prog W = .ok (idv r[k + 1]!) W ∧ Calls Tryd.prog 46 #[idv r[k]!, idv r[k + 1]!] W (fun e w' => e = .returned (.int .i64 c2) ∧ Below w.heap.size w w'))) := fun W hW =>
    ⟨(h.keep hW).load k (by omega), fun h0 => ⟨(h.keep hW).load (k - 1) (by omega), (common_is _ _ c1 (h.ids k (by omega)) (h.ids (k - 1) (by omega)) hc1 W).mono fun e w' ⟨g1, g2⟩ => ⟨g1, hW.trans (g2.mono hW.size)⟩⟩, fun h0 => ⟨(h.keep hW).load (k + 1) (by omega), (common_is _ _ c2 (h.ids k (by omega)) (h.ids (k + 1) (by omega)) hc2 W).mono fun e w' ⟨g1, g2⟩ => ⟨g1, hW.trans (g2.mono hW.size)⟩⟩⟩
  have c46 : Hid (∀ vs w, (callFunc 46 vs).run Tryd.prog w = .ok (.enter 46 vs) w) := fun vs w => by simp [go_sem]
  have hle1 := hc1.le
  have hle2 := hc2.le
  generalize r[k]! = x at HW
  generalize r[k - 1]! = y1 at HW
  generalize r[k + 1]! = y2 at HW
  have HK : Hid (k < n) := hk
  have hwk : IntKind.i64.wrap ((k : Int) + 1) = (k : Int) + 1 := by rw [IntKind.wrap_i64]; omega
  have hkn : (k : Int) < (n : Int) := by omega
  clear h hn hc1 hc2
  by_cases hk0 : 0 < k
  · have HK0 : Hid (0 < k) := hk0
    obtain ⟨p, hp⟩ : ∃ p, k - 1 = p := ⟨_, rfl⟩
    rw [hp] at HW
    have q0 : (0 : Int) < (k : Int) := by omega
    have hsub : IntKind.i64.wrap ((k : Int) - 1) = (p : Int) := by rw [IntKind.wrap_i64]; omega
    have HP : Hid (p < n) := by show p < n; omega
    clear hp
    by_cases hk1 : k + 1 < n
    · have HK1 : Hid (k + 1 < n) := hk1
      have HR : Hid (∀ a, a = max c1 c2 → Al r k a) := fun a ha => HA.out a (by rw [if_pos hk0, if_pos hk1]; exact ha)
      obtain ⟨s, hs⟩ : ∃ s, k + 1 = s := ⟨_, rfl⟩
      rw [hs] at HW
      have hws : IntKind.i64.wrap ((k : Int) + 1) = (s : Int) := by rw [hwk]; omega
      have q1 : (s : Int) < (n : Int) := by omega
      have HS : Hid (s < n) := by show s < n; omega
      rw [hs] at HK1
      clear hs hwk HA hk0 hk1
      go_enter Tryd.func36, Tryd.ntmps36
      go_wp2_with fail
      refine wp_region_quiet (C := fun W => Below w.heap.size w W) (by kernel_rfl) (by kernel_rfl) (Below.refl _ w).drew ?_
      repeat
        refine wpQuiet_step (fun K hK => ?_)
        first
          | (refine q_ixa (by rfl) _ _ rfl b 0 n c k (k * 20) _ rfl rfl rfl HK.out (by omega) (hK _ ?_); clear hK K)
          | (refine q_ixa (by rfl) _ _ rfl b 0 n c p (p * 20) _ rfl rfl rfl HP.out (by omega) (hK _ ?_); clear hK K)
          | (refine q_load (by rfl) 23 _ rfl ⟨b, k * 20, none⟩ rfl (idv x) (fun W hW => (HW.out W hW).1) (hK _ ?_); clear hK K)
          | (refine q_load (by rfl) 23 _ rfl ⟨b, p * 20, none⟩ rfl (idv y1) (fun W hW => ((HW.out W hW).2.1 HK0.out).1) (hK _ ?_); clear hK K)
          | (refine q_call2 (by rfl) 46 c46.out _ _ _ rfl (idv x) (idv y1) rfl rfl (.int .i64 c1) (fun W hW => ((HW.out W hW).2.1 HK0.out).2) (hK _ ?_); clear hK K)
          | (go_simp; refine ⟨_, fun wq hs => rfl, hK _ ?_⟩; clear hK K)
      refine wpQuiet_nil ?_
      intro w1 hB1
      have B1 : Hid (Below w.heap.size w w1) := hB1
      clear hB1
      go_wp2_with fail
      refine wp_region_quiet (C := fun W => Below w.heap.size w W) (by kernel_rfl) (by kernel_rfl) B1.out.drew ?_
      repeat
        refine wpQuiet_step (fun K hK => ?_)
        first
          | (refine q_ixa (by rfl) _ _ rfl b 0 n c k (k * 20) _ rfl rfl rfl HK.out (by omega) (hK _ ?_); clear hK K)
          | (refine q_ixa (by rfl) _ _ rfl b 0 n c s (s * 20) _ rfl rfl rfl HS.out (by omega) (hK _ ?_); clear hK K)
          | (refine q_load (by rfl) 23 _ rfl ⟨b, k * 20, none⟩ rfl (idv x) (fun W hW => (HW.out W hW).1) (hK _ ?_); clear hK K)
          | (refine q_load (by rfl) 23 _ rfl ⟨b, s * 20, none⟩ rfl (idv y2) (fun W hW => ((HW.out W hW).2.2 HK1.out).1) (hK _ ?_); clear hK K)
          | (refine q_call2 (by rfl) 46 c46.out _ _ _ rfl (idv x) (idv y2) rfl rfl (.int .i64 c2) (fun W hW => ((HW.out W hW).2.2 HK1.out).2) (hK _ ?_); clear hK K)
          | (refine q_max (by rfl) _ _ rfl rfl c1 c2 rfl rfl ((max c1 c2 : Nat) : Int) (by simp; try omega) (hK _ ?_); clear hK K)
          | (go_simp; refine ⟨_, fun wq hs => rfl, hK _ ?_⟩; clear hK K)
      refine wpQuiet_nil ?_
      intro w2 hB2
      have B2 : Hid (Below w.heap.size w w2) := hB2
      clear hB2
      go_wp2_with fail
      go_ret
      exact ⟨max c1 c2, by first | rfl | (simp; done) | (simp; omega), HR.out _ (by omega), B2.out⟩
    · have HK1 : Hid (¬ k + 1 < n) := hk1
      have HR : Hid (∀ a, a = max c1 0 → Al r k a) := fun a ha => HA.out a (by rw [if_pos hk0, if_neg hk1]; exact ha)
      obtain ⟨s, hs⟩ : ∃ s, k + 1 = s := ⟨_, rfl⟩
      rw [hs] at HW
      have hws : IntKind.i64.wrap ((k : Int) + 1) = (s : Int) := by rw [hwk]; omega
      have q1 : ¬ (s : Int) < (n : Int) := by omega
      clear hs hwk HA hk0 hk1
      go_enter Tryd.func36, Tryd.ntmps36
      go_wp2_with fail
      refine wp_region_quiet (C := fun W => Below w.heap.size w W) (by kernel_rfl) (by kernel_rfl) (Below.refl _ w).drew ?_
      repeat
        refine wpQuiet_step (fun K hK => ?_)
        first
          | (refine q_ixa (by rfl) _ _ rfl b 0 n c k (k * 20) _ rfl rfl rfl HK.out (by omega) (hK _ ?_); clear hK K)
          | (refine q_ixa (by rfl) _ _ rfl b 0 n c p (p * 20) _ rfl rfl rfl HP.out (by omega) (hK _ ?_); clear hK K)
          | (refine q_load (by rfl) 23 _ rfl ⟨b, k * 20, none⟩ rfl (idv x) (fun W hW => (HW.out W hW).1) (hK _ ?_); clear hK K)
          | (refine q_load (by rfl) 23 _ rfl ⟨b, p * 20, none⟩ rfl (idv y1) (fun W hW => ((HW.out W hW).2.1 HK0.out).1) (hK _ ?_); clear hK K)
          | (refine q_call2 (by rfl) 46 c46.out _ _ _ rfl (idv x) (idv y1) rfl rfl (.int .i64 c1) (fun W hW => ((HW.out W hW).2.1 HK0.out).2) (hK _ ?_); clear hK K)
          | (go_simp; refine ⟨_, fun wq hs => rfl, hK _ ?_⟩; clear hK K)
      refine wpQuiet_nil ?_
      intro w1 hB1
      have B1 : Hid (Below w.heap.size w w1) := hB1
      clear hB1
      go_wp2_with fail
      go_ret
      exact ⟨c1, by first | rfl | (simp; done) | (simp; omega), HR.out _ (by omega), B1.out⟩
  · have HK0 : Hid (¬ 0 < k) := hk0
    have q0 : ¬ (0 : Int) < (k : Int) := by omega
    by_cases hk1 : k + 1 < n
    · have HK1 : Hid (k + 1 < n) := hk1
      have HR : Hid (∀ a, a = max 0 c2 → Al r k a) := fun a ha => HA.out a (by rw [if_neg hk0, if_pos hk1]; exact ha)
      obtain ⟨s, hs⟩ : ∃ s, k + 1 = s := ⟨_, rfl⟩
      rw [hs] at HW
      have hws : IntKind.i64.wrap ((k : Int) + 1) = (s : Int) := by rw [hwk]; omega
      have q1 : (s : Int) < (n : Int) := by omega
      have HS : Hid (s < n) := by show s < n; omega
      rw [hs] at HK1
      clear hs hwk HA hk0 hk1
      go_enter Tryd.func36, Tryd.ntmps36
      go_wp2_with fail
      refine wp_region_quiet (C := fun W => Below w.heap.size w W) (by kernel_rfl) (by kernel_rfl) (Below.refl _ w).drew ?_
      repeat
        refine wpQuiet_step (fun K hK => ?_)
        first
          | (refine q_ixa (by rfl) _ _ rfl b 0 n c k (k * 20) _ rfl rfl rfl HK.out (by omega) (hK _ ?_); clear hK K)
          | (refine q_ixa (by rfl) _ _ rfl b 0 n c s (s * 20) _ rfl rfl rfl HS.out (by omega) (hK _ ?_); clear hK K)
          | (refine q_load (by rfl) 23 _ rfl ⟨b, k * 20, none⟩ rfl (idv x) (fun W hW => (HW.out W hW).1) (hK _ ?_); clear hK K)
          | (refine q_load (by rfl) 23 _ rfl ⟨b, s * 20, none⟩ rfl (idv y2) (fun W hW => ((HW.out W hW).2.2 HK1.out).1) (hK _ ?_); clear hK K)
          | (refine q_call2 (by rfl) 46 c46.out _ _ _ rfl (idv x) (idv y2) rfl rfl (.int .i64 c2) (fun W hW => ((HW.out W hW).2.2 HK1.out).2) (hK _ ?_); clear hK K)
          | (refine q_max (by rfl) _ _ rfl rfl 0 c2 rfl rfl ((max 0 c2 : Nat) : Int) (by simp; try omega) (hK _ ?_); clear hK K)
          | (go_simp; refine ⟨_, fun wq hs => rfl, hK _ ?_⟩; clear hK K)
      refine wpQuiet_nil ?_
      intro w2 hB2
      have B2 : Hid (Below w.heap.size w w2) := hB2
      clear hB2
      go_wp2_with fail
      go_ret
      exact ⟨max 0 c2, by first | rfl | (simp; done) | (simp; omega), HR.out _ (by omega), B2.out⟩
    · have HK1 : Hid (¬ k + 1 < n) := hk1
      have HR : Hid (∀ a, a = max 0 0 → Al r k a) := fun a ha => HA.out a (by rw [if_neg hk0, if_neg hk1]; exact ha)
      obtain ⟨s, hs⟩ : ∃ s, k + 1 = s := ⟨_, rfl⟩
      rw [hs] at HW
      have hws : IntKind.i64.wrap ((k : Int) + 1) = (s : Int) := by rw [hwk]; omega
      have q1 : ¬ (s : Int) < (n : Int) := by omega
      clear hs hwk HA hk0 hk1
      go_enter Tryd.func36, Tryd.ntmps36
      go_wp2_with fail
      go_ret
      exact ⟨0, by first | rfl | (simp; done) | (simp; omega), HR.out _ (by omega), Below.refl _ _⟩

end Go.Proofs.YtmjcikomcnokkaaDoor
