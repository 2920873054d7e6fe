/- The walk of LzCuts. -/
import Derived.Test.YtgdodphpomkakaaWKnown
namespace Go.Proofs.Ytgdodphpomkakaa
open Go.RowKit

theorem cuts_skip (bo : Option Addr) (N c : Nat) (cut eff : Int) (w : World) (h : 600 < N ∨ cut < 0) :
    Calls Try.prog 6 #[.slice bo N c, .int .i64 cut, .int .i64 eff] w fun e w' => e = .returned (.bool true) ∧ Below w.heap.size w w' := by
  by_cases h1 : 600 < N
  · have z1 : (600 : Int) < N := by omega
    clear h
    go_enter Try.func6, Try.ntmps6
    go_wp2_with (go_at_call 7; refine (known_any _).mono ?_; rintro e w1 ⟨rfl, hb⟩)
    go_ret
    exact ⟨rfl, hb⟩
  · have z1 : ¬ (600 : Int) < N := by omega
    have z2 : cut < 0 := by omega
    clear h
    go_enter Try.func6, Try.ntmps6
    go_wp2_with (go_at_call 7; refine (known_any _).mono ?_; rintro e w1 ⟨rfl, hb⟩)
    go_ret
    exact ⟨rfl, hb⟩

theorem Tk.cut {w : World} {ao : Option Addr} {n : Nat} {ts : List Tok} (h : Tk w ao n ts) (k : Nat) (hk : k ≤ n) : Tk w ao k (ts.take k) :=
  ⟨by have := h.len; simp; omega, fun j hj => by rw [getD_take _ _ _ _ hj]; exact h.cells j (by omega), fun t ht => h.byt t (List.mem_of_mem_take ht)⟩

theorem Tk.cellsOf {w : World} {ad : Addr} {m : Nat} {us : List Tok} (h : Tk w (some ad) m us) : ∀ j u, (tcs us)[j]? = some u → w.cell? (ad.add j) = some u := by
  intro j u hu
  have hl := h.len
  have hj : j < us.length * 3 := by
    have := (List.getElem?_eq_some_iff.1 hu).1
    rwa [tcs_len] at this
  obtain ⟨b, off, e, h0, h1, h2⟩ := h.cells (j / 3) (by omega)
  cases e
  obtain ⟨g0, g1, g2⟩ := tcs_get us (j / 3) (by omega)
  rw [Addr.add_lit]
  rcases (by omega : j % 3 = 0 ∨ j % 3 = 1 ∨ j % 3 = 2) with h3 | h3 | h3
  · have e : j = j / 3 * 3 := by omega
    rw [e] at hu
    rw [g0] at hu
    rw [e, h0, ← hu]
  · have e : j = j / 3 * 3 + 1 := by omega
    rw [e] at hu
    rw [g1] at hu
    rw [e, ← Nat.add_assoc, h1, ← hu]
  · have e : j = j / 3 * 3 + 2 := by omega
    rw [e] at hu
    rw [g2] at hu
    rw [e, ← Nat.add_assoc, h2, ← hu]

/-- 'append(v, us...)', v the call's own, us nil or not. -/
theorem wpList_append_tk {w : World} {ops : Array Oper} {rest : List Oper} {o : Oper} {a : Act} {Q : Exit → Act → World → Prop} (hgd : o.guard = none) (s x : Operand)
    (ho : o.op = .call { callee := .builtin .append, args := #[s, x], argTypes := #[22, 22] })
    (base n : Nat) (v : Value) (ts : List Tok) (hs : a.eval s = v) (hown : w.ownsRow base 40 3 v n (tcs ts))
    (ao : Option Addr) (m c : Nat) (us : List Tok) (hx : a.eval x = .slice ao m c) (hr : Tk w ao m us) (hnul : ao = none → m = 0 ∧ c = 0) (hlim : n + m ≤ 1000000) (hbase : base ≤ w.heap.size)
    (h : ∀ v' w', w'.ownsRow base 40 3 v' (n + m) (tcs (ts ++ us)) → w.grownBy w' v.ownBlock → wpList Try.prog ops Q rest (a.put o.dst v') w') :
    wpList Try.prog ops Q (o :: rest) a w := by
  obtain ⟨i0, hi, hz0, hz1, hz2⟩ := info_parts Try.info40
  cases ao with
  | none =>
    obtain ⟨rfl, rfl⟩ := hnul rfl
    have hy : us = [] := List.eq_nil_of_length_eq_zero hr.len
    subst hy
    refine wpList_append_own_none hgd s x 22 ho base 40 i0 3 Try.underlying22 hi _ n _ hs hown hx ?_
    exact h v w (by simpa using hown) (World.grownBy.refl _ _)
  | some ad =>
    refine wpList_append_own w hgd s x 22 ho base 40 i0 (.agg #[.int .u8 0, .int .i64 0, .int .i64 0]) 3 24 Try.underlying22 hi hz0 hz1 hz2 rfl (by decide) _ n _ hs hown ad m c (tcs us) hx (by rw [tcs_len, hr.len]) hr.cellsOf (tcs_oneCell us)
      (by unfold maxLen; omega) (by omega) hbase ?_
    intro v' w' h1 h2 _
    exact h v' w' (by rw [tcs_app]; exact h1) h2

theorem q_call1 {ops : Array Oper} {o : Oper} {a : Act} {C : World → Prop} {K : Act → Prop} {E : Prop} (hw : Region.wanted o (yielded ops a.tmps) = true) (f : FuncId) (hf : ∀ vs w, (callFunc f vs).run Try.prog w = .ok (.enter f vs) w) (x : Operand) (ts : Array TypeId) (ho : o.op = .call { callee := .value (.func f), args := #[x], argTypes := ts }) (u : Value) (hx : a.eval x = u) (v : Value)
    (hc : ∀ w, C w → Calls Try.prog f #[u] w (fun e w' => e = .returned v ∧ C w')) (hk : K (a.put o.dst v)) : if Region.wanted o (yielded ops a.tmps) = true then o.quiet Try.prog a C K else E := by
  rw [if_pos hw]
  refine ⟨v, fun w hC => ?_, hk⟩
  have h := hc w hC
  have hr : (resolve a.eval { callee := .value (.func f), args := #[x], argTypes := ts } o.type >>= fun d => invoke d.target d.args).run Try.prog w = .ok (.enter f #[u]) w := by
    rw [← hf #[u] w, ← hx]
    simp [resolve, Act.eval, invoke, Deferred.ofValue]
  unfold Oper.quietAt execOp
  simp only [ho, hr]
  exact ⟨rfl, h⟩

theorem cf13 (vs : Array Value) (w : World) : (callFunc 13 vs).run Try.prog w = .ok (.enter 13 vs) w := by simp [go_sem]

theorem q_conv {ops : Array Oper} {o : Oper} {a : Act} {C : World → Prop} {K : Act → Prop} {E : Prop} (hw : Region.wanted o (yielded ops a.tmps) = true) (x : Operand) (ho : o.op = .convert 26 9 x) (u : Value) (hx : a.eval x = u) (v : Value)
    (hc : ∀ w, C w → (convert 26 9 u).run Try.prog w = .ok v w) (hk : K (a.put o.dst v)) : if Region.wanted o (yielded ops a.tmps) = true then o.quiet Try.prog a C K else E := by
  rw [if_pos hw]
  refine ⟨v, fun w hC => ?_, hk⟩
  have h := hc w hC
  unfold Oper.quietAt execOp
  simp only [ho, hx]
  simp [h, Oper.quietUpon]

theorem q_gtr {ops : Array Oper} {o : Oper} {a : Act} {C : World → Prop} {K : Act → Prop} {E : Prop} (hw : Region.wanted o (yielded ops a.tmps) = true) (x y : Operand) (ho : o.op = .binOp .gtr 3 x y 3) (p q : Int) (hx : a.eval x = .int .i64 p) (hy : a.eval y = .int .i64 q) (r : Bool) (hr : decide (q < p) = r)
    (hk : K (a.put o.dst (.bool r))) : if Region.wanted o (yielded ops a.tmps) = true then o.quiet Try.prog a C K else E := by
  rw [if_pos hw]
  refine ⟨_, fun w hC => ?_, hk⟩
  unfold Oper.quietAt execOp
  simp only [ho, hx, hy]
  simp [go_sem, ← hr, Oper.quietUpon]

theorem q_front {ops : Array Oper} {o : Oper} {a : Act} {C : World → Prop} {K : Act → Prop} {E : Prop} (hw : Region.wanted o (yielded ops a.tmps) = true) (x y : Operand) (ho : o.op = .slice 26 x none (some y) none)
    (ao : Option Addr) (n c m : Nat) (hx : a.eval x = .slice ao n c) (hy : a.eval y = .int .i64 (m : Int)) (_hm : m ≤ n) (hmc : m ≤ c)
    (hk : K (a.put o.dst (.slice ao m c))) : if Region.wanted o (yielded ops a.tmps) = true then o.quiet Try.prog a C K else E := by
  rw [if_pos hw]
  refine ⟨_, fun w hC => ?_, hk⟩
  have hz : ∀ w, (sizeOf 5).run Try.prog w = .ok 1 w := fun w => by simp [go_sem]
  unfold Oper.quietAt execOp
  simp only [ho, hx, Option.map_none, Option.map_some, hy]
  simp [Instr.sliceAt, Instr.slice, Instr.sliceBounds, Instr.sliceBound, asIntOf, run_underlying Try.underlying26, hz, hmc, Oper.quietUpon]
  intro _
  cases ao with
  | none => rfl
  | some x =>
    obtain ⟨b, off, spot⟩ := x
    cases spot <;> simp [Addr.add]

theorem Rd.cut {w : World} {ao : Option Addr} {n c : Nat} {xs : List Int} (h : Rd w ao n c xs) (k : Nat) (hk : k ≤ n) : Rd w ao k c (xs.take k) :=
  ⟨by have := h.len; simp; omega, by have := h.le; omega, (fun e => by have := h.nul e; omega), fun ad had j hj => by rw [getD_take _ _ _ _ hj]; exact h.cells ad had j (by omega), fun x hx => h.byt x (List.mem_of_mem_take hx)⟩

set_option maxRecDepth 100000 in
set_option maxHeartbeats 2000000 in
theorem cuts_go (bo : Option Addr) (N c : Nat) (b : List Int) (k : Nat) (eff : Int) (w : World) (hR : Rd w bo N c b) (hN : N ≤ 600) (he : eff < 9223372036854775808) :
    Calls Try.prog 6 #[.slice bo N c, .int .i64 k, .int .i64 eff] w fun e w' => e = .returned (.bool true) ∧ Below w.heap.size w w' := by
  have z1 : ¬ (600 : Int) < N := by omega
  have z2 : ¬ (k : Int) < 0 := by omega
  have HR : Hid (Rd w bo N c b) := hR
  have HL : Hid (b.length = N) := hR.len
  clear hR
  go_enter Try.func6, Try.ntmps6
  go_wp2_with (go_at_call 7; refine (known_any _).mono ?_; rintro e w1 ⟨rfl, b1⟩)
  refine (find_any bo N c b eff w1 (HR.out.keep b1) (by omega) he).mono ?_
  rintro e w2 ⟨v2, ts, rfl, hF, o2, b2⟩
  have B2 := b1.trans (b2.mono b1.size)
  obtain ⟨lo, lc, rfl, hCc, lk, hnul, hown⟩ := own_tk o2 hF.fnd.byt
  obtain ⟨C, hC⟩ : ∃ C, C = ts.length := ⟨_, rfl⟩
  have hcnt := hF.fnd.cnt
  have hall := hF.fnd.all
  have hok := hF.fnd.ok
  have hout := hF.fnd.out
  rw [HL.out] at hcnt hall
  rw [List.take_length] at hout
  rw [← hC] at hcnt lk hCc hnul ⊢
  have HX : Hid (tot ts = N ∧ Ok ts ts.length ∧ mks ts = b ∧ C = ts.length) := ⟨hall, hok, hout, hC⟩
  have HT : Hid (∀ t ∈ ts, 0 ≤ t.1 ∧ t.1 < 256) := hF.fnd.byt
  have HK : Hid (Tk w2 lo C ts) := lk
  have HB2 : Hid (Below w.heap.size w w2) := B2
  clear hF o2 b1 b2 hall hok hout hC lk B2
  by_cases hkC : C < k
  · have z3 : (C : Int) < k := by omega
    go_wp2
    go_ret
    exact ⟨rfl, HB2.out⟩
  · have z3 : ¬ (C : Int) < k := by omega
    obtain ⟨us, hus⟩ : ∃ us, us = ts.take k := ⟨_, rfl⟩
    obtain ⟨T, hT⟩ : ∃ T, T = tot us := ⟨_, rfl⟩
    have hul : us.length = k := by rw [hus]; have := HX.out.2.2.2; simp; omega
    have huk : Ok us us.length := by rw [hul, hus]; exact HX.out.2.1.take k (by have := HX.out.2.2.2; omega)
    have hTN : T ≤ N := by rw [hT, hus]; have := tot_le ts k; have := HX.out.1; omega
    have humk : mks us = b.take T := by rw [hT, hus, mks_cut ts HX.out.2.1 k (by have := HX.out.2.2.2; omega), HX.out.2.2.1]
    have HU : Hid (us.length = k ∧ Ok us us.length ∧ mks us = b.take T ∧ T = tot us) := ⟨hul, huk, humk, hT⟩
    have HUT : Hid (∀ t ∈ us, 0 ≤ t.1 ∧ t.1 < 256) := by rw [hus]; exact fun t ht => HT.out t (List.mem_of_mem_take ht)
    have HUK : Hid (Tk w2 lo k us) := by rw [hus]; exact HK.out.cut k (by omega)
    clear hus hT hul huk humk
    go_wp2_with fail
    refine (expand_any lo k lc us N w2 HUK.out (by omega)).mono ?_
    rintro e w3 ⟨v3, g3, os3, rfl, x3, o3, b3⟩
    obtain ⟨rfl, rfl⟩ := x3.yes HU.out.2.1 (by rw [← HU.out.2.2.2]; omega)
    have hbt : (b.take T).length = T := by have := HL.out; simp; omega
    obtain ⟨xo, xc, rfl, r3, _⟩ := own_rd o3 (mks_byt _ HUT.out)
    rw [HU.out.2.2.1, hbt] at r3 ⊢
    have HR3 : Hid (Rd w3 xo T xc (b.take T)) := r3
    have HB3 : Hid (Below w.heap.size w w3) := HB2.out.trans (b3.mono HB2.out.size)
    have HK3 : Hid (Tk w3 lo C ts) := HK.out.keep b3
    have HUK3 : Hid (Tk w3 lo k us) := HUK.out.keep b3
    clear x3 o3 b3 r3 HB2 HK HUK
    have i4 := size_all lo k lc us w3 HUK3.out (by omega)
    rw [← HU.out.2.2.2, show min T 262145 = T by omega] at i4
    go_wp2_with fail
    refine i4.mono ?_
    rintro e w4 ⟨rfl, b4⟩
    have HB4 : Hid (Below w.heap.size w w4) := HB3.out.trans (b4.mono HB3.out.size)
    have HR4 : Hid (Rd w4 xo T xc (b.take T)) := HR3.out.keep b4
    have HK4 : Hid (Tk w4 lo C ts) := HK3.out.keep b4
    have HUK4 : Hid (Tk w4 lo k us) := HUK3.out.keep b4
    clear b4 HB3 HR3 HK3 HUK3 i4
    have HQ1 : Hid (decide ((N : Int) < T) = false) := by show decide ((N : Int) < T) = false; simp; omega
    have q2 : T ≤ c := by have := HR.out.le; omega
    obtain ⟨S, hS⟩ : ∃ S, S = strOfNums (b.take T) := ⟨_, rfl⟩
    have HBW : Hid (Below w.heap.size w w4) := HB4
    have hcv1 : Hid (∀ wq, Below w4.heap.size w4 wq → (convert 26 9 (.slice xo T xc)).run Try.prog wq = .ok (.string S) wq) := fun wq hs => by rw [hS]; exact (HR4.out.keep hs).str
    have hcv2 : Hid (∀ wq, Below w4.heap.size w4 wq → (convert 26 9 (.slice bo T c)).run Try.prog wq = .ok (.string S) wq) := fun wq hs => by rw [hS]; exact ((HR.out.keep (HBW.out.trans (hs.mono HBW.out.size))).cut T hTN).str
    have hca : Hid (∀ wq, Below w4.heap.size w4 wq → Calls Try.prog 13 #[.slice lo C lc] wq (fun e w' => e = .returned (.int .i64 (N : Int)) ∧ Below w4.heap.size w4 w')) := fun wq hs => (size_all lo C lc ts wq (HK4.out.keep hs) (by omega)).mono (fun e w' h => ⟨by rw [h.1, HX.out.1, show min N 262145 = N by omega], hs.trans (h.2.mono hs.size)⟩)
    clear hS
    go_wp2_with fail
    refine wp_region_quiet (C := fun w' => Below w4.heap.size w4 w') (by kernel_rfl) (by kernel_rfl) (drew_keep w4) ?_
    refine wpQuiet_step (fun K hK => ?_)
    (go_simp; refine ⟨_, fun wq hs => rfl, hK _ ?_⟩; clear hK K)
    refine wpQuiet_step (fun K hK => ?_)
    (go_simp; refine ⟨_, fun wq hs => rfl, hK _ ?_⟩; clear hK K)
    refine wpQuiet_step (fun K hK => ?_)
    (go_simp; refine ⟨_, fun wq hs => rfl, hK _ ?_⟩; clear hK K)
    refine wpQuiet_step (fun K hK => ?_)
    (go_simp; refine ⟨_, fun wq hs => rfl, hK _ ?_⟩; clear hK K)
    refine wpQuiet_step (fun K hK => ?_)
    (go_simp; refine ⟨_, fun wq hs => rfl, hK _ ?_⟩; clear hK K)
    refine wpQuiet_step (fun K hK => ?_)
    (go_simp; refine ⟨_, fun wq hs => rfl, hK _ ?_⟩; clear hK K)
    refine wpQuiet_step (fun K hK => ?_)
    (go_simp; refine ⟨_, fun wq hs => rfl, hK _ ?_⟩; clear hK K)
    refine wpQuiet_step (fun K hK => ?_)
    (go_simp; refine ⟨_, fun wq hs => rfl, hK _ ?_⟩; clear hK K)
    refine wpQuiet_step (fun K hK => ?_)
    (go_simp; refine ⟨_, fun wq hs => rfl, hK _ ?_⟩; clear hK K)
    refine wpQuiet_step (fun K hK => ?_)
    (go_simp; refine ⟨_, fun wq hs => rfl, hK _ ?_⟩; clear hK K)
    refine wpQuiet_step (fun K hK => ?_)
    (go_simp; refine ⟨_, fun wq hs => rfl, hK _ ?_⟩; clear hK K)
    refine wpQuiet_step (fun K hK => ?_)
    (go_simp; refine ⟨_, fun wq hs => rfl, hK _ ?_⟩; clear hK K)
    refine wpQuiet_step (fun K hK => ?_)
    (go_simp; refine ⟨_, fun wq hs => rfl, hK _ ?_⟩; clear hK K)
    refine wpQuiet_step (fun K hK => ?_)
    (refine q_gtr (by rfl) _ _ rfl (T : Int) (N : Int) rfl rfl false HQ1.out (hK _ ?_); clear hK K)
    refine wpQuiet_step (fun K hK => ?_)
    (go_simp; refine ⟨_, fun wq hs => rfl, hK _ ?_⟩; clear hK K)
    refine wpQuiet_step (fun K hK => ?_)
    (go_simp; refine ⟨_, fun wq hs => rfl, hK _ ?_⟩; clear hK K)
    refine wpQuiet_step (fun K hK => ?_)
    (go_simp; refine ⟨_, fun wq hs => rfl, hK _ ?_⟩; clear hK K)
    refine wpQuiet_step (fun K hK => ?_)
    (refine q_conv (by rfl) _ rfl (.slice xo T xc) rfl (.string S) (fun wq hs => hcv1.out wq hs) (hK _ ?_); clear hK K)
    refine wpQuiet_step (fun K hK => ?_)
    (go_simp; refine ⟨_, fun wq hs => rfl, hK _ ?_⟩; clear hK K)
    refine wpQuiet_step (fun K hK => ?_)
    (go_simp; refine ⟨_, fun wq hs => rfl, hK _ ?_⟩; clear hK K)
    refine wpQuiet_step (fun K hK => ?_)
    (go_simp; refine ⟨_, fun wq hs => rfl, hK _ ?_⟩; clear hK K)
    refine wpQuiet_step (fun K hK => ?_)
    (refine q_front (by rfl) _ _ rfl bo N c T rfl rfl hTN q2 (hK _ ?_); clear hK K)
    refine wpQuiet_step (fun K hK => ?_)
    (refine q_conv (by rfl) _ rfl (.slice bo T c) rfl (.string S) (fun wq hs => hcv2.out wq hs) (hK _ ?_); clear hK K)
    refine wpQuiet_step (fun K hK => ?_)
    (go_simp; refine ⟨_, fun wq hs => rfl, hK _ ?_⟩; clear hK K)
    refine wpQuiet_step (fun K hK => ?_)
    (go_simp; refine ⟨_, fun wq hs => rfl, hK _ ?_⟩; clear hK K)
    refine wpQuiet_step (fun K hK => ?_)
    (go_simp; refine ⟨_, fun wq hs => rfl, hK _ ?_⟩; clear hK K)
    refine wpQuiet_step (fun K hK => ?_)
    (go_simp; refine ⟨_, fun wq hs => rfl, hK _ ?_⟩; clear hK K)
    refine wpQuiet_step (fun K hK => ?_)
    (refine q_call1 (by rfl) 13 cf13 _ _ rfl (.slice lo C lc) rfl (.int .i64 (N : Int)) (fun wq hs => hca.out wq hs) (hK _ ?_); clear hK K)
    refine wpQuiet_step (fun K hK => ?_)
    (go_simp; refine ⟨_, fun wq hs => rfl, hK _ ?_⟩; clear hK K)
    refine wpQuiet_step (fun K hK => ?_)
    (go_simp; refine ⟨_, fun wq hs => rfl, hK _ ?_⟩; clear hK K)
    refine wpQuiet_step (fun K hK => ?_)
    (go_simp; refine ⟨_, fun wq hs => rfl, hK _ ?_⟩; clear hK K)
    refine wpQuiet_step (fun K hK => ?_)
    (go_simp; refine ⟨_, fun wq hs => rfl, hK _ ?_⟩; clear hK K)
    refine wpQuiet_nil ?_
    intro w5 h5
    have HB5 : Hid (Below w.heap.size w w5) := HB4.out.trans (h5.mono HB4.out.size)
    have HK5 : Hid (Tk w5 lo k us) := HUK4.out.keep h5
    have HNU : Hid (lo = none → k = 0 ∧ lc = 0) := fun e => by have := hnul e; omega
    clear h5 HB4 HBW HR4 HK4 HUK4 hcv1 hcv2 hca HQ1 q2 hnul hown
    have HA5 : Hid (Below w5.heap.size w5 (w5.alloc (Obj.cells #[] 40))) := (Below.refl _ _).alloc (Nat.le_refl _) _
    have HO5 : Hid ((w5.alloc (Obj.cells #[] 40)).ownsRow w5.heap.size 40 3 (.slice (some ⟨w5.heap.size, 0, none⟩) 0 0) 0 (tcs [])) := World.ownsRow_lit (base := w5.heap.size) (e := 40) (size := 3) w5 #[] 0 (Nat.le_refl _) (by unfold maxLen; omega) rfl
    have HK6 : Hid (Tk (w5.alloc (Obj.cells #[] 40)) lo k us) := HK5.out.keep HA5.out
    clear HK5
    go_wp2_with (first | (refine wpList_append_tk rfl _ _ rfl w5.heap.size (0 + k) v6 ([] ++ us) rfl (o6.alloc _) (some ⟨w6.heap.size, 0, none⟩) 1 1 [((7 : Int), (0 : Int), (0 : Int))] rfl (lit_tk w6 [((7 : Int), (0 : Int), (0 : Int))] _ 40 rfl (by decide +kernel)) (fun e => by cases e) (by omega) (by have := HA5.out.size; have := g6.size; simp at *; omega) ?_; intro v7 w7 o7 g7) | (refine wpList_append_tk rfl _ _ rfl w5.heap.size 0 _ [] rfl HO5.out lo k lc us rfl HK6.out HNU.out (by omega) HA5.out.size ?_; intro v6 w6 o6 g6))
    have hB6 : Below w5.heap.size w5 w6 := HA5.out.grown g6 HA5.out.size (fun q hq => by cases hq; exact Nat.le_refl _)
    have hB6' := hB6.alloc hB6.size (Obj.cells #[Value.int .u8 7, Value.int .i64 0, Value.int .i64 0] 40)
    have hB7 : Below w5.heap.size w5 w7 := hB6'.grown g7 hB6'.size (fun q hq => (o6.lt q hq).1)
    have HB7 : Hid (Below w.heap.size w w7) := HB5.out.trans (hB7.mono HB5.out.size)
    obtain ⟨ws, hws⟩ : ∃ ws, ws = us ++ [((7 : Int), (0 : Int), (0 : Int))] := ⟨_, rfl⟩
    have o7' : w7.ownsRow w5.heap.size 40 3 v7 (k + 1) (tcs ws) := by
      rw [hws]
      simpa using o7
    have hwb : ∀ t ∈ ws, 0 ≤ t.1 ∧ t.1 < 256 := by
      rw [hws]
      intro t ht
      rcases List.mem_append.1 ht with h | h
      · exact HUT.out t h
      · obtain rfl : t = (7, 0, 0) := by simpa using h
        decide
    have hwok : Ok ws ws.length := by
      rw [hws, List.length_append]
      exact HU.out.2.1.app (.inl ⟨rfl, rfl⟩)
    have hwt : tot ws = T + 1 := by
      rw [hws, tot_app, ← HU.out.2.2.2, tot_one]
      rfl
    have hwm : mks ws = b.take T ++ [7] := by
      rw [hws, mks_app, HU.out.2.2.1, mk1_L ⟨rfl, rfl⟩]
    have HW : Hid (Ok ws ws.length ∧ tot ws = T + 1 ∧ mks ws = b.take T ++ [7] ∧ ∀ t ∈ ws, 0 ≤ t.1 ∧ t.1 < 256) := ⟨hwok, hwt, hwm, hwb⟩
    obtain ⟨wo, wc, rfl, _, wk, _⟩ := own_tk o7' hwb
    clear hws o7 o7' hwb hwok hwt hwm o6 g6 g7 hB6 hB6' hB7 HA5 HO5 HK6 HNU HB5
    refine (of_any wo (k + 1) wc ws w7 wk (by omega)).mono ?_
    rintro e w8 ⟨v8, rfl, o8, b8⟩
    have HB8 : Hid (Below w.heap.size w w8) := HB7.out.trans (b8.mono HB7.out.size)
    obtain ⟨ro, rc, rfl, _, rk, _⟩ := own_tk o8 HW.out.2.2.2
    clear o8 b8 wk HB7
    go_wp2_with fail
    refine (xexpand_any ro (k + 1) rc ws ((N : Int) + 1) w8 rk (by omega) (by have := HW.out.2.1; omega) (by omega) (by omega)).mono ?_
    rintro e w9 ⟨v9, g9, os9, rfl, x9, o9, b9⟩
    obtain ⟨rfl, rfl⟩ := x9.yes HW.out.1 (by rw [HW.out.2.1]; omega)
    have HB9 : Hid (Below w.heap.size w w9) := HB8.out.trans (b9.mono HB8.out.size)
    obtain ⟨yo, yc, rfl, r9, _⟩ := own_rd o9 (mks_byt _ HW.out.2.2.2)
    have hyl : (mks ws).length = T + 1 := by rw [HW.out.2.2.1, List.length_append, hbt]; rfl
    rw [hyl] at r9 ⊢
    obtain ⟨yb, yoff, rfl, hcell⟩ := r9.plain (by omega)
    have hy := hcell T (by omega)
    have h7 : (mks ws).getD T 0 = 7 := by
      rw [HW.out.2.2.1]
      have := getD_last (b.take T) 7 0
      rwa [hbt] at this
    rw [h7] at hy
    clear x9 o9 b9 r9 hcell h7 hyl HB8 rk
    have q5 : T < T + 1 := by omega
    go_wp2
    go_ret
    exact ⟨rfl, HB9.out⟩

end Go.Proofs.Ytgdodphpomkakaa
