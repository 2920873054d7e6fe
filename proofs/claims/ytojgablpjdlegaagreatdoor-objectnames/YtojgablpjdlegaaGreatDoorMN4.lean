/- LNames, ObW, Wrap. -/
import Derived.Test.YtojgablpjdlegaaGreatDoorM19
import Derived.Test.YtojgablpjdlegaaGreatDoorMN2
import Derived.Test.YtojgablpjdlegaaGreatDoorMN3
import Derived.Test.YtojgablpjdlegaaGreatDoorM08
import Derived.Test.YtojgablpjdlegaaGreatDoorRows
import Derived.LaidMore
import Derived.LaidSub
import Derived.OpenShut
import Derived.Shelf.Vars
import Derived.HandedShaped
/- ObjectNames. -/
namespace Go.Proofs.YtojgablpjdlegaaGreatDoor
open Go.RowKit Go.Shelf

/-- Is a list of so many bytes not played? -/
def lgb (n : Nat) : Bool := decide (3000 < n ∧ n ≤ 16384 ∨ 32768 < n)

set_option maxRecDepth 100000 in
theorem long_any (ao : Option Addr) (n c : Nat) (w : World) : Calls Tryz.prog 10 #[.slice ao n c] w fun e w' => e = .returned (.bool (lgb n)) ∧ w' = w := by
  by_cases h1 : n ≤ 3000
  · have d1 : decide ((3000 : Int) < n) = false := by simp; omega
    have d2 : decide (3000 < n) = false := by simp; omega
    have d3 : decide ((32768 : Int) < n) = false := by simp; omega
    have d4 : decide (32768 < n) = false := by simp; omega
    have e : lgb n = false := by unfold lgb; simp; omega
    rw [e]
    clear e h1
    go_enter Tryz.func10, Tryz.ntmps10
    go_wp2
    go_ret
    exact ⟨rfl, rfl⟩
  have d1 : decide ((3000 : Int) < n) = true := by simp; omega
  have d2 : decide (3000 < n) = true := by simp; omega
  by_cases h2 : n ≤ 16384
  · have d3 : decide ((n : Int) ≤ 16384) = true := by simp; omega
    have d4 : decide (n ≤ 16384) = true := by simp; omega
    have e : lgb n = true := by unfold lgb; simp; omega
    rw [e]
    clear e h1 h2
    go_enter Tryz.func10, Tryz.ntmps10
    go_wp2
    go_ret
    exact ⟨rfl, rfl⟩
  have d3 : decide ((n : Int) ≤ 16384) = false := by simp; omega
  have d4 : decide (n ≤ 16384) = false := by simp; omega
  by_cases h3 : n ≤ 32768
  · have d5 : decide ((32768 : Int) < n) = false := by simp; omega
    have d6 : decide (32768 < n) = false := by simp; omega
    have e : lgb n = false := by unfold lgb; simp; omega
    rw [e]
    clear e h1 h2 h3
    go_enter Tryz.func10, Tryz.ntmps10
    go_wp2
    go_ret
    exact ⟨rfl, rfl⟩
  · have d5 : decide ((32768 : Int) < n) = true := by simp; omega
    have d6 : decide (32768 < n) = true := by simp; omega
    have e : lgb n = true := by unfold lgb; simp; omega
    rw [e]
    clear e h1 h2 h3
    go_enter Tryz.func10, Tryz.ntmps10
    go_wp2
    go_ret
    exact ⟨rfl, rfl⟩

theorem ropen_any (ao : Option Addr) (n c : Nat) (xs : List Int) (w : World) (hr : Rd w ao n c xs) (hn : n ≤ 1000000) :
    Calls Tryz.prog 18 #[.slice ao n c] w fun e w' => ∃ ao' N c', e = .returned (.tuple #[.int .i64 (opx xs).1, .slice ao' N c', .int .i64 (opx xs).2.2]) ∧ Rd w' ao' N c' (opx xs).2.1 ∧ Below w.heap.size w w' := by
  rcases Nat.eq_zero_or_pos n with h | h
  · have hx : xs = [] := List.eq_nil_of_length_eq_zero (by rw [hr.len, h])
    have HO : Hid (opx xs = (0, [], 2)) := opx_none xs (by rw [hx]; intro x hx; cases hx)
    subst h
    clear hx hr hn
    go_enter Tryz.func18, Tryz.ntmps18
    go_wp2_with fail
    go_loopw [5] (fun iv wr => wr = w ∧ iv = .int .i64 0) (fun iv _ => 0)
    case atStart => exact ⟨rfl, rfl⟩
    case round =>
      obtain ⟨hwr, rfl⟩ := hrel
      subst wr
      go_wp2
      go_ret3
      refine ⟨none, 0, 0, ?_, ?_, Below.refl _ _⟩
      · rw [HO.out]; rfl
      · rw [HO.out]; exact Rd.nil _
  · obtain ⟨b, off, rfl, _⟩ := hr.plain h
    exact ropen_pos b off n c xs w hr hn h

theorem anyH_quiet {P : Program} {md : Region.Mode} {ops : Array Oper} {Q : Exit → Act → World → Prop} {S C : World → Prop} {q : Act → Prop} (hS : ∀ w, C w → S w) (hQ : ∀ a w, C w → q a → Q .normal a w) : ∀ (fuel : Nat) (listed : Array Bool) (a : Act) (w : World), C w → wpAnyQ P md ops C q fuel listed a → wpAnyH P md ops Q S fuel listed a w
  | 0, _, _, _, hC, h => ⟨h.1, hQ _ _ hC h.2⟩
  | fuel + 1, _, _, _, hC, h => ⟨fun h0 => hQ _ _ hC (h.1 h0), fun i hi => wpOp_of_qOp hC (fun a' w' hw' h' => ⟨hS w' hw', anyH_quiet hS hQ fuel _ a' w' hw' h'⟩) (h.2 i hi)⟩

theorem anyH_lex {P : Program} {md : Region.Mode} {ops : Array Oper} {Q : Exit → Act → World → Prop} {S C : World → Prop} (k : Nat) (l : List Oper) (hl : ops.toList.drop k = l) (hs : Region.noSelect ops = true) {listed : Array Bool} {a : Act} {w : World} (hB : Region.lexFrom md ops l.length k listed = true) (hS : ∀ w, C w → S w) (hC : C w) (fuel : Nat) (hf : fuel = l.length) (h : wpQuiet P ops C (fun a' => ∀ w', C w' → Q .normal a' w') l a) : wpAnyH P md ops Q S fuel listed a w := by
  rw [hf]
  exact anyH_quiet hS (fun _ w' hw' h => h w' hw') _ _ _ _ hC (wpAnyQ_lex hs l k listed a (fun j => by rw [← hl]; simp [List.getElem?_drop]) hB h)

theorem cf12 (vs : Array Value) (w : World) : (callFunc 12 vs).run Tryz.prog w = .ok (.enter 12 vs) w := by simp [go_sem]
theorem cf13 (vs : Array Value) (w : World) : (callFunc 13 vs).run Tryz.prog w = .ok (.enter 13 vs) w := by simp [go_sem]
theorem cf14 (vs : Array Value) (w : World) : (callFunc 14 vs).run Tryz.prog w = .ok (.enter 14 vs) w := by simp [go_sem]
theorem cf15 (vs : Array Value) (w : World) : (callFunc 15 vs).run Tryz.prog w = .ok (.enter 15 vs) w := by simp [go_sem]

theorem step_call2 {w : World} {ops : Array Oper} {o : Oper} {a : Act} {K : Act → World → Prop} {Q : Exit → Act → World → Prop} {E : Prop} {C : Value → World → Prop} (hw : Region.wanted o (yielded ops a.tmps) = true) (f : FuncId) (hf : ∀ vs w, (callFunc f vs).run Tryz.prog w = .ok (.enter f vs) w) (x y : Operand) (ts : Array TypeId) (ho : o.op = .call { callee := .value (.func f), args := #[x, y], argTypes := ts }) (u u' : Value) (hx : a.eval x = u) (hy : a.eval y = u')
    (hc : Calls Tryz.prog f #[u, u'] w (fun e w' => ∃ v, e = .returned v ∧ C v w')) (hk : ∀ v w', C v w' → K (a.put o.dst v) w') : if Region.wanted o (yielded ops a.tmps) = true then Oper.wp Tryz.prog o a w K Q else E := by
  rw [if_pos hw]
  have hr : (resolve a.eval { callee := .value (.func f), args := #[x, y], argTypes := ts } o.type >>= fun d => invoke d.target d.args).run Tryz.prog w = .ok (.enter f #[u, u']) w := by
    rw [← hf #[u, u'] w, ← hx, ← hy]
    simp [resolve, Act.eval, invoke, Deferred.ofValue]
  unfold Oper.wp execOp
  simp only [ho, hr]
  refine hc.mono ?_
  rintro e w' ⟨v, rfl, h⟩
  exact hk v w' h


theorem sum_eql (ys : List Int) (w : World) : (Op.equalIn 10000 27 (Sha.sv ys) (Sha.sv ys)).run Tryz.prog w = .ok true w := by
  have h := eq_loop 27 Tryz.underlying27 9998 (Sha.dig ys) (Sha.dig ys) w
  show (Op.equalIn 10000 27 (idv (Sha.dig ys)) (idv (Sha.dig ys))).run Tryz.prog w = .ok true w
  simpa using h

set_option maxRecDepth 100000 in
set_option maxHeartbeats 8000000 in
theorem names_go (k : Int) (ao : Option Addr) (n c : Nat) (xs : List Int) (bo : Option Addr) (m d : Nat) (ys : List Int) (w : World) (hg : Gs w) (hr : Rd w ao n c xs) (hs : Rd w bo m d ys) (hn : n ≤ 32768) (hl : lgb n = false) (hm : m ≤ 3000) :
    Calls Tryz.prog 3 #[.int .i64 k, .slice ao n c, .slice bo m d] w fun e w' => e = .returned (.bool true) ∧ Below w.heap.size w w' := by
  have HK : Hid (Calls Tryz.prog 9 #[] w fun e w' => e = .returned (.bool true) ∧ Below w.heap.size w w') := known_yes w hg
  have HG : Hid (∀ W, Below w.heap.size w W → Gs W) := fun W hW => hg.keep hW
  have HRA : Hid (∀ W, Below w.heap.size w W → Rd W ao n c xs) := fun W hW => hr.keep hW
  have HRB : Hid (∀ W, Below w.heap.size w W → Rd W bo m d ys) := fun W hW => hs.keep hW
  have HN : Hid (n ≤ 32768 ∧ m ≤ 3000) := ⟨hn, hm⟩
  have HL : Hid (∀ W, Calls Tryz.prog 10 #[.slice ao n c] W fun e w' => e = .returned (.bool false) ∧ w' = W) := fun W => by have := long_any ao n c W; rw [hl] at this; exact this
  have d1 : decide ((3000 : Int) < m) = false := by simp; omega
  have d2 : decide (3000 < m) = false := by simp; omega
  obtain ⟨C, hC⟩ : ∃ C, C = cnx k xs := ⟨_, rfl⟩
  have HC : Hid (C = cnx k xs) := hC
  obtain ⟨A, hS⟩ : ∃ A : Array Value, Value.agg A = Sha.sv C := ⟨_, rfl⟩
  have HS : Hid (Value.agg A = Sha.sv C) := hS
  have heq : ∀ w, (Op.equalIn 10000 27 (.agg A) (.agg A)).run Tryz.prog w = .ok true w := fun w => by rw [hS]; exact sum_eql C w
  obtain ⟨wd, hwd⟩ : ∃ wd, wd = wl k := ⟨_, rfl⟩
  have HWD : Hid (wd = wl k) := hwd
  clear hC hS hwd hg hr hs hn hm hl
  go_enter Tryz.func3, Tryz.ntmps3
  go_wp2_with fail
  refine (show Calls Tryz.prog 9 #[] w _ from HK.out).mono ?_
  rintro e w1 ⟨rfl, b1⟩
  have HB1 : Hid (Below w.heap.size w w1) := b1
  have hlo := HL.out w1
  clear b1 HL HK
  go_wp2_with fail
  refine hlo.mono ?_
  rintro e wz ⟨rfl, hwz⟩
  subst wz
  have hca := canonx_any k ao n c xs w1 (HG.out w1 HB1.out) (HRA.out w1 HB1.out) (by have := HN.out; omega)
  rw [← HC.out] at hca
  clear hlo
  go_wp2_with fail
  refine hca.mono ?_
  rintro e w3 ⟨xo, L, xc, rfl, rx, hL, b3⟩
  have HB3 : Hid (Below w.heap.size w w3) := HB1.out.trans (b3.mono HB1.out.size)
  have HRX : Hid (Rd w3 xo L xc C ∧ L ≤ n + 200) := ⟨rx, hL⟩
  have HQ : Hid (∀ W, Below w3.heap.size w3 W → (convert 22 9 (.slice xo L xc)).run Tryz.prog W = .ok (sv (tb C)) W) := fun W hW => by
    have := (HRX.out.1.keep hW).str
    rw [tb_sv] at this
    exact this
  have HD : Hid (Below w3.heap.size w3 w3.drew) := (Below.refl _ _).drew
  have HR12 : Hid (Calls Tryz.prog 12 #[.int .i64 k, .slice ao n c] w3.drew fun e w' => ∃ v, e = .returned v ∧ ∃ ao' N cap, v = .slice ao' N cap ∧ Rd w' ao' N cap C ∧ Below w3.drew.heap.size w3.drew w') := by
    have hbd := HB3.out.trans (HD.out.mono HB3.out.size)
    have := rcanon_any k ao n c xs w3.drew (HRA.out _ hbd) (by have := HN.out; omega)
    rw [← HC.out] at this
    exact this.mono (fun e w' ⟨a, N, cap, h1, h2, h3, h4⟩ => ⟨_, h1, a, N, cap, rfl, h2, h4⟩)
  clear hca rx b3 hL
  go_wp2_with fail
  refine wp_region_noPanic ?_
  refine wp_region_held_drew (S := fun W => Below w3.heap.size w3 W) (by kernel_rfl) HD.out (fun hHeld => ?_)
  refine wpAnyH_take (i := 0) (oi := ⟨some 30, _, _, _, _, _⟩) (v := ?_) rfl (by kernel_rfl) (by kernel_rfl) (by kernel_rfl) (fun _ _ _ h => h) (Or.inl ⟨by rfl, ?_⟩) hHeld ?_
  rotate_left
  · (intro w' hSw; go_simp; try with_reducible rfl)
  try simp only [Act.put, List.setIfInBounds_toArray, List.set_cons_zero, List.set_cons_succ]
  refine wpAnyH_take (i := 2) (oi := ⟨some 32, _, _, _, _, _⟩) (v := ?_) rfl (by kernel_rfl) (by kernel_rfl) (by kernel_rfl) (fun _ _ _ h => h) (Or.inl ⟨by rfl, ?_⟩) hHeld ?_
  rotate_left
  · (intro w' hSw; go_simp; try with_reducible rfl)
  try simp only [Act.put, List.setIfInBounds_toArray, List.set_cons_zero, List.set_cons_succ]
  refine wpAnyH_take (i := 3) (oi := ⟨some 33, _, _, _, _, _⟩) (v := ?_) rfl (by kernel_rfl) (by kernel_rfl) (by kernel_rfl) (fun _ _ _ h => h) (Or.inl ⟨by rfl, ?_⟩) hHeld ?_
  rotate_left
  · (intro w' hSw; go_simp; try with_reducible rfl)
  try simp only [Act.put, List.setIfInBounds_toArray, List.set_cons_zero, List.set_cons_succ]
  refine wpAnyH_take (i := 1) (oi := ⟨some 31, _, _, _, _, _⟩) (v := sv (tb C)) rfl (by kernel_rfl) (by kernel_rfl) (by kernel_rfl) (fun _ _ _ h => h) (Or.inl ⟨by rfl, ?_⟩) hHeld ?_
  · (intro w' hSw; have q := HQ.out w' hSw; go_simp; try with_reducible rfl)
  try simp only [Act.put, List.setIfInBounds_toArray, List.set_cons_zero, List.set_cons_succ]
  refine wpAnyH_ready (rs := [4]) (by kernel_rfl) (by simp) ?_
  refine AllReadyH.cons (o := ⟨some 34, _, _, _, _, _⟩) rfl (fun K hK => ?_) AllReadyH.nil
  refine step_call2 (by rfl) 12 cf12 _ _ _ rfl (.int .i64 k) (.slice ao n c) rfl rfl HR12.out ?_
  rintro v1 w4 ⟨ro, rn, rc, rfl, hr4, b4⟩
  have b4' : Below w3.heap.size w3 w4 := HD.out.trans (b4.mono HD.out.size)
  refine hK.out _ _ b4' (fun hHeld => ?_)
  clear hK K
  have HB4 : Hid (Below w.heap.size w w4) := HB3.out.trans (b4'.mono HB3.out.size)
  have HC1 : Hid (∀ wq, Below w4.heap.size w4 wq → (convert 22 9 (.slice ro rn rc)).run Tryz.prog wq = .ok (sv (tb C)) wq) := fun wq hs => by
    have := (hr4.keep hs).str
    rw [tb_sv] at this
    exact this
  have HC2 : Hid (∀ wq, Below w4.heap.size w4 wq → Calls Tryz.prog 13 #[.int .i64 k, .slice ao n c] wq (fun e w' => e = .returned (.agg A) ∧ Below w4.heap.size w4 w')) := fun wq hs => by
    have hb := HB4.out.trans (hs.mono HB4.out.size)
    have := objIDx_any k ao n c xs wq (HG.out wq hb) (HRA.out wq hb) (by have := HN.out; omega)
    rw [← HC.out, ← HS.out] at this
    exact this.mono (fun e w' ⟨h1, h2⟩ => ⟨h1, hs.trans (h2.mono hs.size)⟩)
  have HC3 : Hid (∀ wq, Below w4.heap.size w4 wq → Calls Tryz.prog 14 #[.int .i64 k, .slice ao n c] wq (fun e w' => e = .returned (.agg A) ∧ Below w4.heap.size w4 w')) := fun wq hs => by
    have hb := HB4.out.trans (hs.mono HB4.out.size)
    have := rID_any k ao n c xs wq (HRA.out wq hb) (by have := HN.out; omega)
    rw [← HC.out, ← HS.out] at this
    exact this.mono (fun e w' ⟨h1, h2⟩ => ⟨h1, hs.trans (h2.mono hs.size)⟩)
  have HC4 : Hid (∀ wq, Below w4.heap.size w4 wq → Calls Tryz.prog 15 #[.int .i64 k] wq (fun e w' => e = .returned (sv wd) ∧ Below w4.heap.size w4 w')) := fun wq hs => by
    have hb := HB4.out.trans (hs.mono HB4.out.size)
    have := word_sv k wq (HG.out wq hb)
    rw [← HWD.out] at this
    exact this.mono (fun e w' ⟨h1, h2⟩ => ⟨h1, by rw [h2]; exact hs⟩)
  have HC5 : Hid (∀ wq, Below w4.heap.size w4 wq → Calls Tryz.prog 16 #[.int .i64 k] wq (fun e w' => e = .returned (sv wd) ∧ Below w4.heap.size w4 w')) := fun wq hs => by
    have := rword_any k wq
    rw [← HWD.out] at this
    exact this.mono (fun e w' ⟨h1, h2⟩ => ⟨h1, by rw [h2]; exact hs⟩)
  try simp only [Act.put, List.setIfInBounds_toArray, List.set_cons_zero, List.set_cons_succ]
  refine anyH_lex (C := fun W => Below w4.heap.size w4 W) 5 _ rfl (by kernel_rfl) (by kernel_rfl) (fun W hW => b4'.trans (hW.mono b4'.size)) (Below.refl _ _) _ rfl ?_
  have HX4 : Hid (Rd w4 xo L xc C) := HRX.out.1.keep b4'
  clear hr4 b4 b4' hHeld HR12 HQ HD
  simp only [List.drop_succ_cons, List.drop_zero]
  refine wpQuiet_step (fun K hK => ?_)
  (refine q_conv (by rfl) _ rfl (.slice ro rn rc) rfl (sv (tb C)) (fun wq hs => HC1.out wq hs) (hK _ ?_); clear hK K)
  refine wpQuiet_step (fun K hK => ?_)
  (go_simp; refine ⟨_, fun wq hs => rfl, hK _ ?_⟩; clear hK K)
  refine wpQuiet_step (fun K hK => ?_)
  (go_simp; refine ⟨_, fun wq hs => rfl, hK _ ?_⟩; clear hK K)
  refine wpQuiet_step (fun K hK => ?_)
  (go_simp; refine ⟨_, fun wq hs => rfl, hK _ ?_⟩; clear hK K)
  refine wpQuiet_step (fun K hK => ?_)
  (go_simp; refine ⟨_, fun wq hs => rfl, hK _ ?_⟩; clear hK K)
  refine wpQuiet_step (fun K hK => ?_)
  (refine q_call2 (by rfl) 13 cf13 _ _ _ rfl (.int .i64 k) (.slice ao n c) rfl rfl (.agg A) (fun wq hs => HC2.out wq hs) (hK _ ?_); clear hK K)
  refine wpQuiet_step (fun K hK => ?_)
  (go_simp; refine ⟨_, fun wq hs => rfl, hK _ ?_⟩; clear hK K)
  refine wpQuiet_step (fun K hK => ?_)
  (go_simp; refine ⟨_, fun wq hs => rfl, hK _ ?_⟩; clear hK K)
  refine wpQuiet_step (fun K hK => ?_)
  (refine q_call2 (by rfl) 14 cf14 _ _ _ rfl (.int .i64 k) (.slice ao n c) rfl rfl (.agg A) (fun wq hs => HC3.out wq hs) (hK _ ?_); clear hK K)
  refine wpQuiet_step (fun K hK => ?_)
  (go_simp; refine ⟨_, fun wq hs => rfl, hK _ ?_⟩; clear hK K)
  refine wpQuiet_step (fun K hK => ?_)
  (go_simp; refine ⟨_, fun wq hs => rfl, hK _ ?_⟩; clear hK K)
  refine wpQuiet_step (fun K hK => ?_)
  (go_simp; refine ⟨_, fun wq hs => rfl, hK _ ?_⟩; clear hK K)
  refine wpQuiet_step (fun K hK => ?_)
  (go_simp; refine ⟨_, fun wq hs => rfl, hK _ ?_⟩; clear hK K)
  refine wpQuiet_step (fun K hK => ?_)
  (refine q_call1 (by rfl) 15 cf15 _ _ rfl (.int .i64 k) rfl (sv wd) (fun wq hs => HC4.out wq hs) (hK _ ?_); clear hK K)
  refine wpQuiet_step (fun K hK => ?_)
  (go_simp; refine ⟨_, fun wq hs => rfl, hK _ ?_⟩; clear hK K)
  refine wpQuiet_step (fun K hK => ?_)
  (refine q_call1 (by rfl) 16 cf16 _ _ rfl (.int .i64 k) rfl (sv wd) (fun wq hs => HC5.out wq hs) (hK _ ?_); clear hK K)
  refine wpQuiet_step (fun K hK => ?_)
  (go_simp; refine ⟨_, fun wq hs => rfl, hK _ ?_⟩; clear hK K)
  refine wpQuiet_step (fun K hK => ?_)
  (go_simp; refine ⟨_, fun wq hs => rfl, hK _ ?_⟩; clear hK K)
  refine wpQuiet_nil ?_
  intro w5 hB5
  have HB5 : Hid (Below w.heap.size w w5) := HB4.out.trans (hB5.mono HB4.out.size)
  have HX5 : Hid (Rd w5 xo L xc C) := HX4.out.keep hB5
  clear HC1 HC2 HC3 HC4 HC5 HX4 hB5 heq
  refine NoPanic.normal ?_
  obtain ⟨O, hO⟩ : ∃ O, O = opx C := ⟨_, rfl⟩
  obtain ⟨U, hU⟩ : ∃ U, U = opx ys := ⟨_, rfl⟩
  have HO : Hid (O = opx C) := hO
  have HU : Hid (U = opx ys) := hU
  obtain ⟨o1, o2, o3⟩ := O
  obtain ⟨u1, u2, u3⟩ := U
  clear hO hU
  have hp := popen_any xo L xc C w5 (HG.out w5 HB5.out) HX5.out (by have := HRX.out.2; have := HN.out; omega)
  rw [← HO.out] at hp
  go_wp2_with fail
  refine hp.mono ?_
  rintro e w6 ⟨yo, yn, yc, rfl, ry, b6⟩
  have HB6 : Hid (Below w.heap.size w w6) := HB5.out.trans (b6.mono HB5.out.size)
  have hq := ropen_any xo L xc C w6 (HX5.out.keep b6) (by have := HRX.out.2; have := HN.out; omega)
  rw [← HO.out] at hq
  have HY : Hid (Rd w6 yo yn yc o2) := ry
  clear hp ry b6
  go_wp2_with fail
  refine hq.mono ?_
  rintro e w7 ⟨zo, zn, zc, rfl, rz, b7⟩
  have HB7 : Hid (Below w.heap.size w w7) := HB6.out.trans (b7.mono HB6.out.size)
  have s1 : (convert 22 9 (.slice yo yn yc)).run Tryz.prog w7 = .ok (sv (tb o2)) w7 := by
    have := (HY.out.keep b7).str
    rw [tb_sv] at this
    exact this
  have s2 : (convert 22 9 (.slice zo zn zc)).run Tryz.prog w7 = .ok (sv (tb o2)) w7 := by
    have := rz.str
    rw [tb_sv] at this
    exact this
  have hp := popen_any bo m d ys w7 (HG.out w7 HB7.out) (HRB.out w7 HB7.out) (by have := HN.out; omega)
  rw [← HU.out] at hp
  clear hq rz b7
  go_wp2_with fail
  refine hp.mono ?_
  rintro e w8 ⟨yo2, yn2, yc2, rfl, ry2, b8⟩
  have HB8 : Hid (Below w.heap.size w w8) := HB7.out.trans (b8.mono HB7.out.size)
  have hq := ropen_any bo m d ys w8 (HRB.out w8 HB8.out) (by have := HN.out; omega)
  rw [← HU.out] at hq
  have HY2 : Hid (Rd w8 yo2 yn2 yc2 u2) := ry2
  clear hp ry2 b8 s1 s2
  go_wp2_with fail
  refine hq.mono ?_
  rintro e w9 ⟨zo2, zn2, zc2, rfl, rz2, b9⟩
  have HB9 : Hid (Below w.heap.size w w9) := HB8.out.trans (b9.mono HB8.out.size)
  have s1 : (convert 22 9 (.slice yo2 yn2 yc2)).run Tryz.prog w9 = .ok (sv (tb u2)) w9 := by
    have := (HY2.out.keep b9).str
    rw [tb_sv] at this
    exact this
  have s2 : (convert 22 9 (.slice zo2 zn2 zc2)).run Tryz.prog w9 = .ok (sv (tb u2)) w9 := by
    have := rz2.str
    rw [tb_sv] at this
    exact this
  have s3 : (convert 22 9 (.slice bo m d)).run Tryz.prog w9 = .ok (sv (tb ys)) w9 := by
    have := (HRB.out w9 HB9.out).str
    rw [tb_sv] at this
    exact this
  have hk1 := kindOf_any (tb ys) w9 (HG.out w9 HB9.out)
  have hk2 := rkindOf_any (tb ys) w9
  generalize kof (tb ys) = kk at *
  obtain ⟨kk1, kk2⟩ := kk
  clear hq rz2 b9
  go_wp2_with fail
  refine hk1.mono ?_
  rintro e wz ⟨rfl, hwz⟩
  subst wz
  clear hk1
  go_wp2_with fail
  refine hk2.mono ?_
  rintro e wz ⟨rfl, hwz⟩
  subst wz
  clear hk2
  go_wp2_with fail
  go_ret
  exact ⟨rfl, HB9.out⟩

set_option maxRecDepth 100000 in
theorem names_skip (k : Int) (ao : Option Addr) (n c : Nat) (bo : Option Addr) (m d : Nat) (w : World) (hg : Gs w) (h : lgb n = true ∨ lgb n = false ∧ 3000 < m) :
    Calls Tryz.prog 3 #[.int .i64 k, .slice ao n c, .slice bo m d] w fun e w' => e = .returned (.bool true) ∧ Below w.heap.size w w' := by
  have hk := known_yes w hg
  rcases h with h | ⟨h, hm⟩
  · have hl : ∀ W, Calls Tryz.prog 10 #[.slice ao n c] W fun e w' => e = .returned (.bool true) ∧ w' = W := fun W => by have := long_any ao n c W; rw [h] at this; exact this
    clear h hg
    go_enter Tryz.func3, Tryz.ntmps3
    go_wp2_with fail
    refine hk.mono ?_
    rintro e w1 ⟨rfl, b1⟩
    have HB1 : Hid (Below w.heap.size w w1) := b1
    have hlo := hl w1
    clear hk hl b1
    go_wp2_with fail
    refine hlo.mono ?_
    rintro e wz ⟨rfl, hwz⟩
    subst wz
    clear hlo
    go_wp2_with fail
    go_ret
    exact ⟨rfl, HB1.out⟩
  · have hl : ∀ W, Calls Tryz.prog 10 #[.slice ao n c] W fun e w' => e = .returned (.bool false) ∧ w' = W := fun W => by have := long_any ao n c W; rw [h] at this; exact this
    have d1 : decide ((3000 : Int) < m) = true := by simp; omega
    have d2 : decide (3000 < m) = true := by simp; omega
    clear h hg hm
    go_enter Tryz.func3, Tryz.ntmps3
    go_wp2_with fail
    refine hk.mono ?_
    rintro e w1 ⟨rfl, b1⟩
    have HB1 : Hid (Below w.heap.size w w1) := b1
    have hlo := hl w1
    clear hk hl b1
    go_wp2_with fail
    refine hlo.mono ?_
    rintro e wz ⟨rfl, hwz⟩
    subst wz
    clear hlo
    go_wp2_with fail
    go_ret
    exact ⟨rfl, HB1.out⟩

theorem names_law (k : Int) (ao : Option Addr) (n c : Nat) (xs : List Int) (bo : Option Addr) (m d : Nat) (ys : List Int) (w : World) (hg : Gs w) (hr : Rd w ao n c xs) (hs : Rd w bo m d ys) :
    Calls Tryz.prog 3 #[.int .i64 k, .slice ao n c, .slice bo m d] w fun e w' => e = .returned (.bool true) ∧ Below w.heap.size w w' := by
  cases hl : lgb n with
  | true => exact names_skip k ao n c bo m d w hg (.inl hl)
  | false =>
    by_cases hm : m ≤ 3000
    · refine names_go k ao n c xs bo m d ys w hg hr hs ?_ hl hm
      unfold lgb at hl
      simp at hl
      omega
    · exact names_skip k ao n c bo m d w hg (.inr ⟨hl, by omega⟩)

end Go.Proofs.YtojgablpjdlegaaGreatDoor

/- The tables, out of what is laid, and of the world's shape. -/
namespace Go.Proofs.YtojgablpjdlegaaGreatDoor
open Go.RowKit

/-- The two tables. -/
abbrev two : List (String × DataW Unit) := [("internal/strconv.uint64pow10", Lib.tabData .u64 Lib.pow10Tab), ("trove/object.words", Rows.laid_trove_object_words)]

theorem word_of {W : World} {t f : Nat} {cs : List Value} {p : List MemPlace} (ht : Tryz.prog.underlying t = some (.array 5 9)) (h9 : Tryz.prog.cellsOf 9 = 1) (hd : DataW.trod (fun _ => ()) Tryz.prog W 0 (fun _ => true) false f t cs = some (Rows.laid_trove_object_words, p)) (k : Nat) (hk : k < 5) : cs[k]? = some (.string (wrd k)) := by
  obtain ⟨xs, m, _, he, _, hxl, hx⟩ := DataW.trod_array ht hd
  have hxk : xs[k]? = some (xs[k]'(by omega)) := List.getElem?_eq_getElem (by omega)
  have h1 := hx k hk
  rw [hxk, h9, Nat.mul_one] at h1
  obtain ⟨s, hc, hs, _⟩ := DataW.trod_string Tryz.underlying9 h1
  have h2 : (xs.map (·.1))[k]? = some (DataW.lit (.string s.data.toList)) := by rw [List.getElem?_map, hxk, hs]; rfl
  have h3 : Rows.laid_trove_object_words = DataW.agg (xs.map (·.1)) := congrArg Prod.fst he
  have hss : s = wrd k := by
    unfold Rows.laid_trove_object_words at h3
    simp only [DataW.agg.injEq] at h3
    rw [← h3] at h2
    rcases (by omega : k = 0 ∨ k = 1 ∨ k = 2 ∨ k = 3 ∨ k = 4) with rfl | rfl | rfl | rfl | rfl <;> (simp at h2; exact ba_inj (by first | (rw [← h2]; rfl) | (rw [h2]; rfl)))
  have := congrArg (fun l => l[0]?) hc
  rw [← hss]
  simpa [List.getElem?_take, List.getElem?_drop] using this

theorem gs_of_two {W : World} (h : laidMet Tryz.prog two W) (hm : ∃ m, W.cell? ⟨1, 0, none⟩ = some (.int .i64 m)) (hb : 10 ≤ W.heap.size) : Gs W := by
  have hp := Lib.tabIs_of_head (g := 3) (n := 20) (e := 142) (t := 233) (by kernel_rfl) (by kernel_rfl) (by kernel_rfl) (by kernel_rfl) (by kernel_rfl) (by kernel_rfl) h
  obtain ⟨ps, ⟨g0, t0, cs0, f0, p0, q0, hg0, ht0, hv0, hd0, ⟨g1, t1, cs1, f1, p1, q1, hg1, ht1, hv1, hd1, _, _⟩, _⟩, _⟩ := h
  obtain rfl := Option.some.inj ((show Tryz.prog.globalNamed "trove/object.words" = some 0 by kernel_rfl).symm.trans hg1)
  obtain rfl := Option.some.inj ((show (Tryz.prog.globals[0]?).map (·.type) = some 100 by kernel_rfl).symm.trans ht1)
  exact ⟨fun k hk => by rw [World.var?_cell hg1 hv1 k]; simpa using word_of (by kernel_rfl) (by kernel_rfl) hd1 k hk, hm, hp, hb⟩

theorem most_of {W : World} (h : W.ShapedOpen Tryz.prog) : ∃ m, W.cell? ⟨1, 0, none⟩ = some (.int .i64 m) :=
  cell_of_shapedOpen_int (t := 3) (zero := #[.int .i64 0]) h (of_decide_eq_true (by kernel_rfl)) (by kernel_rfl) rfl (by kernel_rfl) (by kernel_rfl) Tryz.underlying3

theorem big_of {W : World} (h : W.ShapedOpen Tryz.prog) : 10 ≤ W.heap.size := by
  have h0 : (((begin Tryz.prog (fun _ _ => 0) default).world.heap[9]?).bind Obj.row?).isSome = true := by kernel_rfl
  obtain ⟨⟨z, t⟩, hz⟩ := Option.isSome_iff_exists.1 h0
  obtain ⟨cs, hc, _⟩ := h.1 9 z t (of_decide_eq_true (by kernel_rfl)) hz
  have := (Array.getElem?_eq_some_iff.1 hc).1
  omega

theorem gs_of_laid {W : World} {l : List (String × DataW Unit)} (hl : l.filter (fun x => x.1 == "internal/strconv.uint64pow10" || x.1 == "trove/object.words") = two) (h : laidMetH Tryz.prog l W) (hs : W.ShapedOpen Tryz.prog) : Gs W := by
  have h2 := laidMetH.filter (fun x => x.1 == "internal/strconv.uint64pow10" || x.1 == "trove/object.words") h
  rw [hl, MakeChecks.laidMetH_plain _ _ _ (by kernel_rfl)] at h2
  exact gs_of_two h2 (most_of hs) (big_of hs)

theorem order_two : Rows.objectOrderRow.laid.filter (fun x => x.1 == "internal/strconv.uint64pow10" || x.1 == "trove/object.words") = two := by kernel_rfl

theorem blobs_two : Rows.objectBlobsRow.laid.filter (fun x => x.1 == "internal/strconv.uint64pow10" || x.1 == "trove/object.words") = two := by kernel_rfl

end Go.Proofs.YtojgablpjdlegaaGreatDoor

/- A row's wrap that keeps both what is laid and the world's shape. -/
namespace Go.Proofs.YtojgablpjdlegaaGreatDoor

theorem handed_laid_shaped {H : Type} {enc : TypeId × Value → H} {C : Checked} {os : Os} {f : FuncId} {fn : Func} {s : ChangeSpec} {conds : List PathCond} {apart fresh handsOn again : Bool} {a : Assume} {X : World → Array Value → Prop}
    (hX : ∀ (w w' : World) (args : Array Value), w.heap = w'.heap → X w args → X w' args)
    (own : ownKnob C.prog.godebug = none) (started : os.Started) (noInit : C.prog.inits.idxOf? f = none) (hfn : C.prog.funcs[f]? = some fn)
    (witness : ∃ (w : World) (tape : Tape) (i : Input), w.os = os ∧ (w.forCall tape i).Shaped C.prog ∧ i.vars = [] ∧ Input.okWide C.prog (w.forCall tape i) .any w.heap.size f i ∧
      ((s.pre enc C.prog fn conds apart (w.forCall tape i).memory i.args ∧ X (w.forCall tape i).memory i.args) ∧ sizedMet enc C.prog fn (OpenSpec.ofChange s) apart (w.forCall tape i).memory i.args) ∧ a.holds C.prog (lone (Frame.enter C.prog f i.args .normal) [] (w.forCall tape i)))
    (walk : ∀ (W : World) (base : Nat) (args : Array Value) (ds gs : List (DataW H)) (before : List MemPlace),
      (∀ (j : Nat) t v, fn.params[j]? = some t → args[j]? = some v → Value.okWide C.prog W .any base t v) →
      DataW.Whole enc C.prog fn.params.toList s.vars apart W args.toList ds gs before → X W args → W.ShapedOpen C.prog →
      Calls C.prog f args W fun e W' => ∃ v, e = .returned v ∧ s.post enc C.prog fn apart fresh handsOn again W args v W') :
    ReturnsInHanded a C os f .any (fun w args => (s.pre enc C.prog fn conds apart w args ∧ X w args) ∧ sizedMet enc C.prog fn (OpenSpec.ofChange s) apart w args) (s.post enc C.prog fn apart fresh handsOn again) := by
  refine returnsInHanded_of_calls own started noInit witness fun w tape i _ hsh _ hok hpre _ => ?_
  obtain ⟨_, _, _, g, hg, _, _, _, _, hval⟩ := hok
  obtain rfl : g = fn := Option.some.inj (hg.symm.trans hfn)
  obtain ⟨⟨⟨ds, gs, before, hw, _⟩, hx⟩, _⟩ := hpre
  refine (walk (w.forCall tape i) w.heap.size i.args ds gs before hval (DataW.Whole.of_heap (w' := w.forCall tape i) (by rfl) hw) (hX _ _ _ (by rfl) hx) hsh).mono fun e W' hp => ?_
  obtain ⟨v, rfl, hp⟩ := hp
  exact ChangeSpec.post_blind hp

end Go.Proofs.YtojgablpjdlegaaGreatDoor
