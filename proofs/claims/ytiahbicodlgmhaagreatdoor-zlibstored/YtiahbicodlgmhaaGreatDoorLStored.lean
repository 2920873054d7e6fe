/- Stored blocks are just so, and are read again; their bound. -/
import Derived.Test.YtiahbicodlgmhaaGreatDoorXStw
import Derived.Test.YtiahbicodlgmhaaGreatDoorM37
namespace Go.Proofs.YtiahbicodlgmhaaGreatDoor.Z
open Go.RowKit

theorem stored_skip (a0 : Option Addr) (A ca : Nat) (n : Int) (w : World) (h0 : Tab w 0) (h1 : Tab w 1) (hA : 3000 < A ∧ A ≠ 65535 ∧ A ≠ 65536) :
    Calls Tryz.prog 5 #[.slice a0 A ca, .int .i64 n] w fun e w' => e = .returned (.bool true) ∧ Below w.heap.size w w' := by
  have hkn := known_yes w h0 h1
  have d1 : decide ((3000 : Int) < A) = true := by simp; omega
  have d2 : decide (3000 < A) = true := by simp; omega
  have d3 : ((A : Int) == 65535) = false := by simp; omega
  have d4 : ((A : Int) == 65536) = false := by simp; omega
  have d5 : ((A : Int) != 65535) = true := by simp; omega
  have d6 : ((A : Int) != 65536) = true := by simp; omega
  have d7 : ¬ ((A : Int) = 65535) := by omega
  have d8 : ¬ ((A : Int) = 65536) := by omega
  clear hA
  go_enter Tryz.func5, Tryz.ntmps5
  go_wp2_with (go_at_call 8; refine hkn.mono ?_; rintro e w1 ⟨rfl, hb1⟩)
  go_ret
  exact ⟨rfl, hb1⟩

theorem anyH_quiet {P : Program} {md : Region.Mode} {ops : Array Oper} {Q : Exit → Act → World → Prop} {S C : World → Prop} {q : Act → Prop} (hS : ∀ w, C w → S w) (hQ : ∀ a w, C w → q a → Q .normal a w) : ∀ (fuel : Nat) (listed : Array Bool) (a : Act) (w : World), C w → wpAnyQ P md ops C q fuel listed a → wpAnyH P md ops Q S fuel listed a w
  | 0, _, _, _, hC, h => ⟨h.1, hQ _ _ hC h.2⟩
  | fuel + 1, _, _, _, hC, h => ⟨fun h0 => hQ _ _ hC (h.1 h0), fun i hi => wpOp_of_qOp hC (fun a' w' hw' h' => ⟨hS w' hw', anyH_quiet hS hQ fuel _ a' w' hw' h'⟩) (h.2 i hi)⟩

theorem anyH_lex {P : Program} {md : Region.Mode} {ops : Array Oper} {Q : Exit → Act → World → Prop} {S C : World → Prop} (k : Nat) (l : List Oper) (hl : ops.toList.drop k = l) (hs : Region.noSelect ops = true) {listed : Array Bool} {a : Act} {w : World} (hB : Region.lexFrom md ops l.length k listed = true) (hS : ∀ w, C w → S w) (hC : C w) (fuel : Nat) (hf : fuel = l.length) (h : wpQuiet P ops C (fun a' => ∀ w', C w' → Q .normal a' w') l a) : wpAnyH P md ops Q S fuel listed a w := by
  rw [hf]
  exact anyH_quiet hS (fun _ w' hw' h => h w' hw') _ _ _ _ hC (wpAnyQ_lex hs l k listed a (fun j => by rw [← hl]; simp [List.getElem?_drop]) hB h)

theorem cf13 (vs : Array Value) (w : World) : (callFunc 13 vs).run Tryz.prog w = .ok (.enter 13 vs) w := by simp [go_sem]

theorem q_conv {ops : Array Oper} {o : Oper} {a : Act} {C : World → Prop} {K : Act → Prop} {E : Prop} (hw : Region.wanted o (yielded ops a.tmps) = true) (x : Operand) (ho : o.op = .convert 22 9 x) (u : Value) (hx : a.eval x = u) (v : Value)
    (hc : ∀ w, C w → (convert 22 9 u).run Tryz.prog w = .ok v w) (hk : K (a.put o.dst v)) : if Region.wanted o (yielded ops a.tmps) = true then o.quiet Tryz.prog a C K else E := by
  rw [if_pos hw]
  refine ⟨v, fun w hC => ?_, hk⟩
  have h := hc w hC
  unfold Oper.quietAt execOp
  simp only [ho, hx]
  simp [h, Oper.quietUpon]

theorem cf17 (vs : Array Value) (w : World) : (callFunc 17 vs).run Tryz.prog w = .ok (.enter 17 vs) w := by simp [go_sem]

set_option maxRecDepth 100000 in
set_option maxHeartbeats 8000000 in
theorem stored_go (a0 : Option Addr) (A ca : Nat) (xs : List Int) (n : Int) (w : World) (hra : Rd w a0 A ca xs) (hA : A ≤ 3000 ∨ A = 65535 ∨ A = 65536) (h0 : Tab w 0) (h1 : Tab w 1) :
    Calls Tryz.prog 5 #[.slice a0 A ca, .int .i64 n] w fun e w' => e = .returned (.bool true) ∧ Below w.heap.size w w' := by
  have hkn := known_yes w h0 h1
  have hA6 : A ≤ 65536 := by omega
  have HT0 : Hid (Tab w 0) := h0
  have HRA : Hid (Rd w a0 A ca xs) := hra
  have HLX : Hid (xs.length = A) := hra.len
  have HBX : Hid (∀ x ∈ xs, 0 ≤ x ∧ x < 256) := hra.byt
  obtain ⟨L, hL⟩ : ∃ L, L = ssz A := ⟨_, rfl⟩
  have HL : Hid (L = ssz A) := hL
  have hLb : L ≤ 65600 := by rw [hL]; unfold ssz nck; omega
  obtain ⟨Q, hQ⟩ : ∃ Q, Q = L + 6 := ⟨_, rfl⟩
  have HBD : Hid (∀ W, Calls Tryz.prog 13 #[.int .i64 A] W fun e w' => e = .returned (.int .i64 (Q : Int)) ∧ w' = W) := fun W => by
    rw [hQ, hL]
    exact bound_yes A W (by omega)
  have yQ : (L : Int) + 6 = Q := by omega
  have yS : IntKind.i64.wrap (Q : Int) = Q := wraps_i64 _ (by omega) (by omega)
  have HST : Hid (∀ W, Rd W a0 A ca xs → Calls Tryz.prog 15 #[.slice a0 A ca] W fun e w' => ∃ so sc, e = .returned (.slice so L sc) ∧ Rd w' so L sc (stb xs (nck A)) ∧ Below W.heap.size W w') := fun W hW => by
    refine (stored_any a0 A ca xs W hW (by omega)).mono ?_
    rintro e w' ⟨v, rfl, ho, hb⟩
    obtain ⟨so, sc, rfl, hrd, _⟩ := Lzz.own_rd ho (by8_byt _ _)
    rw [byF_stk xs hW.byt (nck A) (by rw [hW.len]; exact Nat.le_refl _), ← HL.out] at hrd
    exact ⟨so, sc, by rw [HL.out], hrd, hb⟩
  have HRS : Hid (∀ W, Rd W a0 A ca xs → Calls Tryz.prog 17 #[.slice a0 A ca] W fun e w' => ∃ so sc, e = .returned (.slice so L sc) ∧ Rd w' so L sc (stb xs (nck A)) ∧ Below W.heap.size W w') := fun W hW => by
    refine (rstored_any a0 A ca xs W hW (by omega)).mono ?_
    rintro e w' ⟨v, rfl, ho, hb⟩
    rw [← HL.out] at ho
    obtain ⟨so, sc, rfl, hrd, _⟩ := Lzz.own_rd ho (fun x hx => by
      have := by8_byt (fv (stk true xs (nck A))) ((fb (stk true xs (nck A)) + 7) / 8)
      have e := byF_stk xs hW.byt (nck A) (by rw [hW.len]; exact Nat.le_refl _)
      unfold byF at e
      rw [e] at this
      exact this x hx)
    exact ⟨so, sc, rfl, hrd, hb⟩
  have HIN : Hid (∀ W so sc, Rd W so L sc (stb xs (nck A)) → Tab W 0 → Calls Tryz.prog 16 #[.slice so L sc, .int .i64 A] W fun e w' => ∃ xo xc, e = .returned (.tuple #[.slice xo A xc, .int .i64 L, .int .i64 0]) ∧ Rd w' xo A xc xs ∧ Below W.heap.size W w') := fun W so sc hW hT => by
    have e := byF_stk xs HBX.out (nck A) (by rw [HLX.out]; exact Nat.le_refl _)
    have hf : fb (stk true xs (nck xs.length)) = 8 * ssz xs.length := stk_full true xs
    have := infl_read (bs := xs) Dfl.sto (stk_ft xs HBX.out _) HBX.out [] so L sc A W (by rw [HLX.out, e, List.append_nil]; exact hW) (by omega) hT (by rw [HLX.out]; exact Nat.le_refl _) (by omega)
    rw [HLX.out] at hf
    rw [HLX.out, hf, show (8 * ssz A + 7) / 8 = L by have := HL.out; omega] at this
    exact this
  obtain ⟨ss, hss⟩ : ∃ ss, ss = strOfNums (stb xs (nck A)) := ⟨_, rfl⟩
  obtain ⟨sx, hsx⟩ : ∃ sx, sx = strOfNums xs := ⟨_, rfl⟩
  have HS1 : Hid (∀ W so sc, Rd W so L sc (stb xs (nck A)) → (convert 22 9 (.slice so L sc)).run Tryz.prog W = .ok (.string ss) W) := fun W so sc hW => by rw [hss]; exact str22 hW
  have HS2 : Hid (∀ W so sc, Rd W so A sc xs → (convert 22 9 (.slice so A sc)).run Tryz.prog W = .ok (.string sx) W) := fun W so sc hW => by rw [hsx]; exact str22 hW
  clear h0 h1 hra hL hQ hss hsx
  go_enter Tryz.func5, Tryz.ntmps5
  go_wp2_with fail
  refine hkn.mono ?_
  rintro e w1 ⟨rfl, B1⟩
  clear hkn
  have hst := HST.out w1 (HRA.out.keep B1)
  rcases hA with hA | hA | hA
  · have d1 : decide ((3000 : Int) < A) = false := by simp; omega
    have d2 : decide (3000 < A) = false := by simp; omega
    clear hA
    go_wp2_with fail
    refine hst.mono ?_
    rintro e w2 ⟨so, sc, rfl, hs, b2⟩
    have B2 := B1.trans (b2.mono B1.size)
    have hin := HIN.out w2 so sc hs (tab_below HT0.out B2)
    have HS : Hid (Rd w2 so L sc (stb xs (nck A))) := hs
    have HB2 : Hid (Below w.heap.size w w2) := B2
    clear hst hs b2 B1 B2
    go_wp2_with fail
    refine hin.mono ?_
    rintro e w3 ⟨xo, xc, rfl, hx, b3⟩
    have HB3 : Hid (Below w.heap.size w w3) := HB2.out.trans (b3.mono HB2.out.size)
    have HQ : Hid (∀ W, Below w3.heap.size w3 W → (convert 22 9 (.slice so L sc)).run Tryz.prog W = .ok (.string ss) W ∧ (convert 22 9 (.slice xo A xc)).run Tryz.prog W = .ok (.string sx) W ∧ (convert 22 9 (.slice a0 A ca)).run Tryz.prog W = .ok (.string sx) W) := fun W hW => ⟨HS1.out W so sc ((HS.out.keep b3).keep hW), HS2.out W xo xc (hx.keep hW), HS2.out W a0 ca ((HRA.out.keep HB3.out).keep hW)⟩
    have HD : Hid (Below w3.heap.size w3 w3.drew) := (Below.refl _ _).drew
    have HR7 : Hid (Calls Tryz.prog 17 #[.slice a0 A ca] w3.drew fun e w' => ∃ v, e = .returned v ∧ ∃ so sc, v = .slice so L sc ∧ Rd w' so L sc (stb xs (nck A)) ∧ Below w3.drew.heap.size w3.drew w') := (HRS.out w3.drew (HRA.out.keep (HB3.out.trans (HD.out.mono HB3.out.size)))).mono (fun e w' ⟨so, sc, h1, h2, h3⟩ => ⟨_, h1, so, sc, rfl, h2, h3⟩)
    clear hin hx b3 HB2 HS
    go_wp2_with fail
    refine wp_region_noPanic ?_
    refine wp_region_held_drew (S := fun W => Below w3.heap.size w3 W) (by kernel_rfl) HD.out (fun hHeld => ?_)
    refine wpAnyH_take (i := 0) (oi := ⟨some 34, _, _, _, _, _⟩) (v := ?_) rfl (by kernel_rfl) (by kernel_rfl) (by kernel_rfl) (fun _ _ _ h => h) (Or.inl ⟨by rfl, ?_⟩) hHeld ?_
    rotate_left
    · (intro w' hSw; go_simp; try with_reducible rfl)
    try simp only [Act.put, List.setIfInBounds_toArray, List.set_cons_zero, List.set_cons_succ]
    refine wpAnyH_take (i := 2) (oi := ⟨some 36, _, _, _, _, _⟩) (v := ?_) rfl (by kernel_rfl) (by kernel_rfl) (by kernel_rfl) (fun _ _ _ h => h) (Or.inl ⟨by rfl, ?_⟩) hHeld ?_
    rotate_left
    · (intro w' hSw; go_simp; try with_reducible rfl)
    try simp only [Act.put, List.setIfInBounds_toArray, List.set_cons_zero, List.set_cons_succ]
    refine wpAnyH_take (i := 1) (oi := ⟨some 35, _, _, _, _, _⟩) (v := .string ss) rfl (by kernel_rfl) (by kernel_rfl) (by kernel_rfl) (fun _ _ _ h => h) (Or.inl ⟨by rfl, ?_⟩) hHeld ?_
    · (intro w' hSw; have q := (HQ.out w' hSw).1; go_simp; try with_reducible rfl)
    try simp only [Act.put, List.setIfInBounds_toArray, List.set_cons_zero, List.set_cons_succ]
    refine wpAnyH_ready (rs := [3]) (by kernel_rfl) (by simp) ?_
    refine AllReadyH.cons (o := ⟨some 37, _, _, _, _, _⟩) rfl (fun K hK => ?_) AllReadyH.nil
    refine step_call1 (by rfl) 17 cf17 _ _ rfl (.slice a0 A ca) rfl HR7.out ?_
    rintro v1 w4 ⟨ro, rc, rfl, hr4, b4⟩
    have b4' : Below w3.heap.size w3 w4 := HD.out.trans (b4.mono HD.out.size)
    refine hK.out _ _ b4' (fun hHeld => ?_)
    clear hK K
    have HC1 : Hid (∀ wq, Below w4.heap.size w4 wq → (convert 22 9 (.slice ro L rc)).run Tryz.prog wq = .ok (.string ss) wq) := fun wq hs => HS1.out wq ro rc (hr4.keep hs)
    have HC2 : Hid (∀ wq, Below w4.heap.size w4 wq → (convert 22 9 (.slice xo A xc)).run Tryz.prog wq = .ok (.string sx) wq) := fun wq hs => (HQ.out wq (b4'.trans (hs.mono b4'.size))).2.1
    have HC3 : Hid (∀ wq, Below w4.heap.size w4 wq → (convert 22 9 (.slice a0 A ca)).run Tryz.prog wq = .ok (.string sx) wq) := fun wq hs => (HQ.out wq (b4'.trans (hs.mono b4'.size))).2.2
    have HC4 : Hid (∀ wq, Below w4.heap.size w4 wq → Calls Tryz.prog 13 #[.int .i64 A] wq (fun e w' => e = .returned (.int .i64 (Q : Int)) ∧ Below w4.heap.size w4 w')) := fun wq hs => (HBD.out wq).mono (fun e w' ⟨h1, h2⟩ => ⟨h1, by rw [h2]; exact hs⟩)
    have HB4 : Hid (Below w.heap.size w w4) := HB3.out.trans (b4'.mono HB3.out.size)
    try simp only [Act.put, List.setIfInBounds_toArray, List.set_cons_zero, List.set_cons_succ]
    refine anyH_lex (C := fun W => Below w4.heap.size w4 W) 4 _ rfl (by kernel_rfl) (by kernel_rfl) (fun W hW => b4'.trans (hW.mono b4'.size)) (Below.refl _ _) _ rfl ?_
    clear hr4 b4 b4' hHeld HR7 HQ HD
    simp only [List.drop_succ_cons, List.drop_zero]
    refine wpQuiet_step (fun K hK => ?_)
    (refine q_conv (by rfl) _ rfl (.slice ro L rc) rfl (.string ss) (fun wq hs => HC1.out wq hs) (hK _ ?_); clear hK K)
    refine wpQuiet_step (fun K hK => ?_)
    (go_simp; refine ⟨_, fun wq hs => rfl, hK _ ?_⟩; clear hK K)
    refine wpQuiet_step (fun K hK => ?_)
    (go_simp; refine ⟨_, fun wq hs => rfl, hK _ ?_⟩; clear hK K)
    refine wpQuiet_step (fun K hK => ?_)
    (go_simp; refine ⟨_, fun wq hs => rfl, hK _ ?_⟩; clear hK K)
    refine wpQuiet_step (fun K hK => ?_)
    (go_simp; refine ⟨_, fun wq hs => rfl, hK _ ?_⟩; clear hK K)
    refine wpQuiet_step (fun K hK => ?_)
    (go_simp; refine ⟨_, fun wq hs => rfl, hK _ ?_⟩; clear hK K)
    refine wpQuiet_step (fun K hK => ?_)
    (go_simp; refine ⟨_, fun wq hs => rfl, hK _ ?_⟩; clear hK K)
    refine wpQuiet_step (fun K hK => ?_)
    (go_simp; refine ⟨_, fun wq hs => rfl, hK _ ?_⟩; clear hK K)
    refine wpQuiet_step (fun K hK => ?_)
    (refine q_conv (by rfl) _ rfl (.slice xo A xc) rfl (.string sx) (fun wq hs => HC2.out wq hs) (hK _ ?_); clear hK K)
    refine wpQuiet_step (fun K hK => ?_)
    (go_simp; refine ⟨_, fun wq hs => rfl, hK _ ?_⟩; clear hK K)
    refine wpQuiet_step (fun K hK => ?_)
    (refine q_conv (by rfl) _ rfl (.slice a0 A ca) rfl (.string sx) (fun wq hs => HC3.out wq hs) (hK _ ?_); clear hK K)
    refine wpQuiet_step (fun K hK => ?_)
    (go_simp; refine ⟨_, fun wq hs => rfl, hK _ ?_⟩; clear hK K)
    refine wpQuiet_step (fun K hK => ?_)
    (go_simp; refine ⟨_, fun wq hs => rfl, hK _ ?_⟩; clear hK K)
    refine wpQuiet_step (fun K hK => ?_)
    (go_simp; refine ⟨_, fun wq hs => rfl, hK _ ?_⟩; clear hK K)
    refine wpQuiet_step (fun K hK => ?_)
    (go_simp; refine ⟨_, fun wq hs => rfl, hK _ ?_⟩; clear hK K)
    refine wpQuiet_step (fun K hK => ?_)
    (go_simp; refine ⟨_, fun wq hs => rfl, hK _ ?_⟩; clear hK K)
    refine wpQuiet_step (fun K hK => ?_)
    (go_simp; refine ⟨_, fun wq hs => rfl, hK _ ?_⟩; clear hK K)
    refine wpQuiet_step (fun K hK => ?_)
    (go_simp; refine ⟨_, fun wq hs => rfl, hK _ ?_⟩; clear hK K)
    refine wpQuiet_step (fun K hK => ?_)
    (go_simp; refine ⟨_, fun wq hs => rfl, hK _ ?_⟩; clear hK K)
    refine wpQuiet_step (fun K hK => ?_)
    (go_simp; refine ⟨_, fun wq hs => rfl, hK _ ?_⟩; clear hK K)
    refine wpQuiet_step (fun K hK => ?_)
    (go_simp; refine ⟨_, fun wq hs => rfl, hK _ ?_⟩; clear hK K)
    refine wpQuiet_step (fun K hK => ?_)
    (go_simp; refine ⟨_, fun wq hs => rfl, hK _ ?_⟩; clear hK K)
    refine wpQuiet_step (fun K hK => ?_)
    (go_simp; refine ⟨_, fun wq hs => rfl, hK _ ?_⟩; clear hK K)
    refine wpQuiet_step (fun K hK => ?_)
    (go_simp; refine ⟨_, fun wq hs => rfl, hK _ ?_⟩; clear hK K)
    refine wpQuiet_step (fun K hK => ?_)
    (go_simp; refine ⟨_, fun wq hs => rfl, hK _ ?_⟩; clear hK K)
    refine wpQuiet_step (fun K hK => ?_)
    (refine q_call1 (by rfl) 13 cf13 _ _ rfl (.int .i64 (A : Int)) rfl (.int .i64 (Q : Int)) (fun wq hs => HC4.out wq hs) (hK _ ?_); clear hK K)
    refine wpQuiet_step (fun K hK => ?_)
    (go_simp; refine ⟨_, fun wq hs => rfl, hK _ ?_⟩; clear hK K)
    refine wpQuiet_step (fun K hK => ?_)
    (go_simp; refine ⟨_, fun wq hs => rfl, hK _ ?_⟩; clear hK K)
    refine wpQuiet_nil ?_
    intro w5 h5
    have HB5 : Hid (Below w.heap.size w w5) := HB4.out.trans (h5.mono HB4.out.size)
    clear h5 HB4 HC1 HC2 HC3 HC4
    refine NoPanic.normal ?_
    by_cases hn0 : n < 0
    · have e1 : decide (n < 0) = true := by simp; omega
      go_wp2_with fail
      go_ret
      exact ⟨rfl, HB5.out⟩
    · have e1 : decide (n < 0) = false := by simp; omega
      by_cases hn1 : 1073741824 < n
      · have e2 : decide ((1073741824 : Int) < n) = true := by simp; omega
        go_wp2_with fail
        go_ret
        exact ⟨rfl, HB5.out⟩
      · have e2 : decide ((1073741824 : Int) < n) = false := by simp; omega
        obtain ⟨m, rfl⟩ : ∃ m : Nat, n = m := ⟨n.toNat, by omega⟩
        have hm : m ≤ 1073741824 := by omega
        have hp := bound_yes m w5 (by omega)
        have hq := rbound_any m w5 hm
        obtain ⟨T, hT⟩ : ∃ T : Int, T = ((ssz m + 6 : Nat) : Int) := ⟨_, rfl⟩
        rw [← hT] at hp hq
        clear hT hn0 hn1 hm
        go_wp2_with (first | (go_at_call 13; refine hp.mono ?_; rintro e W5 ⟨rfl, hW5⟩; subst W5) | (go_at_call 18; refine hq.mono ?_; rintro e W6 ⟨rfl, hW6⟩; subst W6))
        go_ret
        exact ⟨rfl, HB5.out⟩
  · have d1 : decide ((3000 : Int) < A) = true := by simp; omega
    have d2 : decide (3000 < A) = true := by simp; omega
    have d3 : ((A : Int) != 65535) = false := by simp; omega
    clear hA
    go_wp2_with fail
    refine hst.mono ?_
    rintro e w2 ⟨so, sc, rfl, hs, b2⟩
    have B2 := B1.trans (b2.mono B1.size)
    have hin := HIN.out w2 so sc hs (tab_below HT0.out B2)
    have HS : Hid (Rd w2 so L sc (stb xs (nck A))) := hs
    have HB2 : Hid (Below w.heap.size w w2) := B2
    clear hst hs b2 B1 B2
    go_wp2_with fail
    refine hin.mono ?_
    rintro e w3 ⟨xo, xc, rfl, hx, b3⟩
    have HB3 : Hid (Below w.heap.size w w3) := HB2.out.trans (b3.mono HB2.out.size)
    have HQ : Hid (∀ W, Below w3.heap.size w3 W → (convert 22 9 (.slice so L sc)).run Tryz.prog W = .ok (.string ss) W ∧ (convert 22 9 (.slice xo A xc)).run Tryz.prog W = .ok (.string sx) W ∧ (convert 22 9 (.slice a0 A ca)).run Tryz.prog W = .ok (.string sx) W) := fun W hW => ⟨HS1.out W so sc ((HS.out.keep b3).keep hW), HS2.out W xo xc (hx.keep hW), HS2.out W a0 ca ((HRA.out.keep HB3.out).keep hW)⟩
    have HD : Hid (Below w3.heap.size w3 w3.drew) := (Below.refl _ _).drew
    have HR7 : Hid (Calls Tryz.prog 17 #[.slice a0 A ca] w3.drew fun e w' => ∃ v, e = .returned v ∧ ∃ so sc, v = .slice so L sc ∧ Rd w' so L sc (stb xs (nck A)) ∧ Below w3.drew.heap.size w3.drew w') := (HRS.out w3.drew (HRA.out.keep (HB3.out.trans (HD.out.mono HB3.out.size)))).mono (fun e w' ⟨so, sc, h1, h2, h3⟩ => ⟨_, h1, so, sc, rfl, h2, h3⟩)
    clear hin hx b3 HB2 HS
    go_wp2_with fail
    refine wp_region_noPanic ?_
    refine wp_region_held_drew (S := fun W => Below w3.heap.size w3 W) (by kernel_rfl) HD.out (fun hHeld => ?_)
    refine wpAnyH_take (i := 0) (oi := ⟨some 34, _, _, _, _, _⟩) (v := ?_) rfl (by kernel_rfl) (by kernel_rfl) (by kernel_rfl) (fun _ _ _ h => h) (Or.inl ⟨by rfl, ?_⟩) hHeld ?_
    rotate_left
    · (intro w' hSw; go_simp; try with_reducible rfl)
    try simp only [Act.put, List.setIfInBounds_toArray, List.set_cons_zero, List.set_cons_succ]
    refine wpAnyH_take (i := 2) (oi := ⟨some 36, _, _, _, _, _⟩) (v := ?_) rfl (by kernel_rfl) (by kernel_rfl) (by kernel_rfl) (fun _ _ _ h => h) (Or.inl ⟨by rfl, ?_⟩) hHeld ?_
    rotate_left
    · (intro w' hSw; go_simp; try with_reducible rfl)
    try simp only [Act.put, List.setIfInBounds_toArray, List.set_cons_zero, List.set_cons_succ]
    refine wpAnyH_take (i := 1) (oi := ⟨some 35, _, _, _, _, _⟩) (v := .string ss) rfl (by kernel_rfl) (by kernel_rfl) (by kernel_rfl) (fun _ _ _ h => h) (Or.inl ⟨by rfl, ?_⟩) hHeld ?_
    · (intro w' hSw; have q := (HQ.out w' hSw).1; go_simp; try with_reducible rfl)
    try simp only [Act.put, List.setIfInBounds_toArray, List.set_cons_zero, List.set_cons_succ]
    refine wpAnyH_ready (rs := [3]) (by kernel_rfl) (by simp) ?_
    refine AllReadyH.cons (o := ⟨some 37, _, _, _, _, _⟩) rfl (fun K hK => ?_) AllReadyH.nil
    refine step_call1 (by rfl) 17 cf17 _ _ rfl (.slice a0 A ca) rfl HR7.out ?_
    rintro v1 w4 ⟨ro, rc, rfl, hr4, b4⟩
    have b4' : Below w3.heap.size w3 w4 := HD.out.trans (b4.mono HD.out.size)
    refine hK.out _ _ b4' (fun hHeld => ?_)
    clear hK K
    have HC1 : Hid (∀ wq, Below w4.heap.size w4 wq → (convert 22 9 (.slice ro L rc)).run Tryz.prog wq = .ok (.string ss) wq) := fun wq hs => HS1.out wq ro rc (hr4.keep hs)
    have HC2 : Hid (∀ wq, Below w4.heap.size w4 wq → (convert 22 9 (.slice xo A xc)).run Tryz.prog wq = .ok (.string sx) wq) := fun wq hs => (HQ.out wq (b4'.trans (hs.mono b4'.size))).2.1
    have HC3 : Hid (∀ wq, Below w4.heap.size w4 wq → (convert 22 9 (.slice a0 A ca)).run Tryz.prog wq = .ok (.string sx) wq) := fun wq hs => (HQ.out wq (b4'.trans (hs.mono b4'.size))).2.2
    have HC4 : Hid (∀ wq, Below w4.heap.size w4 wq → Calls Tryz.prog 13 #[.int .i64 A] wq (fun e w' => e = .returned (.int .i64 (Q : Int)) ∧ Below w4.heap.size w4 w')) := fun wq hs => (HBD.out wq).mono (fun e w' ⟨h1, h2⟩ => ⟨h1, by rw [h2]; exact hs⟩)
    have HB4 : Hid (Below w.heap.size w w4) := HB3.out.trans (b4'.mono HB3.out.size)
    try simp only [Act.put, List.setIfInBounds_toArray, List.set_cons_zero, List.set_cons_succ]
    refine anyH_lex (C := fun W => Below w4.heap.size w4 W) 4 _ rfl (by kernel_rfl) (by kernel_rfl) (fun W hW => b4'.trans (hW.mono b4'.size)) (Below.refl _ _) _ rfl ?_
    clear hr4 b4 b4' hHeld HR7 HQ HD
    simp only [List.drop_succ_cons, List.drop_zero]
    refine wpQuiet_step (fun K hK => ?_)
    (refine q_conv (by rfl) _ rfl (.slice ro L rc) rfl (.string ss) (fun wq hs => HC1.out wq hs) (hK _ ?_); clear hK K)
    refine wpQuiet_step (fun K hK => ?_)
    (go_simp; refine ⟨_, fun wq hs => rfl, hK _ ?_⟩; clear hK K)
    refine wpQuiet_step (fun K hK => ?_)
    (go_simp; refine ⟨_, fun wq hs => rfl, hK _ ?_⟩; clear hK K)
    refine wpQuiet_step (fun K hK => ?_)
    (go_simp; refine ⟨_, fun wq hs => rfl, hK _ ?_⟩; clear hK K)
    refine wpQuiet_step (fun K hK => ?_)
    (go_simp; refine ⟨_, fun wq hs => rfl, hK _ ?_⟩; clear hK K)
    refine wpQuiet_step (fun K hK => ?_)
    (go_simp; refine ⟨_, fun wq hs => rfl, hK _ ?_⟩; clear hK K)
    refine wpQuiet_step (fun K hK => ?_)
    (go_simp; refine ⟨_, fun wq hs => rfl, hK _ ?_⟩; clear hK K)
    refine wpQuiet_step (fun K hK => ?_)
    (go_simp; refine ⟨_, fun wq hs => rfl, hK _ ?_⟩; clear hK K)
    refine wpQuiet_step (fun K hK => ?_)
    (refine q_conv (by rfl) _ rfl (.slice xo A xc) rfl (.string sx) (fun wq hs => HC2.out wq hs) (hK _ ?_); clear hK K)
    refine wpQuiet_step (fun K hK => ?_)
    (go_simp; refine ⟨_, fun wq hs => rfl, hK _ ?_⟩; clear hK K)
    refine wpQuiet_step (fun K hK => ?_)
    (refine q_conv (by rfl) _ rfl (.slice a0 A ca) rfl (.string sx) (fun wq hs => HC3.out wq hs) (hK _ ?_); clear hK K)
    refine wpQuiet_step (fun K hK => ?_)
    (go_simp; refine ⟨_, fun wq hs => rfl, hK _ ?_⟩; clear hK K)
    refine wpQuiet_step (fun K hK => ?_)
    (go_simp; refine ⟨_, fun wq hs => rfl, hK _ ?_⟩; clear hK K)
    refine wpQuiet_step (fun K hK => ?_)
    (go_simp; refine ⟨_, fun wq hs => rfl, hK _ ?_⟩; clear hK K)
    refine wpQuiet_step (fun K hK => ?_)
    (go_simp; refine ⟨_, fun wq hs => rfl, hK _ ?_⟩; clear hK K)
    refine wpQuiet_step (fun K hK => ?_)
    (go_simp; refine ⟨_, fun wq hs => rfl, hK _ ?_⟩; clear hK K)
    refine wpQuiet_step (fun K hK => ?_)
    (go_simp; refine ⟨_, fun wq hs => rfl, hK _ ?_⟩; clear hK K)
    refine wpQuiet_step (fun K hK => ?_)
    (go_simp; refine ⟨_, fun wq hs => rfl, hK _ ?_⟩; clear hK K)
    refine wpQuiet_step (fun K hK => ?_)
    (go_simp; refine ⟨_, fun wq hs => rfl, hK _ ?_⟩; clear hK K)
    refine wpQuiet_step (fun K hK => ?_)
    (go_simp; refine ⟨_, fun wq hs => rfl, hK _ ?_⟩; clear hK K)
    refine wpQuiet_step (fun K hK => ?_)
    (go_simp; refine ⟨_, fun wq hs => rfl, hK _ ?_⟩; clear hK K)
    refine wpQuiet_step (fun K hK => ?_)
    (go_simp; refine ⟨_, fun wq hs => rfl, hK _ ?_⟩; clear hK K)
    refine wpQuiet_step (fun K hK => ?_)
    (go_simp; refine ⟨_, fun wq hs => rfl, hK _ ?_⟩; clear hK K)
    refine wpQuiet_step (fun K hK => ?_)
    (go_simp; refine ⟨_, fun wq hs => rfl, hK _ ?_⟩; clear hK K)
    refine wpQuiet_step (fun K hK => ?_)
    (go_simp; refine ⟨_, fun wq hs => rfl, hK _ ?_⟩; clear hK K)
    refine wpQuiet_step (fun K hK => ?_)
    (refine q_call1 (by rfl) 13 cf13 _ _ rfl (.int .i64 (A : Int)) rfl (.int .i64 (Q : Int)) (fun wq hs => HC4.out wq hs) (hK _ ?_); clear hK K)
    refine wpQuiet_step (fun K hK => ?_)
    (go_simp; refine ⟨_, fun wq hs => rfl, hK _ ?_⟩; clear hK K)
    refine wpQuiet_step (fun K hK => ?_)
    (go_simp; refine ⟨_, fun wq hs => rfl, hK _ ?_⟩; clear hK K)
    refine wpQuiet_nil ?_
    intro w5 h5
    have HB5 : Hid (Below w.heap.size w w5) := HB4.out.trans (h5.mono HB4.out.size)
    clear h5 HB4 HC1 HC2 HC3 HC4
    refine NoPanic.normal ?_
    by_cases hn0 : n < 0
    · have e1 : decide (n < 0) = true := by simp; omega
      go_wp2_with fail
      go_ret
      exact ⟨rfl, HB5.out⟩
    · have e1 : decide (n < 0) = false := by simp; omega
      by_cases hn1 : 1073741824 < n
      · have e2 : decide ((1073741824 : Int) < n) = true := by simp; omega
        go_wp2_with fail
        go_ret
        exact ⟨rfl, HB5.out⟩
      · have e2 : decide ((1073741824 : Int) < n) = false := by simp; omega
        obtain ⟨m, rfl⟩ : ∃ m : Nat, n = m := ⟨n.toNat, by omega⟩
        have hm : m ≤ 1073741824 := by omega
        have hp := bound_yes m w5 (by omega)
        have hq := rbound_any m w5 hm
        obtain ⟨T, hT⟩ : ∃ T : Int, T = ((ssz m + 6 : Nat) : Int) := ⟨_, rfl⟩
        rw [← hT] at hp hq
        clear hT hn0 hn1 hm
        go_wp2_with (first | (go_at_call 13; refine hp.mono ?_; rintro e W5 ⟨rfl, hW5⟩; subst W5) | (go_at_call 18; refine hq.mono ?_; rintro e W6 ⟨rfl, hW6⟩; subst W6))
        go_ret
        exact ⟨rfl, HB5.out⟩
  · have d1 : decide ((3000 : Int) < A) = true := by simp; omega
    have d2 : decide (3000 < A) = true := by simp; omega
    have d3 : ((A : Int) != 65535) = true := by simp; omega
    have d5 : ((A : Int) != 65536) = false := by simp; omega
    clear hA
    go_wp2_with fail
    refine hst.mono ?_
    rintro e w2 ⟨so, sc, rfl, hs, b2⟩
    have B2 := B1.trans (b2.mono B1.size)
    have hin := HIN.out w2 so sc hs (tab_below HT0.out B2)
    have HS : Hid (Rd w2 so L sc (stb xs (nck A))) := hs
    have HB2 : Hid (Below w.heap.size w w2) := B2
    clear hst hs b2 B1 B2
    go_wp2_with fail
    refine hin.mono ?_
    rintro e w3 ⟨xo, xc, rfl, hx, b3⟩
    have HB3 : Hid (Below w.heap.size w w3) := HB2.out.trans (b3.mono HB2.out.size)
    have HQ : Hid (∀ W, Below w3.heap.size w3 W → (convert 22 9 (.slice so L sc)).run Tryz.prog W = .ok (.string ss) W ∧ (convert 22 9 (.slice xo A xc)).run Tryz.prog W = .ok (.string sx) W ∧ (convert 22 9 (.slice a0 A ca)).run Tryz.prog W = .ok (.string sx) W) := fun W hW => ⟨HS1.out W so sc ((HS.out.keep b3).keep hW), HS2.out W xo xc (hx.keep hW), HS2.out W a0 ca ((HRA.out.keep HB3.out).keep hW)⟩
    have HD : Hid (Below w3.heap.size w3 w3.drew) := (Below.refl _ _).drew
    have HR7 : Hid (Calls Tryz.prog 17 #[.slice a0 A ca] w3.drew fun e w' => ∃ v, e = .returned v ∧ ∃ so sc, v = .slice so L sc ∧ Rd w' so L sc (stb xs (nck A)) ∧ Below w3.drew.heap.size w3.drew w') := (HRS.out w3.drew (HRA.out.keep (HB3.out.trans (HD.out.mono HB3.out.size)))).mono (fun e w' ⟨so, sc, h1, h2, h3⟩ => ⟨_, h1, so, sc, rfl, h2, h3⟩)
    clear hin hx b3 HB2 HS
    go_wp2_with fail
    refine wp_region_noPanic ?_
    refine wp_region_held_drew (S := fun W => Below w3.heap.size w3 W) (by kernel_rfl) HD.out (fun hHeld => ?_)
    refine wpAnyH_take (i := 0) (oi := ⟨some 34, _, _, _, _, _⟩) (v := ?_) rfl (by kernel_rfl) (by kernel_rfl) (by kernel_rfl) (fun _ _ _ h => h) (Or.inl ⟨by rfl, ?_⟩) hHeld ?_
    rotate_left
    · (intro w' hSw; go_simp; try with_reducible rfl)
    try simp only [Act.put, List.setIfInBounds_toArray, List.set_cons_zero, List.set_cons_succ]
    refine wpAnyH_take (i := 2) (oi := ⟨some 36, _, _, _, _, _⟩) (v := ?_) rfl (by kernel_rfl) (by kernel_rfl) (by kernel_rfl) (fun _ _ _ h => h) (Or.inl ⟨by rfl, ?_⟩) hHeld ?_
    rotate_left
    · (intro w' hSw; go_simp; try with_reducible rfl)
    try simp only [Act.put, List.setIfInBounds_toArray, List.set_cons_zero, List.set_cons_succ]
    refine wpAnyH_take (i := 1) (oi := ⟨some 35, _, _, _, _, _⟩) (v := .string ss) rfl (by kernel_rfl) (by kernel_rfl) (by kernel_rfl) (fun _ _ _ h => h) (Or.inl ⟨by rfl, ?_⟩) hHeld ?_
    · (intro w' hSw; have q := (HQ.out w' hSw).1; go_simp; try with_reducible rfl)
    try simp only [Act.put, List.setIfInBounds_toArray, List.set_cons_zero, List.set_cons_succ]
    refine wpAnyH_ready (rs := [3]) (by kernel_rfl) (by simp) ?_
    refine AllReadyH.cons (o := ⟨some 37, _, _, _, _, _⟩) rfl (fun K hK => ?_) AllReadyH.nil
    refine step_call1 (by rfl) 17 cf17 _ _ rfl (.slice a0 A ca) rfl HR7.out ?_
    rintro v1 w4 ⟨ro, rc, rfl, hr4, b4⟩
    have b4' : Below w3.heap.size w3 w4 := HD.out.trans (b4.mono HD.out.size)
    refine hK.out _ _ b4' (fun hHeld => ?_)
    clear hK K
    have HC1 : Hid (∀ wq, Below w4.heap.size w4 wq → (convert 22 9 (.slice ro L rc)).run Tryz.prog wq = .ok (.string ss) wq) := fun wq hs => HS1.out wq ro rc (hr4.keep hs)
    have HC2 : Hid (∀ wq, Below w4.heap.size w4 wq → (convert 22 9 (.slice xo A xc)).run Tryz.prog wq = .ok (.string sx) wq) := fun wq hs => (HQ.out wq (b4'.trans (hs.mono b4'.size))).2.1
    have HC3 : Hid (∀ wq, Below w4.heap.size w4 wq → (convert 22 9 (.slice a0 A ca)).run Tryz.prog wq = .ok (.string sx) wq) := fun wq hs => (HQ.out wq (b4'.trans (hs.mono b4'.size))).2.2
    have HC4 : Hid (∀ wq, Below w4.heap.size w4 wq → Calls Tryz.prog 13 #[.int .i64 A] wq (fun e w' => e = .returned (.int .i64 (Q : Int)) ∧ Below w4.heap.size w4 w')) := fun wq hs => (HBD.out wq).mono (fun e w' ⟨h1, h2⟩ => ⟨h1, by rw [h2]; exact hs⟩)
    have HB4 : Hid (Below w.heap.size w w4) := HB3.out.trans (b4'.mono HB3.out.size)
    try simp only [Act.put, List.setIfInBounds_toArray, List.set_cons_zero, List.set_cons_succ]
    refine anyH_lex (C := fun W => Below w4.heap.size w4 W) 4 _ rfl (by kernel_rfl) (by kernel_rfl) (fun W hW => b4'.trans (hW.mono b4'.size)) (Below.refl _ _) _ rfl ?_
    clear hr4 b4 b4' hHeld HR7 HQ HD
    simp only [List.drop_succ_cons, List.drop_zero]
    refine wpQuiet_step (fun K hK => ?_)
    (refine q_conv (by rfl) _ rfl (.slice ro L rc) rfl (.string ss) (fun wq hs => HC1.out wq hs) (hK _ ?_); clear hK K)
    refine wpQuiet_step (fun K hK => ?_)
    (go_simp; refine ⟨_, fun wq hs => rfl, hK _ ?_⟩; clear hK K)
    refine wpQuiet_step (fun K hK => ?_)
    (go_simp; refine ⟨_, fun wq hs => rfl, hK _ ?_⟩; clear hK K)
    refine wpQuiet_step (fun K hK => ?_)
    (go_simp; refine ⟨_, fun wq hs => rfl, hK _ ?_⟩; clear hK K)
    refine wpQuiet_step (fun K hK => ?_)
    (go_simp; refine ⟨_, fun wq hs => rfl, hK _ ?_⟩; clear hK K)
    refine wpQuiet_step (fun K hK => ?_)
    (go_simp; refine ⟨_, fun wq hs => rfl, hK _ ?_⟩; clear hK K)
    refine wpQuiet_step (fun K hK => ?_)
    (go_simp; refine ⟨_, fun wq hs => rfl, hK _ ?_⟩; clear hK K)
    refine wpQuiet_step (fun K hK => ?_)
    (go_simp; refine ⟨_, fun wq hs => rfl, hK _ ?_⟩; clear hK K)
    refine wpQuiet_step (fun K hK => ?_)
    (refine q_conv (by rfl) _ rfl (.slice xo A xc) rfl (.string sx) (fun wq hs => HC2.out wq hs) (hK _ ?_); clear hK K)
    refine wpQuiet_step (fun K hK => ?_)
    (go_simp; refine ⟨_, fun wq hs => rfl, hK _ ?_⟩; clear hK K)
    refine wpQuiet_step (fun K hK => ?_)
    (refine q_conv (by rfl) _ rfl (.slice a0 A ca) rfl (.string sx) (fun wq hs => HC3.out wq hs) (hK _ ?_); clear hK K)
    refine wpQuiet_step (fun K hK => ?_)
    (go_simp; refine ⟨_, fun wq hs => rfl, hK _ ?_⟩; clear hK K)
    refine wpQuiet_step (fun K hK => ?_)
    (go_simp; refine ⟨_, fun wq hs => rfl, hK _ ?_⟩; clear hK K)
    refine wpQuiet_step (fun K hK => ?_)
    (go_simp; refine ⟨_, fun wq hs => rfl, hK _ ?_⟩; clear hK K)
    refine wpQuiet_step (fun K hK => ?_)
    (go_simp; refine ⟨_, fun wq hs => rfl, hK _ ?_⟩; clear hK K)
    refine wpQuiet_step (fun K hK => ?_)
    (go_simp; refine ⟨_, fun wq hs => rfl, hK _ ?_⟩; clear hK K)
    refine wpQuiet_step (fun K hK => ?_)
    (go_simp; refine ⟨_, fun wq hs => rfl, hK _ ?_⟩; clear hK K)
    refine wpQuiet_step (fun K hK => ?_)
    (go_simp; refine ⟨_, fun wq hs => rfl, hK _ ?_⟩; clear hK K)
    refine wpQuiet_step (fun K hK => ?_)
    (go_simp; refine ⟨_, fun wq hs => rfl, hK _ ?_⟩; clear hK K)
    refine wpQuiet_step (fun K hK => ?_)
    (go_simp; refine ⟨_, fun wq hs => rfl, hK _ ?_⟩; clear hK K)
    refine wpQuiet_step (fun K hK => ?_)
    (go_simp; refine ⟨_, fun wq hs => rfl, hK _ ?_⟩; clear hK K)
    refine wpQuiet_step (fun K hK => ?_)
    (go_simp; refine ⟨_, fun wq hs => rfl, hK _ ?_⟩; clear hK K)
    refine wpQuiet_step (fun K hK => ?_)
    (go_simp; refine ⟨_, fun wq hs => rfl, hK _ ?_⟩; clear hK K)
    refine wpQuiet_step (fun K hK => ?_)
    (go_simp; refine ⟨_, fun wq hs => rfl, hK _ ?_⟩; clear hK K)
    refine wpQuiet_step (fun K hK => ?_)
    (go_simp; refine ⟨_, fun wq hs => rfl, hK _ ?_⟩; clear hK K)
    refine wpQuiet_step (fun K hK => ?_)
    (refine q_call1 (by rfl) 13 cf13 _ _ rfl (.int .i64 (A : Int)) rfl (.int .i64 (Q : Int)) (fun wq hs => HC4.out wq hs) (hK _ ?_); clear hK K)
    refine wpQuiet_step (fun K hK => ?_)
    (go_simp; refine ⟨_, fun wq hs => rfl, hK _ ?_⟩; clear hK K)
    refine wpQuiet_step (fun K hK => ?_)
    (go_simp; refine ⟨_, fun wq hs => rfl, hK _ ?_⟩; clear hK K)
    refine wpQuiet_nil ?_
    intro w5 h5
    have HB5 : Hid (Below w.heap.size w w5) := HB4.out.trans (h5.mono HB4.out.size)
    clear h5 HB4 HC1 HC2 HC3 HC4
    refine NoPanic.normal ?_
    by_cases hn0 : n < 0
    · have e1 : decide (n < 0) = true := by simp; omega
      go_wp2_with fail
      go_ret
      exact ⟨rfl, HB5.out⟩
    · have e1 : decide (n < 0) = false := by simp; omega
      by_cases hn1 : 1073741824 < n
      · have e2 : decide ((1073741824 : Int) < n) = true := by simp; omega
        go_wp2_with fail
        go_ret
        exact ⟨rfl, HB5.out⟩
      · have e2 : decide ((1073741824 : Int) < n) = false := by simp; omega
        obtain ⟨m, rfl⟩ : ∃ m : Nat, n = m := ⟨n.toNat, by omega⟩
        have hm : m ≤ 1073741824 := by omega
        have hp := bound_yes m w5 (by omega)
        have hq := rbound_any m w5 hm
        obtain ⟨T, hT⟩ : ∃ T : Int, T = ((ssz m + 6 : Nat) : Int) := ⟨_, rfl⟩
        rw [← hT] at hp hq
        clear hT hn0 hn1 hm
        go_wp2_with (first | (go_at_call 13; refine hp.mono ?_; rintro e W5 ⟨rfl, hW5⟩; subst W5) | (go_at_call 18; refine hq.mono ?_; rintro e W6 ⟨rfl, hW6⟩; subst W6))
        go_ret
        exact ⟨rfl, HB5.out⟩

theorem stored_all (a0 : Option Addr) (A ca : Nat) (xs : List Int) (n : Int) (w : World) (hra : Rd w a0 A ca xs) (h0 : Tab w 0) (h1 : Tab w 1) :
    Calls Tryz.prog 5 #[.slice a0 A ca, .int .i64 n] w fun e w' => e = .returned (.bool true) ∧ Below w.heap.size w w' := by
  by_cases hA : A ≤ 3000 ∨ A = 65535 ∨ A = 65536
  · exact stored_go a0 A ca xs n w hra hA h0 h1
  · exact stored_skip a0 A ca n w h0 h1 (by omega)

end Go.Proofs.YtiahbicodlgmhaaGreatDoor.Z
