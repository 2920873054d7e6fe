/- ObjectBytes: the law. -/
import Derived.Test.YtojgablpjdlegaaGreatDoorMR6
import Derived.Test.YtojgablpjdlegaaGreatDoorMT10
namespace Go.Proofs.YtojgablpjdlegaaGreatDoor
open Go.RowKit Go.Shelf

theorem cb27 (vs : Array Value) (w : World) : (callFunc 27 vs).run Tryz.prog w = .ok (.enter 27 vs) w := by simp [go_sem]
theorem cb28 (vs : Array Value) (w : World) : (callFunc 28 vs).run Tryz.prog w = .ok (.enter 28 vs) w := by simp [go_sem]
theorem cb29 (vs : Array Value) (w : World) : (callFunc 29 vs).run Tryz.prog w = .ok (.enter 29 vs) w := by simp [go_sem]

theorem de_at {B : Nat} {w : World} {ao : Option Addr} {n c : Nat} {d : Array En} (h : De B w (.slice ao n c) d) (h0 : 0 < n) : ∃ b, ao = some ⟨b, 0, none⟩ := by
  rcases h.own.2 with ⟨e, _⟩ | ⟨g, cap, cur, e, _⟩
  · injection e with _ e2 _
    omega
  · injection e with e1 _ _
    exact ⟨g, e1⟩

theorem step_ldx {ops : Array Oper} {o : Oper} {a : Act} {w : World} {K : Act → World → Prop} {Q : Exit → Act → World → Prop} {E : Prop} (hw : Region.wanted o (yielded ops a.tmps) = true) (ty : TypeId) (x : Operand) (ho : o.op = .load ty x) (ad : Addr) (hx : a.eval x = .pointer (some ad)) (v : Value)
    (hr : (loadVar ty ad).run Tryz.prog w = .ok v w) (hk : K (a.put o.dst v) w) : if Region.wanted o (yielded ops a.tmps) = true then Oper.wp Tryz.prog o a w K Q else E := by
  rw [if_pos hw]
  unfold Oper.wp
  simp only [execOp, ho, hx, Instr.loadAt, Instr.sureAddr, Sem.run_bind, Sem.run_pure, Result.andThen_ok, hr]
  exact hk

theorem srt_up {d r : Array (List Int)} (h : Srt d r) : Up r := up_list.2 h.1

theorem srt_le {d r : Array (List Int)} (h : Srt d r) : r.size ≤ d.size := by
  obtain ⟨t, ht⟩ := sub_perm r.toList d.toList (inc_nodup h.1) (fun x hx => (h.2 x).1 hx)
  have := ht.length_eq
  simp at this
  omega

theorem bytes_long (k : Int) (ao : Option Addr) (n c : Nat) (w : World) (hg : Gs w) (h : lgB n = true) :
    Calls Tryz.prog 4 #[.int .i64 k, .slice ao n c] w fun e w' => e = .returned (.bool true) ∧ Below w.heap.size w w' := by
  have hkn := known_yes w hg
  have hlo := fun V => longB_any ao n c V
  rw [h] at hlo
  clear hg h
  go_enter Tryz.func4, Tryz.ntmps4
  go_wp2_with fail
  refine hkn.mono ?_
  rintro e w1 ⟨rfl, b1⟩
  have HB1 : Hid (Below w.heap.size w w1) := b1
  clear hkn b1
  go_wp2_with fail
  refine (hlo w1).mono ?_
  rintro e w2 ⟨rfl, rfl⟩
  clear hlo
  go_wp2_with fail
  go_ret
  exact ⟨rfl, HB1.out⟩

set_option maxRecDepth 100000 in
set_option maxHeartbeats 16000000 in
theorem bytes_main (k : Int) (ao : Option Addr) (n c : Nat) (xs : List Int) (d : List En) (e1 : Int) (hT : AgT ao n c xs d e1) (T : List Int) (DS : List (List Int)) (A C M : List UInt8) (e2 : Int) (hC : AgC ao n c xs T DS A C M e2)
    (X : List Int) (K0 : Int) (N G L : List UInt8) (e3 : Int) (hG : AgG ao n c xs X K0 N G L e3) (MS PS : List (List Int)) (e4 : Int) (hK : AgK k ao n c xs MS PS e4) (w : World) (ht : Ts w) (hr : Rd w ao n c xs) (h : lgB n = false) :
    Calls Tryz.prog 4 #[.int .i64 k, .slice ao n c] w fun e w' => e = .returned (.bool true) ∧ Below w.heap.size w w' := by
  have hz1 := zero47
  have hz2 := zero52
  have hz3 := zero56
  have hz4 := zero60
  have HTR : Hid (∀ V : World, Below w.heap.size w V → Ts V ∧ Rd V ao n c xs) := fun V hV => ⟨ht.keep hV, hr.keep hV⟩
  have HT : Hid (AgT ao n c xs d e1) := hT
  have HC : Hid (AgC ao n c xs T DS A C M e2) := hC
  have HG : Hid (AgG ao n c xs X K0 N G L e3) := hG
  have HK : Hid (AgK k ao n c xs MS PS e4) := hK
  have hkn := known_yes w ht.gs
  have hlo := fun V => longB_any ao n c V
  rw [h] at hlo
  clear hT hC hG hK ht hr h
  go_enter Tryz.func4, Tryz.ntmps4
  go_wp2_with fail
  refine hkn.mono ?_
  rintro e w1 ⟨rfl, b1⟩
  have HB1 : Hid (Below w.heap.size w w1) := b1
  clear hkn b1
  go_wp2_with fail
  refine (hlo w1).mono ?_
  rintro e w1' ⟨rfl, hw⟩
  have hw' := hw.symm
  subst hw'
  clear hw
  clear hlo
  go_wp2_with fail
  refine (HT.out.prog w1 (HTR.out w1 HB1.out).1 (HTR.out w1 HB1.out).2).mono ?_
  rintro e w2 ⟨v, rfl, d2, b2⟩
  obtain ⟨a2, c2, hv⟩ := d2.shape
  obtain ⟨m, hm⟩ : ∃ m, m = d.length := ⟨_, rfl⟩
  rw [List.size_toArray, ← hm] at hv
  subst hv
  have HM : Hid (m = d.length) := hm
  have HB2 : Hid (Below w.heap.size w w2) := HB1.out.trans (b2.mono HB1.out.size)
  have HD2 : Hid (De w1.heap.size w2 (.slice a2 m c2) d.toArray) := d2
  clear d2 b2 hm
  go_wp2_with fail
  refine (HT.out.ref w2 (HTR.out w2 HB2.out).1 (HTR.out w2 HB2.out).2).mono ?_
  rintro e w3 ⟨v, rfl, d3, b3⟩
  obtain ⟨a3, c3, hv⟩ := d3.shape
  rw [List.size_toArray, ← HM.out] at hv
  subst hv
  have HB3 : Hid (Below w.heap.size w w3) := HB2.out.trans (b3.mono HB2.out.size)
  have HD3 : Hid (De w1.heap.size w3 (.slice a2 m c2) d.toArray ∧ Dx w2.heap.size w3 (.slice a3 m c3) d.toArray) := ⟨HD2.out.keep b3, d3⟩
  clear d3 b3
  go_wp2_with fail
  refine (HC.out.prog w3 (HTR.out w3 HB3.out).1 (HTR.out w3 HB3.out).2).mono ?_
  rintro e w4 ⟨v, rfl, d4, b4⟩
  obtain ⟨a4, c4, hv⟩ := d4.shape
  obtain ⟨p, hp⟩ : ∃ p, p = DS.length := ⟨_, rfl⟩
  rw [List.size_toArray, ← hp] at hv
  subst hv
  have HB4 : Hid (Below w.heap.size w w4) := HB3.out.trans (b4.mono HB3.out.size)
  have HK4 : Hid (Below w3.heap.size w3 w4) := b4
  have HD4 : Hid (Dp w3.heap.size w4 (.slice a4 p c4) DS.toArray) := d4
  have HP : Hid (p = DS.length) := hp
  have hr4 := rowIs_vals w4 (cf z20 nlv [] [] []) 24 47
  clear d4 b4 hp
  go_wp2_with (refine wpList_st rfl 47 _ _ rfl w4.heap.size rfl (cf T (.slice a4 p c4) A C M) rfl hr4 (by kernel_rfl) (cf_one _ _ _ _ _ rfl) ?_; intro w5 r5 f5; have HK5 : Hid (Below w4.heap.size w4 w5) := new_fr f5; have HR5 : Hid (w5.rowIs w4.heap.size 47 24 (cf T (.slice a4 p c4) A C M)) := r5; clear r5 f5)
  have HB5 : Hid (Below w.heap.size w w5) := HB4.out.trans (HK5.out.mono HB4.out.size)
  have HD5 : Hid (Dp w3.heap.size w5 (.slice a4 p c4) DS.toArray) := HD4.out.keep HK5.out
  refine (HC.out.ref w5 (HTR.out w5 HB5.out).1 (HTR.out w5 HB5.out).2).mono ?_
  rintro e w6 ⟨v, rfl, _, d6, b6⟩
  obtain ⟨a6, c6, hv⟩ := d6.shape
  rw [List.size_toArray, ← HP.out] at hv
  subst hv
  have HK6 : Hid (Below w5.heap.size w5 w6) := b6
  have HB6 : Hid (Below w.heap.size w w6) := HB5.out.trans (b6.mono HB5.out.size)
  have HD6 : Hid (Dn w5.heap.size w6 (.slice a6 p c6) DS.toArray) := d6
  have hr6 := rowIs_vals w6 (cf z20 nlv [] [] []) 24 52
  clear d6 b6
  go_wp2_with (refine wpList_st rfl 52 _ _ rfl w6.heap.size rfl (cf T (.slice a6 p c6) A C M) rfl hr6 (by kernel_rfl) (cf_one _ _ _ _ _ rfl) ?_; intro w7 r7 f7; have HK7 : Hid (Below w6.heap.size w6 w7) := new_fr f7; have HR7 : Hid (w7.rowIs w6.heap.size 52 24 (cf T (.slice a6 p c6) A C M)) := r7; clear r7 f7)
  have HB7 : Hid (Below w.heap.size w w7) := HB6.out.trans (HK7.out.mono HB6.out.size)
  refine (HG.out.prog w7 (HTR.out w7 HB7.out).1 (HTR.out w7 HB7.out).2).mono ?_
  rintro e w8 ⟨rfl, b8⟩
  have HK8 : Hid (Below w7.heap.size w7 w8) := b8
  have HB8 : Hid (Below w.heap.size w w8) := HB7.out.trans (b8.mono HB7.out.size)
  have hr8 := rowIs_vals w8 (tf z20 0 [] [] []) 24 56
  clear b8
  go_wp2_with (refine wpList_st rfl 56 _ _ rfl w8.heap.size rfl (tf X K0 N G L) rfl hr8 (by kernel_rfl) (tf_one _ _ _ _ _) ?_; intro w9 r9 f9; have HK9 : Hid (Below w8.heap.size w8 w9) := new_fr f9; have HR9 : Hid (w9.rowIs w8.heap.size 56 24 (tf X K0 N G L)) := r9; clear r9 f9)
  have HB9 : Hid (Below w.heap.size w w9) := HB8.out.trans (HK9.out.mono HB8.out.size)
  refine (HG.out.ref w9 (HTR.out w9 HB9.out).1 (HTR.out w9 HB9.out).2).mono ?_
  rintro e w10 ⟨rfl, b10⟩
  have HK10 : Hid (Below w9.heap.size w9 w10) := b10
  have HB10 : Hid (Below w.heap.size w w10) := HB9.out.trans (b10.mono HB9.out.size)
  have hr10 := rowIs_vals w10 (tf z20 0 [] [] []) 24 60
  clear b10
  go_wp2_with (refine wpList_st rfl 60 _ _ rfl w10.heap.size rfl (tf X K0 N G L) rfl hr10 (by kernel_rfl) (tf_one _ _ _ _ _) ?_; intro w11 r11 f11; have HK11 : Hid (Below w10.heap.size w10 w11) := new_fr f11; have HR11 : Hid (w11.rowIs w10.heap.size 60 24 (tf X K0 N G L)) := r11; clear r11 f11)
  have HB11 : Hid (Below w.heap.size w w11) := HB10.out.trans (HK11.out.mono HB10.out.size)
  have HX9 : Hid (Below w9.heap.size w9 w11) := HK10.out.trans (HK11.out.mono HK10.out.size)
  have HX7 : Hid (Below w7.heap.size w7 w11) := by
    have h1 : Below w7.heap.size w7 w9 := HK8.out.trans (HK9.out.mono HK8.out.size)
    exact h1.trans (HX9.out.mono h1.size)
  have HX6 : Hid (Below w6.heap.size w6 w11) := HK7.out.trans (HX7.out.mono HK7.out.size)
  have HX5 : Hid (Below w5.heap.size w5 w11) := HK6.out.trans (HX6.out.mono HK6.out.size)
  have HX3 : Hid (Below w3.heap.size w3 w11) := by
    have h1 : Below w3.heap.size w3 w5 := HK4.out.trans (HK5.out.mono HK4.out.size)
    exact h1.trans (HX5.out.mono h1.size)
  have HQ1 : Hid (∀ V, Below w11.heap.size w11 V → (loadVar 47 ⟨w4.heap.size, 0, none⟩).run Tryz.prog V = .ok (cmv T (.slice a4 p c4) A C M) V) := fun V hV => load_all (P := Tryz.prog) 47 _ (rowIs_fr (P := fun _ => False) HR5.out (Fr.ofBelow (HX5.out.trans (hV.mono HX5.out.size))) (fun h => h)) Tryz.underlying47 rfl (by kernel_rfl)
  have HQ2 : Hid (∀ V, Below w11.heap.size w11 V → (loadVar 52 ⟨w6.heap.size, 0, none⟩).run Tryz.prog V = .ok (cmv T (.slice a6 p c6) A C M) V) := fun V hV => load_all (P := Tryz.prog) 52 _ (rowIs_fr (P := fun _ => False) HR7.out (Fr.ofBelow (HX7.out.trans (hV.mono HX7.out.size))) (fun h => h)) Tryz.underlying52 rfl (by kernel_rfl)
  have HQ3 : Hid (∀ V, Below w11.heap.size w11 V → (loadVar 56 ⟨w8.heap.size, 0, none⟩).run Tryz.prog V = .ok (tmv X K0 N G L) V) := fun V hV => load_all (P := Tryz.prog) 56 _ (rowIs_fr (P := fun _ => False) HR9.out (Fr.ofBelow (HX9.out.trans (hV.mono HX9.out.size))) (fun h => h)) Tryz.underlying56 rfl (by kernel_rfl)
  have HQ4 : Hid (∀ V, Below w11.heap.size w11 V → (loadVar 60 ⟨w10.heap.size, 0, none⟩).run Tryz.prog V = .ok (tmv X K0 N G L) V) := fun V hV => load_all (P := Tryz.prog) 60 _ (rowIs_fr (P := fun _ => False) HR11.out (Fr.ofBelow hV) (fun h => h)) Tryz.underlying60 rfl (by kernel_rfl)
  have HS : Hid (∀ V, Below w11.heap.size w11 V → Calls Tryz.prog 27 #[cmv T (.slice a4 p c4) A C M, cmv T (.slice a6 p c6) A C M] V fun e w' => e = .returned (.bool true) ∧ Below w11.heap.size w11 w') := fun V hV => by
    have h5 : Dp w3.heap.size V (.slice a4 p c4) DS.toArray := HD5.out.keep (HX5.out.trans (hV.mono HX5.out.size))
    have h6 : Dn w5.heap.size V (.slice a6 p c6) DS.toArray := HD6.out.keep (HX6.out.trans (hV.mono HX6.out.size))
    exact (sameCommit_yes T _ _ A C M DS.toArray _ _ V HC.out.id h5 h6 (by have := HC.out.len; simp; omega)).mono (fun e w' ⟨g1, g2⟩ => ⟨g1, hV.trans (g2.mono hV.size)⟩)
  have HTG : Hid (∀ V, Below w11.heap.size w11 V → Calls Tryz.prog 28 #[tmv X K0 N G L] V fun e w' => e = .returned (tmv X K0 N G L) ∧ Below w11.heap.size w11 w') := fun V hV => (tag_any X K0 N G L V).mono (fun e w' ⟨g1, g2⟩ => ⟨g1, hV.trans (g2.mono hV.size)⟩)
  have HD11 : Hid (De w1.heap.size w11 (.slice a2 m c2) d.toArray ∧ Dx w2.heap.size w11 (.slice a3 m c3) d.toArray) := ⟨HD3.out.1.keep HX3.out, HD3.out.2.keep HX3.out⟩
  clear hr4 hr6 hr8 hr10
  refine wp_region_quiet (C := fun V => Below w11.heap.size w11 V) (by kernel_rfl) (by kernel_rfl) (Below.refl _ _).drew ?_
  with_reducible refine wpQuiet_step (fun K hK => ?_)
  rw [if_pos (by kernel_rfl)]
  refine oq_mv _ rfl (.int .i64 e1) (by kernel_rfl) ?_
  with_reducible refine hK _ ?_; clear hK K
  try simp only [Act.put, List.setIfInBounds_toArray, List.set_cons_zero, List.set_cons_succ]
  with_reducible refine wpQuiet_step (fun K hK => ?_)
  rw [if_pos (by kernel_rfl)]
  refine oq_mv _ rfl (.int .i64 e1) (by kernel_rfl) ?_
  with_reducible refine hK _ ?_; clear hK K
  try simp only [Act.put, List.setIfInBounds_toArray, List.set_cons_zero, List.set_cons_succ]
  with_reducible refine wpQuiet_step (fun K hK => ?_)
  rw [if_pos (by kernel_rfl)]
  refine oq_neqI _ _ _ rfl (e1) (by kernel_rfl) (by kernel_rfl) ?_
  with_reducible refine hK _ ?_; clear hK K
  try simp only [Act.put, List.setIfInBounds_toArray, List.set_cons_zero, List.set_cons_succ]
  with_reducible refine wpQuiet_step (fun K hK => ?_)
  rw [if_pos (by kernel_rfl)]
  refine oq_mv _ rfl (.bool false) (by kernel_rfl) ?_
  with_reducible refine hK _ ?_; clear hK K
  try simp only [Act.put, List.setIfInBounds_toArray, List.set_cons_zero, List.set_cons_succ]
  with_reducible refine wpQuiet_step (fun K hK => ?_)
  rw [if_pos (by kernel_rfl)]
  refine oq_mv _ rfl (.int .i64 e2) (by kernel_rfl) ?_
  with_reducible refine hK _ ?_; clear hK K
  try simp only [Act.put, List.setIfInBounds_toArray, List.set_cons_zero, List.set_cons_succ]
  with_reducible refine wpQuiet_step (fun K hK => ?_)
  rw [if_pos (by kernel_rfl)]
  refine oq_mv _ rfl (.int .i64 e2) (by kernel_rfl) ?_
  with_reducible refine hK _ ?_; clear hK K
  try simp only [Act.put, List.setIfInBounds_toArray, List.set_cons_zero, List.set_cons_succ]
  with_reducible refine wpQuiet_step (fun K hK => ?_)
  rw [if_pos (by kernel_rfl)]
  refine oq_neqI _ _ _ rfl (e2) (by kernel_rfl) (by kernel_rfl) ?_
  with_reducible refine hK _ ?_; clear hK K
  try simp only [Act.put, List.setIfInBounds_toArray, List.set_cons_zero, List.set_cons_succ]
  with_reducible refine wpQuiet_step (fun K hK => ?_)
  rw [if_pos (by kernel_rfl)]
  refine oq_pickF _ _ _ rfl (by kernel_rfl) (.bool false) (by kernel_rfl) ?_
  with_reducible refine hK _ ?_; clear hK K
  try simp only [Act.put, List.setIfInBounds_toArray, List.set_cons_zero, List.set_cons_succ]
  with_reducible refine wpQuiet_step (fun K hK => ?_)
  rw [if_pos (by kernel_rfl)]
  refine oq_mv _ rfl (.bool false) (by kernel_rfl) ?_
  with_reducible refine hK _ ?_; clear hK K
  try simp only [Act.put, List.setIfInBounds_toArray, List.set_cons_zero, List.set_cons_succ]
  with_reducible refine wpQuiet_step (fun K hK => ?_)
  rw [if_pos (by kernel_rfl)]
  refine oq_mv _ rfl (.int .i64 e3) (by kernel_rfl) ?_
  with_reducible refine hK _ ?_; clear hK K
  try simp only [Act.put, List.setIfInBounds_toArray, List.set_cons_zero, List.set_cons_succ]
  with_reducible refine wpQuiet_step (fun K hK => ?_)
  rw [if_pos (by kernel_rfl)]
  refine oq_mv _ rfl (.int .i64 e3) (by kernel_rfl) ?_
  with_reducible refine hK _ ?_; clear hK K
  try simp only [Act.put, List.setIfInBounds_toArray, List.set_cons_zero, List.set_cons_succ]
  with_reducible refine wpQuiet_step (fun K hK => ?_)
  rw [if_pos (by kernel_rfl)]
  refine oq_neqI _ _ _ rfl (e3) (by kernel_rfl) (by kernel_rfl) ?_
  with_reducible refine hK _ ?_; clear hK K
  try simp only [Act.put, List.setIfInBounds_toArray, List.set_cons_zero, List.set_cons_succ]
  with_reducible refine wpQuiet_step (fun K hK => ?_)
  rw [if_pos (by kernel_rfl)]
  refine oq_pickF _ _ _ rfl (by kernel_rfl) (.bool false) (by kernel_rfl) ?_
  with_reducible refine hK _ ?_; clear hK K
  try simp only [Act.put, List.setIfInBounds_toArray, List.set_cons_zero, List.set_cons_succ]
  with_reducible refine wpQuiet_step (fun K hK => ?_)
  rw [if_pos (by kernel_rfl)]
  refine oq_mv _ rfl (.bool false) (by kernel_rfl) ?_
  with_reducible refine hK _ ?_; clear hK K
  try simp only [Act.put, List.setIfInBounds_toArray, List.set_cons_zero, List.set_cons_succ]
  with_reducible refine wpQuiet_step (fun K hK => ?_)
  rw [if_pos (by kernel_rfl)]
  refine oq_mv _ rfl (.slice a2 m c2) (by kernel_rfl) ?_
  with_reducible refine hK _ ?_; clear hK K
  try simp only [Act.put, List.setIfInBounds_toArray, List.set_cons_zero, List.set_cons_succ]
  with_reducible refine wpQuiet_step (fun K hK => ?_)
  rw [if_pos (by kernel_rfl)]
  refine oq_len _ _ rfl a2 m c2 (by kernel_rfl) (fun w => by kernel_rfl) ?_
  with_reducible refine hK _ ?_; clear hK K
  try simp only [Act.put, List.setIfInBounds_toArray, List.set_cons_zero, List.set_cons_succ]
  with_reducible refine wpQuiet_step (fun K hK => ?_)
  rw [if_pos (by kernel_rfl)]
  refine oq_mv _ rfl (.slice a3 m c3) (by kernel_rfl) ?_
  with_reducible refine hK _ ?_; clear hK K
  try simp only [Act.put, List.setIfInBounds_toArray, List.set_cons_zero, List.set_cons_succ]
  with_reducible refine wpQuiet_step (fun K hK => ?_)
  rw [if_pos (by kernel_rfl)]
  refine oq_len _ _ rfl a3 m c3 (by kernel_rfl) (fun w => by kernel_rfl) ?_
  with_reducible refine hK _ ?_; clear hK K
  try simp only [Act.put, List.setIfInBounds_toArray, List.set_cons_zero, List.set_cons_succ]
  with_reducible refine wpQuiet_step (fun K hK => ?_)
  rw [if_pos (by kernel_rfl)]
  refine oq_neqI _ _ _ rfl ((m : Int)) (by kernel_rfl) (by kernel_rfl) ?_
  with_reducible refine hK _ ?_; clear hK K
  try simp only [Act.put, List.setIfInBounds_toArray, List.set_cons_zero, List.set_cons_succ]
  with_reducible refine wpQuiet_step (fun K hK => ?_)
  rw [if_pos (by kernel_rfl)]
  refine oq_pickF _ _ _ rfl (by kernel_rfl) (.bool false) (by kernel_rfl) ?_
  with_reducible refine hK _ ?_; clear hK K
  try simp only [Act.put, List.setIfInBounds_toArray, List.set_cons_zero, List.set_cons_succ]
  with_reducible refine wpQuiet_step (fun K hK => ?_)
  rw [if_pos (by kernel_rfl)]
  refine oq_mv _ rfl (.bool false) (by kernel_rfl) ?_
  with_reducible refine hK _ ?_; clear hK K
  try simp only [Act.put, List.setIfInBounds_toArray, List.set_cons_zero, List.set_cons_succ]
  with_reducible refine wpQuiet_step (fun K hK => ?_)
  rw [if_pos (by kernel_rfl)]
  refine oq_load 47 _ rfl ⟨w4.heap.size, 0, none⟩ (by kernel_rfl) (cmv T (.slice a4 p c4) A C M) (fun V hV => HQ1.out V hV) ?_
  with_reducible refine hK _ ?_; clear hK K
  try simp only [Act.put, List.setIfInBounds_toArray, List.set_cons_zero, List.set_cons_succ]
  with_reducible refine wpQuiet_step (fun K hK => ?_)
  rw [if_pos (by kernel_rfl)]
  refine oq_load 52 _ rfl ⟨w6.heap.size, 0, none⟩ (by kernel_rfl) (cmv T (.slice a6 p c6) A C M) (fun V hV => HQ2.out V hV) ?_
  with_reducible refine hK _ ?_; clear hK K
  try simp only [Act.put, List.setIfInBounds_toArray, List.set_cons_zero, List.set_cons_succ]
  with_reducible refine wpQuiet_step (fun K hK => ?_)
  rw [if_pos (by kernel_rfl)]
  refine oq_call2 27 cb27 _ _ _ rfl (cmv T (.slice a4 p c4) A C M) (cmv T (.slice a6 p c6) A C M) (by kernel_rfl) (by kernel_rfl) (.bool true) (fun V hV => HS.out V hV) ?_
  with_reducible refine hK _ ?_; clear hK K
  try simp only [Act.put, List.setIfInBounds_toArray, List.set_cons_zero, List.set_cons_succ]
  with_reducible refine wpQuiet_step (fun K hK => ?_)
  rw [if_pos (by kernel_rfl)]
  refine oq_not _ rfl true (by kernel_rfl) ?_
  with_reducible refine hK _ ?_; clear hK K
  try simp only [Act.put, List.setIfInBounds_toArray, List.set_cons_zero, List.set_cons_succ]
  with_reducible refine wpQuiet_step (fun K hK => ?_)
  rw [if_pos (by kernel_rfl)]
  refine oq_pickF _ _ _ rfl (by kernel_rfl) (.bool false) (by kernel_rfl) ?_
  with_reducible refine hK _ ?_; clear hK K
  try simp only [Act.put, List.setIfInBounds_toArray, List.set_cons_zero, List.set_cons_succ]
  with_reducible refine wpQuiet_step (fun K hK => ?_)
  rw [if_pos (by kernel_rfl)]
  refine oq_mv _ rfl (.bool false) (by kernel_rfl) ?_
  with_reducible refine hK _ ?_; clear hK K
  try simp only [Act.put, List.setIfInBounds_toArray, List.set_cons_zero, List.set_cons_succ]
  with_reducible refine wpQuiet_step (fun K hK => ?_)
  rw [if_pos (by kernel_rfl)]
  refine oq_load 56 _ rfl ⟨w8.heap.size, 0, none⟩ (by kernel_rfl) (tmv X K0 N G L) (fun V hV => HQ3.out V hV) ?_
  with_reducible refine hK _ ?_; clear hK K
  try simp only [Act.put, List.setIfInBounds_toArray, List.set_cons_zero, List.set_cons_succ]
  with_reducible refine wpQuiet_step (fun K hK => ?_)
  rw [if_pos (by kernel_rfl)]
  refine oq_call1 28 cb28 _ _ rfl (tmv X K0 N G L) (by kernel_rfl) (tmv X K0 N G L) (fun V hV => HTG.out V hV) ?_
  with_reducible refine hK _ ?_; clear hK K
  try simp only [Act.put, List.setIfInBounds_toArray, List.set_cons_zero, List.set_cons_succ]
  with_reducible refine wpQuiet_step (fun K hK => ?_)
  rw [if_pos (by kernel_rfl)]
  refine oq_load 60 _ rfl ⟨w10.heap.size, 0, none⟩ (by kernel_rfl) (tmv X K0 N G L) (fun V hV => HQ4.out V hV) ?_
  with_reducible refine hK _ ?_; clear hK K
  try simp only [Act.put, List.setIfInBounds_toArray, List.set_cons_zero, List.set_cons_succ]
  with_reducible refine wpQuiet_step (fun K hK => ?_)
  rw [if_pos (by kernel_rfl)]
  refine oq_bin .neq 60 _ _ _ rfl (vals (tf X K0 N G L) 24).toArray (vals (tf X K0 N G L) 24).toArray (by kernel_rfl) (by kernel_rfl) (.bool false) (by kernel_rfl) (fun V _ => neq_tmv60 X K0 N G L V) ?_
  with_reducible refine hK _ ?_; clear hK K
  try simp only [Act.put, List.setIfInBounds_toArray, List.set_cons_zero, List.set_cons_succ]
  with_reducible refine wpQuiet_step (fun K hK => ?_)
  rw [if_pos (by kernel_rfl)]
  refine oq_pickF _ _ _ rfl (by kernel_rfl) (.bool false) (by kernel_rfl) ?_
  with_reducible refine hK _ ?_; clear hK K
  try simp only [Act.put, List.setIfInBounds_toArray, List.set_cons_zero, List.set_cons_succ]
  refine wpQuiet_nil ?_
  intro w12 hB12
  have HB12 : Hid (Below w.heap.size w w12) := HB11.out.trans (hB12.mono HB11.out.size)
  have HD12 : Hid (De w1.heap.size w12 (.slice a2 m c2) d.toArray ∧ Dx w2.heap.size w12 (.slice a3 m c3) d.toArray) := ⟨HD11.out.1.keep hB12, HD11.out.2.keep hB12⟩
  clear hB12
  go_wp2_with fail
  go_loopw [17] (fun s17 wr => ∃ i : Nat, s17 = .int .i64 (i : Int) ∧ i ≤ m ∧ Hid (Below w12.heap.size w12 wr)) (fun s17 _ => m - (intOf s17).toNat)
  case atStart => exact ⟨0, rfl, Nat.zero_le _, Below.refl _ _⟩
  case round =>
    obtain ⟨i, rfl, him, HB⟩ := hrel
    by_cases hlt : i < m
    · have hq : (i : Int) < (m : Int) := by omega
      have q1 : decide ((i : Int) < (m : Int)) = true := by simp; omega
      have hwi : IntKind.i64.wrap ((i : Int) + 1) = (i : Int) + 1 := by have := HM.out; have := HT.out.len; rw [IntKind.wrap_i64]; omega
      have hsz : i < d.toArray.size := by rw [List.size_toArray, ← HM.out]; exact hlt
      obtain ⟨b, rfl⟩ := de_at HD12.out.1 (by omega)
      obtain ⟨b3, c3', hv3, hcl⟩ := HD12.out.2.cells (Nat.lt_of_le_of_lt (Nat.zero_le _) hsz)
      rw [List.size_toArray, ← HM.out] at hv3
      injection hv3 with hv31 hv32 hv33
      subst hv31
      obtain ⟨x, hx⟩ : ∃ x, d.toArray[i]! = x := ⟨_, rfl⟩
      have hxo : okE x := by rw [← hx]; exact HD12.out.1.ok i hsz
      have hDe := HD12.out.1
      rw [HM.out, ← show d.toArray.size = d.length from List.size_toArray] at hDe
      obtain ⟨hes, hmc⟩ := es_one hDe i hsz
      rw [hx] at hes
      rw [List.size_toArray, ← HM.out] at hmc
      have HE : Hid (∀ V, Below wr.heap.size wr V → Es V (.slice (some ⟨b, i * 22, none⟩) 1 (c2 - i)) #[x]) := fun V hV => hes.keep (HB.out.trans (hV.mono HB.out.size))
      have HL3 : Hid (∀ V, Below wr.heap.size wr V → (loadVar 66 ⟨b3, i * 22, none⟩).run Tryz.prog V = .ok (eV x) V) := fun V hV => ld_ent 66 Tryz.underlying66 rfl size66e (fun j hj => by rw [← hx]; exact hcl V (HB.out.trans (hV.mono HB.out.size)) i hsz j hj) hxo.id
      have HIX : Hid (∀ V : World, (Instr.indexAt 42 (.slice (some ⟨b3, 0, none⟩) m c3) (.int .i64 (i : Int))).run Tryz.prog V = .ok (.pointer (some ⟨b3, i * 22, none⟩)) V) := fun V => by
        have := run_ixf b3 0 m c3 i _ rfl hlt V
        rwa [Nat.zero_add] at this
      have HSL : Hid (∀ V : World, (Instr.sliceAt 39 (.slice (some ⟨b, 0, none⟩) m c2) (some (.int .i64 (i : Int))) (some (.int .i64 ((i : Int) + 1))) none).run Tryz.prog V = .ok (.slice (some ⟨b, i * 22, none⟩) 1 (c2 - i)) V) := fun V => by
        have := run_sl39 b m c2 i hlt hmc V
        rwa [show ((i + 1 : Nat) : Int) = (i : Int) + 1 by omega] at this
      have HXO : Hid (okE x) := hxo
      have HLT : Hid (i < m) := hlt
      have HDr : Hid (Below wr.heap.size wr wr.drew) := (Below.refl _ _).drew
      clear hcl hx hxo hDe hes hmc hlt him hv32 hv33 hsz
      go_wp2_with fail
      refine wp_region_noPanic ?_
      refine wp_region_held_drew (S := fun V => Below wr.heap.size wr V) (by kernel_rfl) HDr.out (fun hHeld => ?_)
      refine wpAnyH_take (i := 0) (oi := ⟨some 94, _, _, _, _, _⟩) (v := .slice (some ⟨b, 0, none⟩) m c2) rfl (by kernel_rfl) (by kernel_rfl) (by kernel_rfl) (fun _ _ _ h => h) (Or.inl ⟨by rfl, ?_⟩) hHeld ?_
      · (intro w' hSw; go_simp; try with_reducible rfl)
      try simp only [Act.put, List.setIfInBounds_toArray, List.set_cons_zero, List.set_cons_succ]
      refine wpAnyH_take (i := 1) (oi := ⟨some 95, _, _, _, _, _⟩) (v := .int .i64 (i : Int)) rfl (by kernel_rfl) (by kernel_rfl) (by kernel_rfl) (fun _ _ _ h => h) (Or.inl ⟨by rfl, ?_⟩) hHeld ?_
      · (intro w' hSw; go_simp; try with_reducible rfl)
      try simp only [Act.put, List.setIfInBounds_toArray, List.set_cons_zero, List.set_cons_succ]
      refine wpAnyH_take (i := 2) (oi := ⟨some 96, _, _, _, _, _⟩) (v := .int .i64 (i : Int)) rfl (by kernel_rfl) (by kernel_rfl) (by kernel_rfl) (fun _ _ _ h => h) (Or.inl ⟨by rfl, ?_⟩) hHeld ?_
      · (intro w' hSw; go_simp; try with_reducible rfl)
      try simp only [Act.put, List.setIfInBounds_toArray, List.set_cons_zero, List.set_cons_succ]
      refine wpAnyH_take (i := 3) (oi := ⟨some 97, _, _, _, _, _⟩) (v := .int .i64 ((i : Int) + 1)) rfl (by kernel_rfl) (by kernel_rfl) (by kernel_rfl) (fun _ _ _ h => h) (Or.inl ⟨by rfl, ?_⟩) hHeld ?_
      · (intro w' hSw; go_simp; try with_reducible rfl)
      try simp only [Act.put, List.setIfInBounds_toArray, List.set_cons_zero, List.set_cons_succ]
      refine wpAnyH_take (i := 4) (oi := ⟨some 98, _, _, _, _, _⟩) (v := .slice (some ⟨b, i * 22, none⟩) 1 (c2 - i)) rfl (by kernel_rfl) (by kernel_rfl) (by kernel_rfl) (fun _ _ _ h => h) (yi_sl39 (by rfl) _ _ _ rfl (.slice (some ⟨b, 0, none⟩) m c2) _ (some (.int .i64 (i : Int))) (some (.int .i64 ((i : Int) + 1))) rfl rfl rfl (fun V _ => HSL.out V)) hHeld ?_
      try simp only [Act.put, List.setIfInBounds_toArray, List.set_cons_zero, List.set_cons_succ]
      refine wpAnyH_take (i := 8) (oi := ⟨some 102, _, _, _, _, _⟩) (v := .slice (some ⟨b3, 0, none⟩) m c3) rfl (by kernel_rfl) (by kernel_rfl) (by kernel_rfl) (fun _ _ _ h => h) (Or.inl ⟨by rfl, ?_⟩) hHeld ?_
      · (intro w' hSw; go_simp; try with_reducible rfl)
      try simp only [Act.put, List.setIfInBounds_toArray, List.set_cons_zero, List.set_cons_succ]
      refine wpAnyH_take (i := 9) (oi := ⟨some 103, _, _, _, _, _⟩) (v := .int .i64 (i : Int)) rfl (by kernel_rfl) (by kernel_rfl) (by kernel_rfl) (fun _ _ _ h => h) (Or.inl ⟨by rfl, ?_⟩) hHeld ?_
      · (intro w' hSw; go_simp; try with_reducible rfl)
      try simp only [Act.put, List.setIfInBounds_toArray, List.set_cons_zero, List.set_cons_succ]
      refine wpAnyH_take (i := 10) (oi := ⟨some 104, _, _, _, _, _⟩) (v := .pointer (some ⟨b3, i * 22, none⟩)) rfl (by kernel_rfl) (by kernel_rfl) (by kernel_rfl) (fun _ _ _ h => h) (Or.inl ⟨by rfl, ?_⟩) hHeld ?_
      · (intro w' hSw; have qq := HIX.out w'; go_simp; try with_reducible rfl)
      try simp only [Act.put, List.setIfInBounds_toArray, List.set_cons_zero, List.set_cons_succ]
      refine wpAnyH_take (i := 11) (oi := ⟨some 105, _, _, _, _, _⟩) (v := eV x) rfl (by kernel_rfl) (by kernel_rfl) (by kernel_rfl) (fun _ _ _ h => h) (yi_ldv (by rfl) 66 _ rfl ⟨b3, i * 22, none⟩ rfl (eV x) (fun V hV => HL3.out V hV)) hHeld ?_
      try simp only [Act.put, List.setIfInBounds_toArray, List.set_cons_zero, List.set_cons_succ]
      refine wpAnyH_ready (rs := [5]) (by kernel_rfl) (by simp) ?_
      refine AllReadyH.cons (o := ⟨some 99, _, _, _, _, _⟩) rfl (fun K hK => ?_) AllReadyH.nil
      refine step_cl1 (C := fun v w' => Dx wr.drew.heap.size w' v #[x] ∧ Below wr.drew.heap.size wr.drew w') (by rfl) 29 cb29 _ _ rfl (.slice (some ⟨b, i * 22, none⟩) 1 (c2 - i)) rfl ((entries_any _ #[x] wr.drew (HE.out _ HDr.out) (by simp)).mono (fun e w' ⟨v', g1, g2, g3⟩ => ⟨_, g1, g2, g3⟩)) ?_
      rintro v6 w13 ⟨dx6, b13⟩
      obtain ⟨b5, c5, rfl, hc5⟩ := dx6.cells (by simp)
      have HC13 : Hid (Below wr.heap.size wr w13) := HDr.out.trans (b13.mono HDr.out.size)
      have HL5 : Hid ((loadVar 66 ⟨b5, 0, none⟩).run Tryz.prog w13 = .ok (eV x) w13) := ld_ent 66 Tryz.underlying66 rfl size66e (fun j hj => by have := hc5 w13 (Below.refl _ _) 0 (by simp) j hj; simpa using this) HXO.out.id
      refine hK.out _ _ HC13.out (fun hHeld => ?_)
      clear hK K b13 dx6 hc5
      try simp only [Act.put, List.setIfInBounds_toArray, List.set_cons_zero, List.set_cons_succ]
      refine wpAnyH_take (i := 6) (oi := ⟨some 100, _, _, _, _, _⟩) (v := .pointer (some ⟨b5, 0, none⟩)) rfl (by kernel_rfl) (by kernel_rfl) (by kernel_rfl) (fun _ _ _ h => h) (Or.inl ⟨by rfl, ?_⟩) hHeld ?_
      · (intro w' hSw; have qq := (show (Instr.indexAt 42 (.slice (some ⟨b5, 0, none⟩) 1 c5) (.int .i64 0)).run Tryz.prog w' = .ok (.pointer (some ⟨b5, 0, none⟩)) w' from run_ixf b5 0 1 c5 0 0 rfl (by omega) w'); go_simp; try with_reducible rfl)
      try simp only [Act.put, List.setIfInBounds_toArray, List.set_cons_zero, List.set_cons_succ]
      refine wpAnyH_ready (rs := [7]) (by kernel_rfl) (by simp) ?_
      refine AllReadyH.cons (o := ⟨some 101, _, _, _, _, _⟩) rfl (fun K hK => ?_) AllReadyH.nil
      refine step_ldx (by rfl) 66 _ rfl ⟨b5, 0, none⟩ rfl (eV x) HL5.out ?_
      refine hK.out _ _ HC13.out (fun hHeld => ?_)
      clear hK K
      try simp only [Act.put, List.setIfInBounds_toArray, List.set_cons_zero, List.set_cons_succ]
      refine wpAnyH_take (i := 12) (oi := ⟨some 106, _, _, _, _, _⟩) (v := .bool false) rfl (by kernel_rfl) (by kernel_rfl) (by kernel_rfl) (fun _ _ _ h => h) (yi_neq66 (by rfl) _ _ _ rfl x rfl rfl) hHeld ?_
      try simp only [Act.put, List.setIfInBounds_toArray, List.set_cons_zero, List.set_cons_succ]
      refine wpAnyH_done (by kernel_rfl) ?_ _
      refine NoPanic.normal ?_
      clear hHeld
      have HB14 : Hid (Below w12.heap.size w12 w13) := HB.out.trans (HC13.out.mono HB.out.size)
      go_wp2_with fail
      exact ⟨⟨i + 1, by simp, HLT.out, HB14⟩, by simp [intOf]; have := HLT.out; omega⟩
    · obtain rfl : i = m := by omega
      have hq : ¬ (i : Int) < (i : Int) := by omega
      have q1 : decide ((i : Int) < (i : Int)) = false := by simp
      have HBW : Hid (Below w.heap.size w wr) := HB12.out.trans (HB.out.mono HB12.out.size)
      clear him hlt
      go_wp2_with fail
      refine (HK.out.p30 wr (HTR.out wr HBW.out).1 (HTR.out wr HBW.out).2).mono ?_
      rintro e y1 ⟨v30, r, rfl, s1, s2, t1⟩
      have HY1 : Hid (Below w.heap.size w y1) := HBW.out.trans (t1.mono HBW.out.size)
      have HN1 : Hid (Srt MS.toArray r ∧ Nw wr.heap.size y1 v30 r) := ⟨s1, s2⟩
      clear s1 s2 t1
      go_wp2_with fail
      refine (HK.out.edges y1 (HTR.out y1 HY1.out).1 (HTR.out y1 HY1.out).2).mono ?_
      rintro e y2 ⟨v31, r', rfl, g1, g2, g3, t2⟩
      have hrr : r' = r := up_uniq g2 (srt_up HN1.out.1) (fun x => by rw [g3, HN1.out.1.2])
      subst hrr
      have HY2 : Hid (Below w.heap.size w y2) := HY1.out.trans (t2.mono HY1.out.size)
      have HN2 : Hid (Nw wr.heap.size y2 v30 r' ∧ Dn y1.heap.size y2 v31 r') := ⟨HN1.out.2.keep t2, g1⟩
      have HSZ : Hid (r'.size < 100000) := by
        have := srt_le HN1.out.1
        have := HK.out.len.1
        show _ < _
        simp at *
        omega
      clear g1 g2 g3 t2
      go_wp2_with fail
      refine (same_yes _ _ v30 v31 r' y2 HN2.out.1 HN2.out.2 HSZ.out).mono ?_
      rintro e y3 ⟨rfl, t3⟩
      have HY3 : Hid (Below w.heap.size w y3) := HY2.out.trans (t3.mono HY2.out.size)
      clear t3
      go_wp2_with fail
      refine (HK.out.p33 y3 (HTR.out y3 HY3.out).1 (HTR.out y3 HY3.out).2).mono ?_
      rintro e y4 ⟨rfl, t4⟩
      have HY4 : Hid (Below w.heap.size w y4) := HY3.out.trans (t4.mono HY3.out.size)
      clear t4
      go_wp2_with fail
      refine (HK.out.check y4 (HTR.out y4 HY4.out).1 (HTR.out y4 HY4.out).2).mono ?_
      rintro e y5 ⟨rfl, t5⟩
      have HY5 : Hid (Below w.heap.size w y5) := HY4.out.trans (t5.mono HY4.out.size)
      clear t5
      go_wp2_with fail
      refine (HK.out.p35 y5 (HTR.out y5 HY5.out).1 (HTR.out y5 HY5.out).2).mono ?_
      rintro e y6 ⟨v35, rfl, dp6, t6⟩
      have HY6 : Hid (Below w.heap.size w y6) := HY5.out.trans (t6.mono HY5.out.size)
      have HD6p : Hid (Dp y5.heap.size y6 v35 PS.toArray) := dp6
      clear t6 dp6
      go_wp2_with fail
      refine (HK.out.parents y6 (HTR.out y6 HY6.out).1 (HTR.out y6 HY6.out).2).mono ?_
      rintro e y7 ⟨v36, rfl, dn7, t7⟩
      have HY7 : Hid (Below w.heap.size w y7) := HY6.out.trans (t7.mono HY6.out.size)
      have HD7p : Hid (Dp y5.heap.size y7 v35 PS.toArray ∧ Dn y6.heap.size y7 v36 PS.toArray) := ⟨HD6p.out.keep t7, dn7⟩
      clear t7 dn7
      go_wp2_with fail
      refine (same_dp _ _ v35 v36 PS.toArray y7 HD7p.out.1 HD7p.out.2 (by have := HK.out.len.2; simp; omega)).mono ?_
      rintro e y8 ⟨rfl, t8⟩
      have HY8 : Hid (Below w.heap.size w y8) := HY7.out.trans (t8.mono HY7.out.size)
      clear t8
      go_wp2_with fail
      go_ret
      exact ⟨rfl, HY8.out⟩

/-- The law: yes, of any kind and any bytes. -/
theorem bytes_any (k : Int) (ao : Option Addr) (n c : Nat) (xs : List Int) (w : World) (ht : Ts w) (hr : Rd w ao n c xs) :
    Calls Tryz.prog 4 #[.int .i64 k, .slice ao n c] w fun e w' => e = .returned (.bool true) ∧ Below w.heap.size w w' := by
  by_cases h : lgB n = true
  · exact bytes_long k ao n c w ht.gs h
  · obtain ⟨d, e1, hT⟩ := agT ao n c xs hr.len hr.byt
    obtain ⟨T, DS, A, C, M, e2, hC⟩ := agC ao n c xs
    obtain ⟨X, K0, N, G, L, e3, hG⟩ := agG ao n c xs
    obtain ⟨MS, PS, e4, hK⟩ := agK_ex k ao n c xs hr.len hr.byt
    exact bytes_main k ao n c xs d e1 hT T DS A C M e2 hC X K0 N G L e3 hG MS PS e4 hK w ht hr (by simpa using h)

end Go.Proofs.YtojgablpjdlegaaGreatDoor
