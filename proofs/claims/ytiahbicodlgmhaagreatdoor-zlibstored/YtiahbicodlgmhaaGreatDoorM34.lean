/- ZCutd, ZCutl, ZCutb, ZCutt. -/
import Derived.Test.YtiahbicodlgmhaaGreatDoorM33
/- A telling of which not all is there. -/
namespace Go.Proofs.YtiahbicodlgmhaaGreatDoor.Z
open Go.RowKit

set_option maxRecDepth 100000 in
set_option maxHeartbeats 1000000 in
theorem repeat_none (A : Nat) (x : Int) (w : World) (hA : w.cell? ⟨A, 0, none⟩ = some (.int .i64 x)) :
    Calls Tryz.prog 93 #[.slice (some ⟨A, 0, none⟩) 1 1, .int .i64 0] w fun e w' => ∃ v, e = .returned v ∧ Below w.heap.size w w' := by
  obtain ⟨i0, hi, hz0, hz1, hz2⟩ := info_parts Tryz.info3
  have R1 := made_row w 0
  have B1 : Below w.heap.size w (w.alloc (.cells (madeCells #[Value.int .i64 0] 0) 3)) := (Below.refl _ _).alloc (Nat.le_refl _) _
  have hA1 : Ri (w.alloc (.cells (madeCells #[Value.int .i64 0] 0) 3)) (some ⟨A, 0, none⟩) 1 1 (fun _ => x) := ⟨Nat.le_refl _, (fun e => by cases e), fun ad had j hj => by
    cases had
    obtain rfl : j = 0 := by omega
    rw [Addr.add_lit]
    exact (B1.cell (World.block_lt_of_cell? w _ hA)).trans hA⟩
  have hmul := mul_one 0 w (by omega)
  go_enter Tryz.func93, Tryz.ntmps93
  go_wp2_with (first
    | (go_at_call 126; refine hmul.mono ?_; rintro e w1 ⟨rfl, hw⟩; subst w1)
    | (at_make; refine wpList_make_row _ rfl _ _ 59 rfl 3 i0 (.int .i64 0) Tryz.underlying59 hi hz0 hz1 rfl .i64 .i64 0 rfl rfl (by rw [hz2]; omega) (by omega) ?_)
    | (refine wpList_copy_i rfl _ _ rfl w.heap.size 0 0 0 0 0 (fun _ => .int .i64 0) rfl ⟨A, 0, none⟩ 1 1 rfl R1 (by omega) (fun _ => x) hA1 (by omega) ?_; intro w3 h3 f3))
  have B3 : Below w.heap.size w w3 := B1.trans (f3.below _ B1.size (fun i hi e => by omega))
  have HB3 : Hid (Below w.heap.size w w3) := B3
  clear R1 B1 hA1 h3 f3 B3 hmul
  go_loopw [8] (fun nv wr => nv = .int .i64 0 ∧ wr = w3) (fun _ _ => 0)
  case atStart => exact ⟨rfl, rfl⟩
  case round =>
    obtain ⟨rfl, rfl⟩ := hrel
    go_wp2
    go_ret
    exact ⟨_, rfl, HB3.out⟩

theorem run_cut {w w1 w' : World} {B : Nat} {O : Obj} (hB : B ≤ w.heap.size) (f1 : Sw B w w1) (h3 : Below (w1.alloc O).heap.size (w1.alloc O) w') : Sw B w w' := by
  have b : Below w1.heap.size w1 (w1.alloc O) := (Below.refl _ _).alloc (Nat.le_refl _) _
  have b2 : Below w1.heap.size w1 w' := b.trans (h3.mono b.size)
  exact f1.trans (Sw.keep (Nat.le_trans hB f1.bel.size) b2)

set_option maxRecDepth 100000 in
set_option maxHeartbeats 1000000 in
theorem srun_no (B S R : Nat) (ao : Option Addr) (n c : Nat) (X : Int) (p : Nat) (v : Value) (os : List Int) (m : Int) (q : Cl) (ls : List Int) (la : Option Addr) (k lc : Nat) (w : World) (h : IsS w B S R ao n c X p v os m) (hq : q.ok ls) (hk : ls.length = k) (hk9 : k ≤ 1000) (hr : Ri w la k lc (fun j => ls.getD j 0)) (hl : Cut X n p q.ext) :
    Calls Tryz.prog 128 #[.pointer (some ⟨S, 0, none⟩), .int .i64 q.sym, .slice la k lc] w fun e w' => ∃ v', e = .returned (.tuple #[v', .int .i64 3]) ∧ Sw B w w' := by
  have hB := h.bB
  cases q with
  | len x =>
    have h1 := hl.ge
    have h2 := hl.sh
    simp only [Cl.ext, fb] at h2
    omega
  | rep u =>
    obtain ⟨hu, hne⟩ : u < 4 ∧ ls ≠ [] := hq
    simp only [Cl.sym, Cl.ext] at hl ⊢
    have hk0 : 0 < k := by
      rw [← hk]
      exact List.length_pos_iff.2 hne
    obtain ⟨lb', loff, rfl, hcell⟩ := hr.plain hk0
    have hc := hcell (k - 1) (by omega)
    obtain ⟨x, hx⟩ : ∃ x, x = ls.getD (k - 1) 0 := ⟨_, rfl⟩
    rw [← hx] at hc
    obtain ⟨j, hj⟩ : ∃ j, j = k - 1 := ⟨_, rfl⟩
    rw [← hj] at hc
    have z1 : (k : Int) - 1 = j := by omega
    have z2 : j < k := by omega
    have z3 : (j : Int) < k := by omega
    have z4 : (k == 0) = false := by simp; omega
    have z5 : ((k : Int) == 0) = false := by simp; omega
    have hmo := smore_no B S R n X p 2 3 os m w ⟨ao, c, v, h⟩ (by have := hl.sh; simp only [fb] at this; omega)
    clear h hr hl hx hcell hk hne hj
    go_enter Tryz.func128, Tryz.ntmps128
    go_wp2_with (first | (go_at_call 93; refine (repeat_none w1.heap.size x (w1.alloc (Obj.cells #[Value.int .i64 x] 3)) ((World.rowIs_alloc w1 #[Value.int .i64 x] 3 (fun _ => .int .i64 x) (fun i hi => by simp at hi; subst hi; rfl)).cell (i := 0) (by simp))).mono ?_; rintro e w2 ⟨v2, rfl, h3⟩) | (go_at_call 127; refine hmo.mono ?_; rintro e w1 ⟨rfl, hf1⟩))
    go_ret2
    exact ⟨_, rfl, run_cut hB hf1 h3⟩
  | few u =>
    simp only [Cl.sym, Cl.ext] at hl ⊢
    have hmo := smore_no B S R n X p 3 3 os m w ⟨ao, c, v, h⟩ (by have := hl.sh; simp only [fb] at this; omega)
    clear h hr hl hk hq
    go_enter Tryz.func128, Tryz.ntmps128
    go_wp2_with (first | (go_at_call 93; refine (repeat_none w1.heap.size 0 (w1.alloc (Obj.cells #[Value.int .i64 0] 3)) ((World.rowIs_alloc w1 #[Value.int .i64 0] 3 (fun _ => .int .i64 0) (fun i hi => by simp at hi; subst hi; rfl)).cell (i := 0) (by simp))).mono ?_; rintro e w2 ⟨v2, rfl, h3⟩) | (go_at_call 127; refine hmo.mono ?_; rintro e w1 ⟨rfl, hf1⟩))
    go_ret2
    exact ⟨_, rfl, run_cut hB hf1 h3⟩
  | many u =>
    simp only [Cl.sym, Cl.ext] at hl ⊢
    have hmo := smore_no B S R n X p 7 11 os m w ⟨ao, c, v, h⟩ (by have := hl.sh; simp only [fb] at this; omega)
    clear h hr hl hk hq
    go_enter Tryz.func128, Tryz.ntmps128
    go_wp2_with (first | (go_at_call 93; refine (repeat_none w1.heap.size 0 (w1.alloc (Obj.cells #[Value.int .i64 0] 3)) ((World.rowIs_alloc w1 #[Value.int .i64 0] 3 (fun _ => .int .i64 0) (fun i hi => by simp at hi; subst hi; rfl)).cell (i := 0) (by simp))).mono ?_; rintro e w2 ⟨v2, rfl, h3⟩) | (go_at_call 127; refine hmo.mono ?_; rintro e w1 ⟨rfl, hf1⟩))
    go_ret2
    exact ⟨_, rfl, run_cut hB hf1 h3⟩

end Go.Proofs.YtiahbicodlgmhaaGreatDoor.Z

/- Lengths of which not all are there. -/
namespace Go.Proofs.YtiahbicodlgmhaaGreatDoor.Z
open Go.RowKit

/-- What is left to be read, of what is not all there. -/
structure Lx (C : Nat → Int) (B S R : Nat) (ao : Option Addr) (n c : Nat) (X : Int) (v : Value) (os : List Int) (m : Int) (w : World) (fs : List Int) (gk : Nat) (lv : Value) (wr : World) (qs : List Cl) (p : Nat) (ls : List Int) : Prop where
  len : qs.length = gk
  st : IsS wr B S R ao n c X p v os m
  lay : Cut X n p (encC C qs)
  ok : clsOk C qs ls
  fin : cls qs ls = fs
  own : wr.ownsRow w.heap.size 3 1 lv ls.length (ls.map (Value.int .i64))
  fr : Fr (fun k => k = R) w wr

set_option maxRecDepth 100000 in
set_option maxHeartbeats 2000000 in
theorem slens_no (C : Nat → Int) (hfC : Fits C 19) (B S R : Nat) (ao : Option Addr) (n c : Nat) (X : Int) (p : Nat) (v : Value) (os : List Int) (m : Int) (A : Nat) (qs : List Cl) (fs : List Int) (N : Nat) (w : World) (h : IsS w B S R ao n c X p v os m) (hA : Cd w A C 19) (hok : clsOk C qs []) (hfs : cls qs [] = fs) (hN : fs.length = N) (hN9 : N ≤ 800) (hl : Cut X n p (encC C qs)) :
    Calls Tryz.prog 96 #[.pointer (some ⟨S, 0, none⟩), .func (.func 91) #[.pointer (some ⟨A, 0, none⟩)] #[], .int .i64 N] w fun e w' => ∃ v', e = .returned (.tuple #[v', .int .i64 3]) ∧ Sw B w w' := by
  have H0 : Hid (Lx C B S R ao n c X v os m w fs qs.length (.slice none 0 0) w qs p []) := ⟨rfl, h, hl, hok, hfs, World.ownsRow_nil _ _ _ _, Fr.refl _ _⟩
  have HI : Hid (S < w.heap.size ∧ R < w.heap.size ∧ (∀ k, v.ownBlock = some k → k < w.heap.size) ∧ ∀ ad, ao = some ad → 0 < n → ad.block < w.heap.size) := h.inside
  have HRW : Hid (∀ w', Fr (fun k => k = R) w w' → Kt w w') := fun w' hf => Kt.row h.rd.row (by decide) hf
  have HSW : Hid (∀ w', Fr (fun k => k = R) w w' → Sw B w w') := fun w' hf => h.sw hf
  have HA : Hid (Cd w A C 19) := hA
  have HN : Hid (fs.length = N) := hN
  clear h hA hok hfs hl hN
  go_enter Tryz.func96, Tryz.ntmps96
  go_wp2_with fail
  go_loopg [8] qs.length (fun gk lv wr => ∃ qs1 p1 ls, Hid (Lx C B S R ao n c X v os m w fs gk lv wr qs1 p1 ls))
  case atStart => exact ⟨qs, p, [], H0⟩
  case round =>
    obtain ⟨qs1, p1, ls, HY⟩ := hrel
    clear H0
    obtain ⟨k, hk⟩ : ∃ k, k = ls.length := ⟨_, rfl⟩
    have HK : Hid (k = ls.length) := hk
    have hown := HY.out.own
    rw [← hk] at hown
    have hlt := hown.lt
    rw [lens_iv ls k hk.symm] at hown
    obtain ⟨la, lc, rfl, hri, _⟩ := own_ri hown
    have HW : Hid (wr.ownsRow w.heap.size 3 1 (.slice la k lc) k (ls.map (Value.int .i64))) := by have := HY.out.own; rw [← hk] at this; exact this
    have HLT : Hid (∀ q, (Value.slice la k lc).ownBlock = some q → w.heap.size ≤ q ∧ q < wr.heap.size) := hlt
    have hst := HY.out.st
    have c0 := hst.row.cell (i := 0) (by omega)
    simp only [scells] at c0
    clear hown hlt
    cases qs1 with
    | nil =>
      have h1 := HY.out.lay.ge
      have h2 := HY.out.lay.sh
      simp only [encC, fb] at h2
      omega
    | cons q qs2 =>
      obtain ⟨ok1, ok2, ok3, ok4⟩ : q.ok ls ∧ 0 < C q.sym ∧ C q.sym ≤ 15 ∧ clsOk C qs2 (ls ++ List.replicate q.cnt (q.val ls)) := HY.out.ok
      have hkN : k < N := by
        have := cls_lt q qs2 ls
        rw [HY.out.fin, HN.out] at this
        omega
      have z1 : (k : Int) < N := by omega
      have hlay : Cut X n p1 (gf C 19 q.sym :: (q.ext ++ encC C qs2)) := HY.out.lay
      have A1 := HA.out.kt (HRW.out wr HY.out.fr)
      have HSR : Hid (Sw B w wr) := HSW.out wr HY.out.fr
      obtain ⟨e1, e3, e2 | ⟨e2, hl2⟩⟩ := gf_cut hlay ok2
      · have hn := snext_no B S R n X p1 os m A C 19 q.sym (C q.sym).toNat wr ⟨ao, c, v, hst⟩ A1 hfC (Cl.sym_lt ok1) e1 (by omega) (by omega) e2 e3
        clear hlay e1 e2 e3 A1 hst hri ok1 ok2 ok3 ok4 hk
        go_wp2_with (go_at_call 91; refine hn.mono ?_; rintro e w1 ⟨rfl, hw1⟩)
        go_ret2
        exact ⟨_, rfl, HSR.out.trans hw1⟩
      have hn := snext_S B S R ao n c X p1 v os m A C 19 q.sym (C q.sym).toNat wr hst A1 hfC (Cl.sym_lt ok1) e1 (by omega) (by omega) e2 e3
      have HOK : Hid (q.ok ls ∧ clsOk C qs2 (ls ++ List.replicate q.cnt (q.val ls))) := ⟨ok1, ok4⟩
      have HRI : Hid (Ri wr la k lc (fun j => ls.getD j 0)) := hri
      have hcl := Cl.cnt_le ok1
      have hnR : ∀ q, (Value.slice la k lc).ownBlock = some q → ¬ q = R := fun q hq e => by have := (HLT.out q hq).1; have := HI.out.2.1; omega
      have HNR : Hid (∀ q, (Value.slice la k lc).ownBlock = some q → ¬ q = R) := hnR
      have HFR : Hid (Fr (fun k => k = R) w wr) := HY.out.fr
      have HLA : Hid (∀ ad, la = some ad → ¬ ad.block = R) := fun ad had e => by
        rcases HW.out.2 with ⟨e1, _⟩ | ⟨g, cap, cur, e1, _⟩
        · cases e1; cases had
        · cases e1
          cases had
          exact HNR.out g rfl e
      rcases hl2.app with hc2 | ⟨hc2, hc3⟩
      · have HC2 : Hid (Cut X n (p1 + (C q.sym).toNat) q.ext) := hc2
        clear hlay hl2 e1 e2 e3 A1 hst hri ok1 ok2 ok3 ok4 hk hnR hc2
        go_wp2_with (first | (go_at_call 128; refine (srun_no B S R ao n c X (p1 + (C q.sym).toNat) v os m q ls la k lc w1 hs1 HOK.out.1 HK.out.symm (by omega) (HRI.out.fr hf1 (fun ad had _ => HLA.out ad had)) HC2.out).mono ?_; rintro e w2 ⟨v2, rfl, hw2⟩) | (go_at_call 91; refine hn.mono ?_; rintro e w1 ⟨rfl, hs1, hw1, hf1⟩))
        go_ret2
        exact ⟨_, rfl, (HSR.out.trans hw1).trans hw2⟩
      have HL2 : Hid (Lay X n (p1 + (C q.sym).toNat) q.ext) := hc2
      have HL3 : Hid (Cut X n (p1 + (C q.sym).toNat + fb q.ext) (encC C qs2)) := hc3
      clear hlay hl2 e1 e2 e3 A1 hst hri ok1 ok2 ok3 ok4 hk hnR hc2 hc3
      go_wp2_with (first | (refine wpList_append_iv rfl _ _ rfl w.heap.size k (.slice la k lc) (ls.map (Value.int .i64)) rfl (ownsRow_fr (ownsRow_fr HW.out hf1 HNR.out) hf2 HNR.out) (some ⟨g, 0, none⟩) q.cnt q.cnt (fun _ => q.val ls) rfl (Ri.row hg2) (by omega) (by have := HFR.out.size; have := hf1.size; have := hf2.size; omega) ?_; intro v3 w3 o3 g3) | (go_at_call 128; refine (srun_S B S R ao n c X (p1 + (C q.sym).toNat) v os m q ls la k lc w1 hs1 HOK.out.1 HK.out.symm (by omega) (HRI.out.fr hf1 (fun ad had _ => HLA.out ad had)) HL2.out).mono ?_; rintro e w2 ⟨g, rfl, hg2, hgb, hs2, hf2⟩) | (go_at_call 91; refine hn.mono ?_; rintro e w1 ⟨rfl, hs1, hw1, hf1⟩))
      have F2 : Fr (fun k => k = R) w w2 := (HFR.out.trans hf1 (fun _ _ e => e)).trans hf2 (fun _ _ e => e)
      have F3 : Fr (fun i => (Value.slice la k lc).ownBlock = some i) w2 w3 := (Fr.refl _ _).grown g3 (fun _ _ e => e)
      have hi := HI.out
      have hs3 : IsS w3 B S R ao n c X (p1 + (C q.sym).toNat + fb q.ext) v os m := hs2.fr F3 (fun e => by have := (HLT.out _ e).1; omega) (fun e => by have := (HLT.out _ e).1; omega) (fun i hv e => by have := (HLT.out _ e).1; have := hi.2.2.1 i hv; omega) (fun ad had hn0 e => by have := (HLT.out _ e).1; have := hi.2.2.2 ad had hn0; omega)
      have FF : Fr (fun k => k = R) w w3 := F2.trans F3 (fun i hi' e => by have := (HLT.out _ e).1; omega)
      have HNX : Hid (Lx C B S R ao n c X v os m w fs qs2.length v3 w3 qs2 (p1 + (C q.sym).toNat + fb q.ext) (ls ++ List.replicate q.cnt (q.val ls))) := by
        refine ⟨rfl, hs3, HL3.out, HOK.out.2, HY.out.fin, ?_, FF⟩
        rw [rep_iv, ← List.map_append] at o3
        rw [List.length_append, List.length_replicate, ← HK.out]
        exact o3
      have HGK : Hid (qs2.length < gk) := by
        have := HY.out.len
        simp at this
        show qs2.length < gk
        omega
      clear F2 F3 hi hs3 FF o3 g3 hg2 hgb hs2 hf2 hs1 hw1 hf1 hn HY HW HLT HNR HFR HLA HOK HL2 HL3 HRI HK HSR
      go_roundg qs2.length
      case measure => exact HGK.out
      case rel => exact ⟨qs2, _, _, HNX⟩

theorem sw_set {w w2 w3 : World} {B g : Nat} (h : Sw B w w2) (f : Fr (fun i => i = g) w2 w3) (hg : w.heap.size ≤ g) (hB : B ≤ w.heap.size) : Sw B w w3 :=
  ⟨h.bel.trans (f.below B (Nat.le_trans hB h.bel.size) (fun i hi e => by omega)), fun k c t x hk ht => by
    have hlt : k < w.heap.size := (Array.getElem?_eq_some_iff.1 hk).1
    rw [f.block k (Nat.lt_of_lt_of_le hlt h.bel.size) (fun e => by omega)]
    exact h.kt k c t x hk ht⟩

theorem vfs_drop (vs : List Nat) (k : Nat) (h : k < vs.length) : vfs (vs.drop k) = (((vs.getD k 0 : Nat) : Int), 3) :: vfs (vs.drop (k + 1)) := by
  rw [List.drop_eq_getElem_cons h]
  simp [vfs, h]

set_option maxRecDepth 100000 in
set_option maxHeartbeats 2000000 in
theorem slcode_no (B S R : Nat) (ao : Option Addr) (n c : Nat) (X : Int) (p : Nat) (v : Value) (os : List Int) (m : Int) (vs : List Nat) (w : World) (h : IsS w B S R ao n c X p v os m) (hT : Tab w 0) (hB0 : 0 < B) (h4 : 4 ≤ vs.length) (h19 : vs.length ≤ 19) (hl : Cut X n p ((((vs.length - 4 : Nat) : Int), 4) :: vfs vs)) :
    Calls Tryz.prog 95 #[.pointer (some ⟨S, 0, none⟩)] w fun e w' => ∃ v', e = .returned (.tuple #[v', .int .i64 3]) ∧ Sw B w w' := by
  obtain ⟨e1, p1 | ⟨p1, hl1⟩⟩ := hl.head
  · have hc := scount_no B S R n X p 4 4 19 os m w ⟨ao, c, v, h⟩ p1
    clear h hl e1 p1
    go_enter Tryz.func95, Tryz.ntmps95
    go_wp2_with (go_at_call 94; refine hc.mono ?_; rintro e w1 ⟨rfl, hw1⟩)
    go_ret2
    exact ⟨_, rfl, hw1⟩
  obtain ⟨i0, hi, hz0, hz1, hz2⟩ := info_parts Tryz.info3
  obtain ⟨N, hN⟩ : ∃ N, N = vs.length := ⟨_, rfl⟩
  have HL : Hid (Cut X n (p + 4) (vfs vs)) := hl1
  rw [← hN] at h4 h19 hl e1
  have HN : Hid (N = vs.length) := hN
  simp only at e1 p1
  have hc := scount_S B S R ao n c X p v os m 4 4 19 w h (by omega) p1 (by omega) (by rw [e1]; omega)
  rw [e1, show ((4 : Nat) : Int) + ((N - 4 : Nat) : Int) = (N : Int) by omega] at hc
  have HI : Hid (S < w.heap.size ∧ R < w.heap.size ∧ (∀ k, v.ownBlock = some k → k < w.heap.size) ∧ ∀ ad, ao = some ad → 0 < n → ad.block < w.heap.size) := h.inside
  have HSW : Hid (∀ w', Fr (fun k => k = R) w w' → Sw B w w') := fun w' hf => h.sw hf
  have HBW : Hid (B ≤ w.heap.size) := h.bB
  have HT : Hid (Tab w 0) := hT
  clear h hl hl1 e1 p1 hN hT
  go_enter Tryz.func95, Tryz.ntmps95
  go_wp2_with (first | (go_at_call 94; refine hc.mono ?_; rintro e w1 ⟨rfl, hs1, hw1, hf1⟩) | (at_make; refine wpList_make_row _ rfl _ _ 59 rfl 3 i0 (.int .i64 0) Tryz.underlying59 hi hz0 hz1 rfl .i64 .i64 19 rfl rfl (by rw [hz2]; omega) (by omega) ?_))
  have R1 := made_row w1 19
  have b1 : Below w1.heap.size w1 (w1.alloc (Obj.cells (madeCells #[Value.int .i64 0] 19) 3)) := (Below.refl _ _).alloc (Nat.le_refl _) _
  have hs2 := hs1.keep b1
  have F2 : Fr (fun k => k = R) w (w1.alloc (Obj.cells (madeCells #[Value.int .i64 0] 19) 3)) := hf1.alloc _
  obtain ⟨g, hg⟩ : ∃ g, g = w1.heap.size := ⟨_, rfl⟩
  have HG : Hid (w.heap.size ≤ g) := by have := hf1.size; show w.heap.size ≤ g; omega
  have HR1 : Hid ((w1.alloc (Obj.cells (madeCells #[Value.int .i64 0] 19) 3)).rowIs g 3 19 (fun j => .int .i64 (ck vs 0 j))) := by
    rw [hg]
    exact R1.congr (fun j _ => by rw [ck_zero])
  have HS2 : Hid (IsS (w1.alloc (Obj.cells (madeCells #[Value.int .i64 0] 19) 3)) B S R ao n c X (p + 4) v os m) := hs2
  have HF2 : Hid (Fr (fun k => k = R) w (w1.alloc (Obj.cells (madeCells #[Value.int .i64 0] 19) 3))) := F2
  rw [← hg]
  clear R1 b1 hs2 F2 hg hs1 hw1 hf1 hc
  generalize w1.alloc (Obj.cells (madeCells #[Value.int .i64 0] 19) 3) = W at *
  go_loopw [18] (fun iv wr => ∃ k : Nat, k ≤ N ∧ iv = .int .i64 k ∧ Hid (Cut X n (p + 4 + 3 * k) (vfs (vs.drop k))) ∧ Hid (wr.rowIs g 3 19 (fun j => .int .i64 (ck vs k j))) ∧ Hid (IsS wr B S R ao n c X (p + 4 + 3 * k) v os m) ∧ Hid (Fr (fun k => k = R) w wr)) (fun iv _ => N - (intOf iv).toNat)
  case atStart => exact ⟨0, by omega, rfl, HL, HR1, HS2, HF2⟩
  case round =>
    clear HR1 HS2 HF2 HL
    obtain ⟨k, hk, rfl, HCk, HRk, HSk, HFk⟩ := hrel
    by_cases hlt : k < N
    · have hcut := HCk.out
      rw [vfs_drop vs k (by have := HN.out; omega)] at hcut
      have hR0 : (0 : Nat) ≠ R := fun e => by have := HSk.out.bR; omega
      have HR0 : Hid ((0 : Nat) ≠ R) := hR0
      have htab : wr.cell? ⟨0, k, none⟩ = some (.int .i64 (ord k)) := by
        have h0 := HT.out k (by omega)
        rw [World.cell?_of_block (HFk.out.block 0 (World.block_lt_of_cell? w _ h0) hR0)]
        exact h0
      have ho := ord_lt k (by omega)
      obtain ⟨e1, p1 | ⟨p1, hcut2⟩⟩ := hcut.head
      · have hget := sget_no B S R n X (p + 4 + 3 * k) 3 os m wr.drew ⟨ao, c, v, HSk.out.drew⟩ p1
        obtain ⟨o, hoo⟩ : ∃ o, o = ord k := ⟨_, rfl⟩
        rw [← hoo] at htab ho
        have HTB : Hid (wr.drew.cell? ⟨0, k, none⟩ = some (.int .i64 o)) := htab
        have HSR : Hid (Sw B w wr.drew) := (HSW.out wr HFk.out).drew
        clear e1 p1 hoo hR0 hcut HCk
        go_wp2_with fail
        go_region_with (go_at_call 60; refine hget.mono ?_; rintro e w2 ⟨rfl, hw2⟩; have r2 : w2.rowIs g 3 19 (fun j => .int .i64 (ck vs k j)) := rowIs_kt HRk.out.drew hw2.kt (.inl rfl); have a2 := r2.cell (i := o) (by omega); have a3 := r2.frozen o; have a4 : w2.cell? ⟨0, k, none⟩ = some (.int .i64 o) := by (rw [hw2.bel.cell hB0]; exact HTB.out))
        all_goals
          (try simp only [List.getElem_toArray, List.getElem_cons_zero, List.getElem_cons_succ, Act.put, List.setIfInBounds_toArray, List.set_cons_zero, List.set_cons_succ])
          have F0 : Fr (fun i => i = g) w2 (w2.setCell ⟨g, o, none⟩ (.int .i64 0)) := (Fr.refl (fun i => i = g) w2).setCell (p := ⟨g, o, none⟩) rfl _
          go_wp2
          go_ret2
          exact ⟨_, rfl, sw_set (HSR.out.trans hw2) F0 HG.out HBW.out⟩
      simp only at e1 p1
      have hget := sget_S B S R ao n c X (p + 4 + 3 * k) v os m 3 wr.drew HSk.out.drew (by omega) p1
      rw [e1] at hget
      have HC2 : Hid (Cut X n (p + 4 + 3 * (k + 1)) (vfs (vs.drop (k + 1)))) := by
        rw [show p + 4 + 3 * (k + 1) = p + 4 + 3 * k + 3 by omega]
        exact hcut2
      have HST : Hid (∀ wz : World, wz.rowIs g 3 19 (fun j => .int .i64 (ck vs k j)) → (wz.setCell ⟨g, ord k, none⟩ (.int .i64 ((vs.getD k 0 : Nat) : Int))).rowIs g 3 19 (fun j => .int .i64 (ck vs (k + 1) j))) := fun wz hz => by
        refine (hz.set (ord k) (.int .i64 ((vs.getD k 0 : Nat) : Int))).congr (fun j hj => ?_)
        rw [← ck_set vs k j (by omega) hj]
        split <;> rfl
      obtain ⟨o, hoo⟩ : ∃ o, o = ord k := ⟨_, rfl⟩
      rw [← hoo] at htab ho HST
      obtain ⟨x, hx⟩ : ∃ x, x = vs.getD k 0 := ⟨_, rfl⟩
      rw [← hx] at hget HST
      have HTB : Hid (wr.drew.cell? ⟨0, k, none⟩ = some (.int .i64 o)) := htab
      clear e1 p1 hoo hx hR0 hcut hcut2 HCk
      go_wp2_with fail
      go_region_with (go_at_call 60; refine hget.mono ?_; rintro e w2 ⟨rfl, hs2, hw2, hf2⟩; have r2 : w2.rowIs g 3 19 (fun j => .int .i64 (ck vs k j)) := rowIs_fr HRk.out.drew hf2 (fun e => by have := HG.out; have := HI.out.2.1; omega); have a2 := r2.cell (i := o) (by omega); have a3 := r2.frozen o; have a4 : w2.cell? ⟨0, k, none⟩ = some (.int .i64 o) := by (rw [World.cell?_of_block (hf2.block 0 (World.block_lt_of_cell? _ _ HTB.out) HR0.out)]; exact HTB.out))
      all_goals
        (try simp only [List.getElem_toArray, List.getElem_cons_zero, List.getElem_cons_succ, Act.put, List.setIfInBounds_toArray, List.set_cons_zero, List.set_cons_succ])
        have hgl := HG.out
        have hi := HI.out
        have F0 : Fr (fun i => i = g) w2 (w2.setCell ⟨g, o, none⟩ (.int .i64 (x : Int))) := (Fr.refl (fun i => i = g) w2).setCell (p := ⟨g, o, none⟩) rfl _
        have R3 : Hid ((w2.setCell ⟨g, o, none⟩ (.int .i64 (x : Int))).rowIs g 3 19 (fun j => .int .i64 (ck vs (k + 1) j))) := HST.out w2 r2
        have S3 : Hid (IsS (w2.setCell ⟨g, o, none⟩ (.int .i64 (x : Int))) B S R ao n c X (p + 4 + 3 * (k + 1)) v os m) := hs2.fr F0 (fun e => by omega) (fun e => by omega) (fun i hv e => by have := hi.2.2.1 i hv; omega) (fun ad had hn0 e => by have := hi.2.2.2 ad had hn0; omega)
        have F3 : Hid (Fr (fun i => i = R) w (w2.setCell ⟨g, o, none⟩ (.int .i64 (x : Int)))) := (HFk.out.drew.trans hf2 (fun _ _ e => e)).trans F0 (fun i hi' e => by omega)
        generalize w2.setCell ⟨g, o, none⟩ (.int .i64 (x : Int)) = W3 at *
        clear F0 r2 a2 a3 a4 hs2 hw2 hf2 htab HTB hgl hi
        go_wp2
        go_roundw
        case rel => exact ⟨k + 1, by omega, by go_num, HC2, R3, S3, F3⟩
        case measure => simp [intOf]; omega
    · obtain rfl : k = N := by omega
      have h1 := HCk.out.ge
      have h2 := HCk.out.sh
      rw [HN.out, List.drop_length] at h2
      simp only [vfs, fb] at h2
      have := HN.out
      omega

end Go.Proofs.YtiahbicodlgmhaaGreatDoor.Z

/- Stored bytes of which not all are there, or for which there is no room. -/
namespace Go.Proofs.YtiahbicodlgmhaaGreatDoor.Z
open Go.RowKit

theorem sstored_long (B S R n : Nat) (X : Int) (p : Nat) (os : List Int) (m b : Nat) (w : World) (h : Stm w B S R n X p os m) (h8 : p % 8 = 3) (hbl : b ≤ 65535) (hol : os.length ≤ 1000000) (hroom : m < os.length + b) (hm : m ≤ 1000000)
    (hl : Lay X n p [(0, 5), ((b : Int), 16)]) :
    Calls Tryz.prog 61 #[.pointer (some ⟨S, 0, none⟩)] w fun e w' => e = .returned (.int .i64 5) ∧ Sw B w w' := by
  obtain ⟨_, _, hl1⟩ := hl.head
  obtain ⟨e1, p1, _⟩ := hl1.head
  simp only at e1 p1
  have hal : al p = p + 5 := by unfold al; omega
  have c0 := h.c0
  clear hl hl1
  go_enter Tryz.func61, Tryz.ntmps61
  go_wp2_with fail
  refine (salign_any B S R n X p os m w h).mono ?_
  rintro e w1 ⟨rfl, h1, f1⟩
  rw [hal] at h1
  clear h c0
  go_wp2_with fail
  refine (sget_any B S R n X (p + 5) 16 os m w1 h1 (by omega) p1).mono ?_
  rintro e w2 ⟨rfl, h2, f2⟩
  rw [e1]
  have k2 := h2.c2
  obtain ⟨ao, cc, k1, _⟩ := h2.c1
  obtain ⟨l, hll⟩ : ∃ l, l = os.length := ⟨_, rfl⟩
  rw [← hll] at k1 hroom hol
  have d1 : decide ((m : Int) - (l : Int) < (b : Int)) = true := by simp; omega
  have F12 : Hid (Sw B w w2.drew) := (f1.trans f2).drew
  clear hll h1 h2 f1 f2
  go_wp2_with fail
  go_region
  clear k1 k2
  go_wp2
  go_ret
  exact ⟨rfl, F12.out⟩

set_option maxRecDepth 100000 in
set_option maxHeartbeats 2000000 in
theorem sstored_cut (B S R n : Nat) (X : Int) (p : Nat) (os bs : List Int) (m : Nat) (w : World) (h : Stm w B S R n X p os m) (h8 : p % 8 = 3) (hb : ∀ x ∈ bs, 0 ≤ x ∧ x < 256) (hbl : bs.length ≤ 65535) (hroom : os.length + bs.length ≤ m) (hm : m ≤ 1000000)
    (hl : Cut X n p ((0, 5) :: ((bs.length : Int), 16) :: (65535 - (bs.length : Int), 16) :: bfs bs)) :
    Calls Tryz.prog 61 #[.pointer (some ⟨S, 0, none⟩)] w fun e w' => e = .returned (.int .i64 3) ∧ Sw B w w' := by
  obtain ⟨i0, hi, hz0, hz1, hz2⟩ := info_parts Tryz.info5
  have hal : al p = p + 5 := by unfold al; omega
  have c0 := h.c0
  have hge := hl.ge
  obtain ⟨_, hp0 | ⟨_, hl1⟩⟩ := hl.head
  · simp only at hp0
    omega
  obtain ⟨e1, p1 | ⟨p1, hl2⟩⟩ := hl1.head
  · have hsa := salign_any B S R n X p os m w h
    clear hl hl1
    go_enter Tryz.func61, Tryz.ntmps61
    go_wp2_with fail
    refine hsa.mono ?_
    rintro e w1 ⟨rfl, h1, f1⟩
    rw [hal] at h1
    clear h c0
    go_wp2_with fail
    refine (sget_no B S R n X (p + 5) 16 os m w1 h1 p1).mono ?_
    rintro e w2 ⟨rfl, f2⟩
    clear h1
    go_wp2
    go_ret
    exact ⟨rfl, f1.trans f2⟩
  simp only at e1 p1
  have hfl := flip16 bs.length (by omega)
  obtain ⟨b, hbb⟩ : ∃ b, b = bs.length := ⟨_, rfl⟩
  have HB : Hid (b = bs.length) := hbb
  have HL2 : Hid (Cut X n (p + 5 + 16) ((65535 - (bs.length : Int), 16) :: bfs bs)) := hl2
  rw [← hbb] at e1 hfl hroom hbl
  clear hl hl1 hbb hl2
  go_enter Tryz.func61, Tryz.ntmps61
  go_wp2_with fail
  refine (salign_any B S R n X p os m w h).mono ?_
  rintro e w1 ⟨rfl, h1, f1⟩
  rw [hal] at h1
  clear h c0
  go_wp2_with fail
  refine (sget_any B S R n X (p + 5) 16 os m w1 h1 (by omega) p1).mono ?_
  rintro e w2 ⟨rfl, h2, f2⟩
  rw [e1]
  have k2 := h2.c2
  obtain ⟨ao, cc, k1, _⟩ := h2.c1
  obtain ⟨l, hll⟩ : ∃ l, l = os.length := ⟨_, rfl⟩
  have HLL : Hid (l = os.length) := hll
  rw [← hll] at k1 hroom
  have d1 : decide ((m : Int) - (l : Int) < (b : Int)) = false := by simp; omega
  have h2d := h2.drew
  have f12 := (f1.trans f2).drew
  clear hll h1 h2 f1 f2
  go_wp2_with fail
  go_region
  clear k1 k2 d1
  obtain ⟨e2, p2' | ⟨p2', hl3⟩⟩ := HL2.out.head
  · go_wp2_with fail
    refine (sget_no B S R n X (p + 5 + 16) 16 os m w2.drew h2d p2').mono ?_
    rintro e w3 ⟨rfl, f3⟩
    clear h2d
    go_wp2
    go_ret
    exact ⟨rfl, f12.trans f3⟩
  simp only at e2 p2'
  rw [← HB.out] at e2
  have HL : Hid (Cut X n (p + 5 + 16 + 16) (bfs bs)) := hl3
  clear hl3
  go_wp2_with fail
  refine (sget_any B S R n X (p + 5 + 16) 16 os m w2.drew h2d (by omega) p2').mono ?_
  rintro e w3 ⟨rfl, h3, f3⟩
  rw [e2]
  have H3 : Hid (Stm w3 B S R n X (p + 5 + 16 + 16) os m) := h3
  have F3 : Hid (Sw B w w3) := f12.trans f3
  clear h2d f12 h3 f3 e1 e2 p1 p2' HL2
  go_wp2
  go_loopw [46] (fun iv wr => ∃ k : Nat, k ≤ b ∧ iv = .int .i64 k ∧ Hid (Stm wr B S R n X (p + 5 + 16 + 16 + 8 * k) (os ++ bs.take k) m) ∧ Hid (Cut X n (p + 5 + 16 + 16 + 8 * k) (bfs (bs.drop k))) ∧ Hid (Sw B w wr)) (fun iv _ => b - (intOf iv).toNat)
  case atStart => exact ⟨0, by omega, rfl, by simpa using H3, by simpa using HL, F3⟩
  case round =>
    clear H3 F3 HL
    obtain ⟨k, hk, rfl, HS, HL, HW⟩ := hrel
    by_cases hlt : k < b
    · have hkb : k < bs.length := by have := HB.out; omega
      obtain ⟨x, hx⟩ : ∃ x, x = bs[k] := ⟨_, rfl⟩
      have hdr : bs.drop k = x :: bs.drop (k + 1) := by rw [hx]; exact List.drop_eq_getElem_cons hkb
      have hlay := HL.out
      rw [hdr] at hlay
      obtain ⟨e1, p1 | ⟨p1, hlay2⟩⟩ := Cut.head (x := (x, 8)) (l := bfs (bs.drop (k + 1))) hlay
      · have hget := sget_no B S R n X (p + 5 + 16 + 16 + 8 * k) 8 (os ++ bs.take k) m wr HS.out p1
        clear hdr hlay e1 p1 HL HS hx
        go_wp2_with fail
        refine hget.mono ?_
        rintro e w4 ⟨rfl, f4⟩
        go_wp2
        go_ret
        exact ⟨rfl, HW.out.trans f4⟩
      simp only at e1 p1 hlay2
      have hxb := hb x (by rw [hx]; exact List.getElem_mem _)
      have hget := sget_any B S R n X (p + 5 + 16 + 16 + 8 * k) 8 (os ++ bs.take k) m wr HS.out (by omega) p1
      rw [e1] at hget
      have q3 : IntKind.u8.wrap x = x := by simp [IntKind.wrap, IntKind.bits, IntKind.signed]; omega
      have htk : bs.take (k + 1) = bs.take k ++ [x] := by rw [hx]; simp
      have HT : Hid (os ++ bs.take (k + 1) = (os ++ bs.take k) ++ [x]) := by
        show os ++ bs.take (k + 1) = (os ++ bs.take k) ++ [x]
        rw [htk, List.append_assoc]
      have HL2 : Hid (Cut X n (p + 5 + 16 + 16 + 8 * (k + 1)) (bfs (bs.drop (k + 1)))) := by
        show Cut X n (p + 5 + 16 + 16 + 8 * (k + 1)) (bfs (bs.drop (k + 1)))
        rw [show p + 5 + 16 + 16 + 8 * (k + 1) = p + 5 + 16 + 16 + 8 * k + 8 by omega]
        exact hlay2
      obtain ⟨ys, hys⟩ : ∃ ys, ys = os ++ bs.take k := ⟨_, rfl⟩
      rw [← hys] at hget
      have hyl : ys.length ≤ 1000000 := by rw [hys, List.length_append, List.length_take, ← HLL.out, ← HB.out]; omega
      have HYS : Hid (ys = os ++ bs.take k) := hys
      clear hdr hlay hlay2 e1 p1 htk hys HL HS hx
      go_wp2_with fail
      refine hget.mono ?_
      rintro e w4 ⟨rfl, h4, f4⟩
      obtain ⟨aa, ac, av, h5⟩ := h4
      obtain ⟨vo, vc, rfl⟩ := slice_len h5.own
      have c1 := h5.row.cell (i := 1) (by omega)
      simp only [scells] at c1
      have H5 : Hid (IsS w4 B S R aa n ac X (p + 5 + 16 + 16 + 8 * k + 8) (.slice vo ys.length vc) ys m) := h5
      obtain ⟨ly, hly⟩ : ∃ ly, ly = ys.length := ⟨_, rfl⟩
      have HY : Hid (ly = ys.length) := hly
      rw [← hly] at c1 hyl
      clear h5 hget hly
      go_wp2_with (at_builtin; refine wpList_append_lies _ rfl _ _ 22 rfl 0 5 i0 (.int .u8 0) 1 1 Tryz.underlying22 hi hz0 hz1 hz2 rfl (by decide) (.slice vo ly vc) ly (ys.map (Value.int .u8)) rfl (by rw [HY.out]; exact H5.out.own.alloc _) ⟨w4.heap.size, 0, none⟩ 1 1 [_] rfl rfl (cell_one_new _ _ _) (by intro u hu; simp at hu; subst hu; rfl) (by omega) (by unfold maxLen; omega) (by omega) (by omega) (w4.heap.size + 1) (by simp) ?_; intro g c5 w5 o5 g5 l5 s5; rw [HY.out] at o5 g5 l5; have k0 := (s_after H5.out g5).cell (i := 1) (by omega); have k1 := (s_after H5.out g5).frozen 1; have HO : Hid (w5.ownsRow 0 5 1 (.slice (some ⟨g, 0, none⟩) (ys.length + 1) c5) (ys.length + 1) (ys.map (Value.int .u8) ++ [.int .u8 x]) ∧ (w4.alloc (Obj.cells #[Value.int IntKind.u8 x] 5)).grownBy w5 (Value.slice vo ys.length vc).ownBlock ∧ ((Value.slice vo ys.length vc).ownBlock = some g ∨ g = w4.heap.size + 1)) := ⟨o5, g5, l5⟩; clear o5 g5 l5 s5)
      obtain ⟨r1, r2⟩ := s_pushed H5.out hxb.1 hxb.2 HO.out.1 HO.out.2.1 HO.out.2.2
      have R1 : Hid (Stm (w5.setCell ⟨S, 1, none⟩ (.slice (some ⟨g, 0, none⟩) (ly + 1) c5)) B S R n X (p + 5 + 16 + 16 + 8 * (k + 1)) (os ++ bs.take (k + 1)) m) := by
        show Stm _ _ _ _ _ _ _ _ _
        rw [HT.out, ← HYS.out, HY.out, show p + 5 + 16 + 16 + 8 * (k + 1) = p + 5 + 16 + 16 + 8 * k + 8 by omega]
        exact ⟨_, _, _, r1⟩
      have R2 : Hid (Sw B w (w5.setCell ⟨S, 1, none⟩ (.slice (some ⟨g, 0, none⟩) (ly + 1) c5))) := by
        show Sw B w _
        rw [HY.out]
        exact (HW.out.trans f4).trans r2
      clear r1 r2 HO H5 f4 HW k0 k1 c1
      go_roundw
      case rel => exact ⟨k + 1, by omega, by go_num, R1, HL2, R2⟩
      case measure => simp [intOf]; omega
    · obtain rfl : k = b := by omega
      have h1 := HL.out.ge
      have h2 := HL.out.sh
      rw [List.drop_eq_nil_of_le (by have := HB.out; omega)] at h2
      simp only [bfs, List.map_nil, fb] at h2
      omega

end Go.Proofs.YtiahbicodlgmhaaGreatDoor.Z

/- A told block of which not all is there; blocks. -/
namespace Go.Proofs.YtiahbicodlgmhaaGreatDoor.Z
open Go.RowKit

set_option maxRecDepth 100000 in
set_option maxHeartbeats 2000000 in
theorem stold_no (B S R : Nat) (ao : Option Addr) (n c : Nat) (X : Int) (p : Nat) (v : Value) (os : List Int) (m : Nat) (vs : List Nat) (qs : List Cl) (fs : List Int) (nl nd : Nat) (l : List It) (w : World) (h : IsS w B S R ao n c X p v os m) (hT : Tab w 0) (hB0 : 0 < B) (hH : Hd vs qs fs nl nd)
    (hok : ∀ i ∈ l, i.okG (fun j => fs.getD j 0) nl (fun j => fs.getD (nl + j) 0) nd) (hl : Cut X n p (hdf vs qs nl nd ++ (encsG (fun j => fs.getD j 0) nl (fun j => fs.getD (nl + j) 0) nd l ++ [gf (fun j => fs.getD j 0) nl 256]))) (hm : m ≤ 1000000) (hL : os.length ≤ m) (hG : (play m l os).1 = 0) :
    Calls Tryz.prog 64 #[.pointer (some ⟨S, 0, none⟩)] w fun e w' => e = .returned (.int .i64 3) ∧ Sw B w w' := by
  have hl0 : Cut X n p ((((nl - 257 : Nat) : Int), 5) :: (((nd - 1 : Nat) : Int), 5) :: (((((vs.length - 4 : Nat) : Int), 4) :: vfs vs) ++ (encC (ck vs vs.length) qs ++ (encsG (fun j => fs.getD j 0) nl (fun j => fs.getD (nl + j) 0) nd l ++ [gf (fun j => fs.getD j 0) nl 256])))) := by
    simp only [hdf, List.cons_append, List.append_assoc] at hl
    exact hl
  have hst : Stm w B S R n X p os m := ⟨ao, c, v, h⟩
  have hl01 := hH.l0
  have hl02 := hH.l1
  have hd01 := hH.d0
  have hd02 := hH.d1
  obtain ⟨e1, p1 | ⟨p1, hl1⟩⟩ := hl0.head
  · have hc := scount_no B S R n X p 5 257 286 os m w hst p1
    clear hl hl0 e1 p1 h hst hG
    go_enter Tryz.func64, Tryz.ntmps64
    go_wp2_with (go_at_call 94; refine hc.mono ?_; rintro e w1 ⟨rfl, hw1⟩)
    go_ret
    exact ⟨rfl, hw1⟩
  simp only at e1 p1
  have hc1 := scount_S B S R ao n c X p v os m 5 257 286 w h (by omega) p1 (by omega) (by rw [e1]; omega)
  rw [e1, show ((257 : Nat) : Int) + ((nl - 257 : Nat) : Int) = (nl : Int) by omega] at hc1
  obtain ⟨e2, p2 | ⟨p2, hl2⟩⟩ := hl1.head
  · clear hl hl0 e1 p1 h hst hG hl1 e2
    go_enter Tryz.func64, Tryz.ntmps64
    go_wp2_with fail
    refine hc1.mono ?_
    rintro e w1 ⟨rfl, hs1, hw1, hf1⟩
    have hc := scount_no B S R n X (p + 5) 5 1 30 os m w1 ⟨ao, c, v, hs1⟩ p2
    clear hs1 hf1 hc1
    go_wp2_with (go_at_call 94; refine hc.mono ?_; rintro e w2 ⟨rfl, hw2⟩)
    go_ret
    exact ⟨rfl, hw1.trans hw2⟩
  simp only at e2 p2
  have HS : Hid (IsS w B S R ao n c X p v os m) := h
  have HH : Hid (Hd vs qs fs nl nd) := hH
  have HT : Hid (Tab w 0) := hT
  have HOK : Hid (∀ i ∈ l, i.okG (fun j => fs.getD j 0) nl (fun j => fs.getD (nl + j) 0) nd) := hok
  have HG : Hid ((play m l os).1 = 0) := hG
  have HE2 : Hid (X / 2 ^ (p + 5) % 2 ^ 5 = ((nd - 1 : Nat) : Int) ∧ p + 5 + 5 ≤ 8 * n) := ⟨e2, p2⟩
  have HL2 : Hid (Cut X n (p + 5 + 5) (((((vs.length - 4 : Nat) : Int), 4) :: vfs vs) ++ (encC (ck vs vs.length) qs ++ (encsG (fun j => fs.getD j 0) nl (fun j => fs.getD (nl + j) 0) nd l ++ [gf (fun j => fs.getD j 0) nl 256])))) := hl2
  clear hl hl0 hl1 hl2 e1 p1 e2 p2 hT hok hG h hH hst
  go_enter Tryz.func64, Tryz.ntmps64
  go_wp2_with fail
  refine hc1.mono ?_
  rintro e w1 ⟨rfl, hs1, _, hf1⟩
  have hc2 := scount_S B S R ao n c X (p + 5) v os m 5 1 30 w1 hs1 (by omega) HE2.out.2 (by omega) (by rw [HE2.out.1]; omega)
  rw [HE2.out.1, show ((1 : Nat) : Int) + ((nd - 1 : Nat) : Int) = (nd : Int) by omega] at hc2
  clear hc1
  go_wp2_with fail
  refine hc2.mono ?_
  rintro e w2 ⟨rfl, hs2, _, hf2⟩
  have F2 : Fr (fun k => k = R) w w2 := hf1.trans hf2 (fun _ _ e => e)
  have hT2 : Tab w2 0 := fun k hk => by
    have h0 := HT.out k hk
    rw [World.cell?_of_block (F2.block 0 (World.block_lt_of_cell? w _ h0) (fun e => by have := HS.out.bR; omega))]
    exact h0
  rcases HL2.out.app with hl3 | ⟨hl3, hl4⟩
  · have hc3 := slcode_no B S R ao n c X (p + 5 + 5) v os m vs w2 hs2 hT2 hB0 HH.out.v4 HH.out.v19 hl3
    have HSW : Hid (Sw B w w2) := HS.out.sw F2
    clear hc2 hs1 hf1 hf2 hs2 hT2 hl3 F2
    go_wp2_with (go_at_call 95; refine hc3.mono ?_; rintro e w3 ⟨v3, rfl, hw3⟩)
    go_ret
    exact ⟨rfl, HSW.out.trans hw3⟩
  have hc3 := slcode_S B S R ao n c X (p + 5 + 5) v os m vs w2 hs2 hT2 hB0 HH.out.v4 HH.out.v19 hl3 HH.out.cn
  have HL4 : Hid (Cut X n (p + 5 + 5 + (4 + 3 * vs.length)) (encC (ck vs vs.length) qs ++ (encsG (fun j => fs.getD j 0) nl (fun j => fs.getD (nl + j) 0) nd l ++ [gf (fun j => fs.getD j 0) nl 256]))) := by
    have := hl4
    simp only [fb, vfs_fb] at this
    exact this
  clear hc2 hs1 hf1 hf2 hs2 hT2 hl3 hl4 HL2
  go_wp2_with fail
  refine hc3.mono ?_
  rintro e w3 ⟨A, rfl, hC, hs3, hf3⟩
  have F3 : Fr (fun k => k = R) w w3 := F2.trans hf3 (fun _ _ e => e)
  rw [show p + 5 + 5 + 4 + 3 * vs.length = p + 5 + 5 + (4 + 3 * vs.length) by omega] at hs3
  rcases HL4.out.app with hl5 | ⟨hl5, hl6⟩
  · have hc4 := slens_no (ck vs vs.length) HH.out.cf B S R ao n c X _ v os m A qs fs (nl + nd) w3 hs3 hC HH.out.ok HH.out.all HH.out.len (by omega) hl5
    have HSW : Hid (Sw B w w3) := HS.out.sw F3
    clear hc3 hf3 F2 F3 hs3 hC hl5
    go_wp2_with fail
    refine hc4.mono ?_
    rintro e w4 ⟨v4, rfl, hw4⟩
    go_wp2
    go_ret
    exact ⟨rfl, HSW.out.trans hw4⟩
  have hc4 := slens_S (ck vs vs.length) HH.out.cf B S R ao n c X _ v os m A qs fs (nl + nd) _ w3 hs3 hC HH.out.ok HH.out.all HH.out.len (by omega) hl5 rfl
  have HTL : Hid (Cut X n (p + 5 + 5 + (4 + 3 * vs.length) + fb (encC (ck vs vs.length) qs)) (encsG (fun j => fs.getD j 0) nl (fun j => fs.getD (nl + j) 0) nd l ++ [gf (fun j => fs.getD j 0) nl 256])) := hl6
  have HF3 : Hid (Fr (fun k => k = R) w w3) := F3
  clear hc3 hf3 F2 F3 hs3 hC hl5 hl6
  go_wp2_with fail
  refine hc4.mono ?_
  rintro e w4 ⟨v4, rfl, o4, hs4, hf4⟩
  rw [lens_iv fs (nl + nd) HH.out.len] at o4
  obtain ⟨la, lc, rfl, r4, _⟩ := own_ri o4
  obtain ⟨g, off, rfl, hcell⟩ := r4.plain (by omega)
  have hle := r4.le
  have hc256 := hcell 256 (by omega)
  have he0 := HH.out.e0
  obtain ⟨x, hx⟩ : ∃ x, x = fs.getD 256 0 := ⟨_, rfl⟩
  rw [← hx] at hc256 he0
  have z0 : (x == 0) = false := by simp; omega
  have z1 : 256 < nl + nd := by omega
  have HA : Hid (Ri w4 (some ⟨g, off, none⟩) nl lc (fun j => fs.getD j 0)) := ⟨by omega, (fun e => by cases e), fun ad had j hj => r4.cells ad had j (by omega)⟩
  have HD : Hid (Ri w4 (some ⟨g, off + nl, none⟩) nd (lc - nl) (fun j => fs.getD (nl + j) 0)) := ⟨by omega, (fun e => by cases e), fun ad had j hj => by
    cases had
    rw [Addr.add_lit, Nat.add_assoc]
    exact hcell (nl + j) (by omega)⟩
  have F4 : Hid (Fr (fun k => k = R) w w4) := HF3.out.trans hf4 (fun _ _ e => e)
  have HS4 : Hid (IsS w4 B S R ao n c X (p + 5 + 5 + (4 + 3 * vs.length) + fb (encC (ck vs vs.length) qs)) v os m) := hs4
  have z2 : ¬ lc = nl := by omega
  have z3 : nl ≤ lc := by omega
  have z4 : nl + nd ≤ lc := hle
  clear hc4 o4 r4 hcell hs4 hf4 HF3 hx
  have hcod := scoded_no (fun j => fs.getD j 0) nl (fun j => fs.getD (nl + j) 0) nd HH.out.an HH.out.dn HH.out.af HH.out.df ⟨by omega, HH.out.e0, HH.out.e15⟩ B S R n X _ os m (some ⟨g, off, none⟩) lc (some ⟨g, off + nl, none⟩) (lc - nl) l w4.drew ⟨ao, c, v, HS4.out.drew⟩ HA.out.drew HD.out.drew HOK.out HTL.out hm hL HG.out
  have z5 : nl + nd - nl = nd := by omega
  go_wp2_with fail
  go_region_with (go_at_call 62; refine hcod.mono ?_; rintro e w5 ⟨rfl, f5⟩)
  all_goals
    (try simp only [List.getElem_toArray, List.getElem_cons_zero, List.getElem_cons_succ, Act.put, List.setIfInBounds_toArray, List.set_cons_zero, List.set_cons_succ])
    have HW5 : Hid (Sw B w w5) := (HS.out.sw F4.out).drew.trans f5
    clear f5 hcod HA HD
    go_wp2
    go_ret
    exact ⟨rfl, HW5.out⟩

end Go.Proofs.YtiahbicodlgmhaaGreatDoor.Z
