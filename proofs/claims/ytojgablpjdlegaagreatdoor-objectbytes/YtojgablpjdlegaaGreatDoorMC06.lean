/- A commit read, whatever the bytes. -/
import Derived.Test.YtojgablpjdlegaaGreatDoorMC01
import Derived.Test.YtojgablpjdlegaaGreatDoorMC05
import Derived.Test.YtojgablpjdlegaaGreatDoorM18
namespace Go.Proofs.YtojgablpjdlegaaGreatDoor
open Go.RowKit

/-- What a commit's bytes say: its parents' lines, too; the fault at the end. -/
structure Cmg (l : List UInt8) (e : Int) (T : List Int) (DS : List (List Int)) (A C M : List UInt8) (e5 : Int) : Prop where
  ex : ∃ l1 e1 lp ep l2 e2 l3 e3 e4, (par (ns ⟨(lin tre l).1.toArray⟩)).1 = T ∧ (lin tre l).2 = l1 ∧ idE tre l e = e1 ∧ Ps l1 e1 DS lp ep ∧ lp.length ≤ l1.length ∧ DS.length ≤ l1.length ∧ lin aut lp = (A, l2) ∧ nd (lnF aut lp).2.2 ep 2 = e2 ∧ lin com l2 = (C, l3) ∧ nd (lnF com l2).2.2 e2 2 = e3 ∧ msL l3 = M ∧ msE l3 e3 = e4 ∧ nd (mb A C DS) e4 2 = e5

theorem cmg_ex (l : List UInt8) (e : Int) : ∃ T DS A C M e5, Cmg l e T DS A C M e5 := by
  obtain ⟨DS, lp, ep, h1, h2, h3⟩ := ps_ex _ (lin tre l).2 (idE tre l e) (Nat.le_refl _)
  exact ⟨_, DS, _, _, _, _, ⟨⟨_, _, lp, ep, _, _, _, _, _, rfl, rfl, rfl, h1, h3, h2, rfl, rfl, rfl, rfl, rfl, rfl, rfl⟩⟩⟩

def rln (w : World) (R : Nat) : Nat := match w.cell? ⟨R, 0, none⟩ with | some (.string s) => s.size | _ => 0

theorem rln_of {w : World} {R : Nat} {l : List UInt8} {e : Int} (h : w.rowIs R 150 2 (rf l e)) : rln w R = l.length := by
  unfold rln
  rw [show w.cell? ⟨R, 0, none⟩ = some (sv l) from h.cell (i := 0) (by omega)]
  rfl

theorem cf149 (vs : Array Value) (w : World) : (callFunc 149 vs).run Tryz.prog w = .ok (.enter 149 vs) w := by simp [go_sem]

set_option maxRecDepth 100000 in
set_option maxHeartbeats 8000000 in
theorem commitR (R : Nat) (l : List UInt8) (e : Int) (T : List Int) (DS : List (List Int)) (A C M : List UInt8) (e5 : Int) (w : World) (hg : Gs w) (hR : 9 < R) (h : w.rowIs R 150 2 (rf l e)) (hs : l.length ≤ 50000) (hm : Cmg l e T DS A C M e5) :
    Calls Tryz.prog 117 #[.pointer (some ⟨R, 0, none⟩)] w fun ex w' => ∃ v ve, ex = .returned (psv nlv (cf T v A C M) (tf z20 0 [] [] []) ve) ∧ Dp (w.heap.size + 2) w' v DS.toArray ∧ Dp (w.heap.size + 2) w' ve (#[T] ++ DS.toArray) ∧ w'.rowIs R 150 2 (rf [] e5) ∧ Fr (fun i => i = R) w w' := by
  obtain ⟨l1, e1, lp, ep, l2, e2, l3, e3, e4, hT, hl1, he1, hps, hlp, hDS, hA, he2, hC, he3, hM, he4, he5⟩ := hm.ex
  have n0 : l1.length ≤ 50000 := by rw [← hl1]; exact Nat.le_trans (lin_len tre l).2 hs
  have n1 : lp.length ≤ 1000000 := by omega
  have nA : A.length ≤ 1000000 := by have := (lin_len aut lp).1; rw [hA] at this; exact Nat.le_trans this n1
  have n2 : l2.length ≤ 1000000 := by have := (lin_len aut lp).2; rw [hA] at this; exact Nat.le_trans this n1
  have nC : C.length ≤ 1000000 := by have := (lin_len com l2).1; rw [hC] at this; exact Nat.le_trans this n2
  have HDS : Hid (DS.length ≤ 50000 ∧ l1.length ≤ 50000) := ⟨by omega, n0⟩
  have HPS : Hid (Ps l1 e1 DS lp ep) := hps
  have HIDT : Hid (IsId T) := by show IsId T; rw [← hT]; exact par_id _
  have n3 : l3.length ≤ 1000000 := by have := (lin_len com l2).2; rw [hC] at this; exact Nat.le_trans this n2
  have hz := zero107
  have hz2 := zero47
  have hRl : R < w.heap.size := h.lt
  obtain ⟨W, hW⟩ : ∃ W, W = (w.alloc (Obj.cells (vals (psf nlv (cf z20 nlv [] [] []) (tf z20 0 [] [] []) nlv) 50).toArray 107)).alloc (Obj.cells (vals (cf z20 nlv [] [] []) 24).toArray 47) := ⟨_, rfl⟩
  have bA := new_below w (Obj.cells (vals (psf nlv (cf z20 nlv [] [] []) (tf z20 0 [] [] []) nlv) 50).toArray 107)
  have bW : Below w.heap.size w W := by rw [hW]; exact bA.alloc bA.size _
  have HP0 : Hid (W.rowIs w.heap.size 107 50 (psf nlv (cf z20 nlv [] [] []) (tf z20 0 [] [] []) nlv)) := by rw [hW]; exact rowIs_fr (P := fun _ => False) (rowIs_vals w _ 50 107) (Fr.ofBelow (new_below _ _)) (fun h => h)
  have c0 : W.rowIs (w.heap.size + 1) 47 24 (cf z20 nlv [] [] []) := by rw [hW]; have := rowIs_vals (w.alloc (Obj.cells (vals (psf nlv (cf z20 nlv [] [] []) (tf z20 0 [] [] []) nlv) 50).toArray 107)) (cf z20 nlv [] [] []) 24 47; simpa using this
  have r0 : W.rowIs R 150 2 (rf l e) := rowIs_fr (P := fun _ => False) h (Fr.ofBelow bW) (fun h => h)
  have HF0 : Hid (Fr (fun i => i = R) w W) := Fr.ofBelow bW
  have HG : Hid (∀ V, Fr (fun i => i = R) w V → Gs V) := fun V hV => hg.fr hV hR
  have hid := id_any R tre l e W (HG.out W HF0.out) r0 (by omega) (by decide)
  rw [hT, hl1, he1] at hid
  have HC0 : Hid (W.rowIs (w.heap.size + 1) 47 24 (cf z20 nlv [] [] [])) := c0
  obtain ⟨P0, hP0⟩ : ∃ P0, P0 = w.heap.size := ⟨_, rfl⟩
  obtain ⟨C0, hC0⟩ : ∃ C0, C0 = w.heap.size + 1 := ⟨_, rfl⟩
  have HPC : Hid (w.heap.size = P0 ∧ w.heap.size + 1 = C0) := ⟨hP0.symm, hC0.symm⟩
  obtain ⟨B, hB⟩ : ∃ B, B = w.heap.size + 2 := ⟨_, rfl⟩
  have HNE : Hid (P0 ≠ R ∧ C0 ≠ R ∧ P0 ≠ C0 ∧ w.heap.size ≤ P0 ∧ w.heap.size ≤ C0) := by show _ ∧ _; omega
  have HLB : Hid (R < B ∧ P0 < B ∧ C0 < B ∧ B ≤ W.heap.size) := by
    have hWs : W.heap.size = w.heap.size + 2 := by rw [hW]; simp
    exact ⟨by omega, by omega, by omega, by omega⟩
  have HBE : Hid (B = w.heap.size + 2) := hB
  clear bA bW c0 r0 hg h hm hps hlp hDS n0 hB
  go_enter Tryz.func117, Tryz.ntmps117
  go_wp2_with fail
  rw [← hW]
  rw [← hP0] at HP0
  rw [← hC0] at HC0
  clear hW
  refine hid.mono ?_
  rintro ex w1 ⟨rfl, r1, f1⟩
  have HF1 : Hid (Fr (fun i => i = R) w w1) := HF0.out.trans f1 (fun _ _ h => h)
  have HF0S : Hid (W.heap.size ≤ w1.heap.size) := f1.size
  have HP1 : Hid (w1.rowIs P0 107 50 (psf nlv (cf z20 nlv [] [] []) (tf z20 0 [] [] []) nlv)) := rowIs_fr HP0.out f1 HNE.out.1
  have c1 : w1.rowIs C0 47 24 (cf z20 nlv [] [] []) := rowIs_fr HC0.out f1 HNE.out.2.1
  have HR1 : Hid (w1.rowIs R 150 2 (rf l1 e1)) := r1
  clear hid r1 f1 HF0 HP0 HC0
  obtain ⟨w2, hw2⟩ : ∃ w2, w1.setCells C0 0 (vals (cl T) 20) = w2 := ⟨_, rfl⟩
  have s2 := set27 c1 T
  rw [hw2] at s2
  have ht := there_any c1 0 20 (by omega)
  clear c1
  rw [← hC0, ← hP0]
  clear hP0 hC0
  go_wp2_with ((refine wpList_stv rfl _ _ rfl C0 0 rfl T rfl ht w2 hw2 ?_))
  have HC2 : Hid (w2.rowIs C0 47 24 (cf T nlv [] [] [])) := s2.1
  have HF2 : Hid (Fr (fun i => i = R) w w2) := HF1.out.trans s2.2 (fun i hi e => by have := HNE.out.2.2.2.2; omega)
  have HP2 : Hid (w2.rowIs P0 107 50 (psf nlv (cf z20 nlv [] [] []) (tf z20 0 [] [] []) nlv)) := rowIs_fr HP1.out s2.2 HNE.out.2.2.1
  have HR2 : Hid (w2.rowIs R 150 2 (rf l1 e1)) := rowIs_fr HR1.out s2.2 (fun h => HNE.out.2.1 h.symm)
  have hB2 : B ≤ w2.heap.size := by have := HLB.out.2.2.2; have h1 := HF0S.out; have h2 := s2.2.size; omega
  have HB2 : Hid (B ≤ w2.heap.size) := hB2
  clear s2 hw2 ht HF1 HP1 HR1 hB2
  simp only [Act.put]
  go_loopw [] (fun wr => ∃ lc ec v ds rest, wr.rowIs R 150 2 (rf lc ec) ∧ lc.length ≤ 50000 ∧ wr.rowIs C0 47 24 (cf T v [] [] []) ∧ wr.rowIs P0 107 50 (psf nlv (cf z20 nlv [] [] []) (tf z20 0 [] [] []) nlv) ∧ Fr (fun i => i = R) w wr ∧ Dp B wr v ds ∧ B ≤ wr.heap.size ∧ Ps lc ec rest lp ep ∧ ds.toList ++ rest = DS) (fun wr => rln wr R)
  case atStart => exact ⟨l1, e1, nlv, #[], DS, HR2.out, HDS.out.2, HC2.out, HP2.out, HF2.out, dp_nil _ _, HB2.out, HPS.out, by simp⟩
  case round =>
    clear HC2 HF2 HP2 HR2 HB2
    obtain ⟨lc, ec, v, ds, rest, r2, nlc, c2, p2, f2, d2, b2, ps, hds⟩ := hrel
    have HLN : Hid (rln wr R = lc.length ∧ lc.length ≤ 50000) := ⟨rln_of r2, nlc⟩
    have q2 : wr.cell? ⟨R, 0, none⟩ = some (sv lc) := r2.cell (i := 0) (by omega)
    have hha : Calls Tryz.prog 150 #[sv lc, sv [112, 97, 114, 101, 110, 116, 32]] wr fun e w' => e = .returned (.bool (Lib.hasPrefix lc (pnt ++ [32]))) ∧ w' = wr := hasp_any lc (pnt ++ [32]) wr
    have HR2 : Hid (wr.rowIs R 150 2 (rf lc ec)) := r2
    have HC2 : Hid (wr.rowIs C0 47 24 (cf T v [] [] [])) := c2
    have HP2 : Hid (wr.rowIs P0 107 50 (psf nlv (cf z20 nlv [] [] []) (tf z20 0 [] [] []) nlv)) := p2
    have HF2 : Hid (Fr (fun i => i = R) w wr) := f2
    have HD2 : Hid (Dp B wr v ds) := d2
    have HB2 : Hid (B ≤ wr.heap.size) := b2
    have HE2 : Hid (ds.toList ++ rest = DS) := hds
    obtain ⟨va, vc, hve⟩ := d2.shape
    subst hve
    clear r2 c2 p2 f2 d2 b2 hds nlc
    cases hpf : Lib.hasPrefix lc (pnt ++ [32]) with
    | true =>
      rw [hpf] at hha
      have HPF : Hid (Lib.hasPrefix lc (pnt ++ [32]) = true) := hpf
      have hps2 : ∃ rest', rest = (par (ns ⟨(lin pnt lc).1.toArray⟩)).1 :: rest' ∧ Ps (lin pnt lc).2 (idE pnt lc ec) rest' lp ep := by
        cases ps with
        | stop _ _ h => rw [hpf] at h; cases h
        | more _ _ ds' _ _ h t => exact ⟨ds', rfl, t⟩
      obtain ⟨rest', hre, ps'⟩ := hps2
      have HPS2 : Hid (Ps (lin pnt lc).2 (idE pnt lc ec) rest' lp ep) := ps'
      obtain ⟨D, hD⟩ : ∃ D, D = (par (ns ⟨(lin pnt lc).1.toArray⟩)).1 := ⟨_, rfl⟩
      have HDI : Hid (IsId D ∧ rest = D :: rest') := ⟨by rw [hD]; exact par_id _, by rw [hre, hD]⟩
      have hcall := id_any R pnt lc ec wr.drew (HG.out _ HF2.out.drew) (rowIs_fr (P := fun _ => False) HR2.out (Fr.refl _ _).drew (fun h => h)) (by have := HLN.out; omega) (by decide)
      rw [← hD] at hcall
      have HCALL : Hid (Calls Tryz.prog 149 #[.pointer (some ⟨R, 0, none⟩), sv pnt] wr.drew fun ex w' => ∃ vv, ex = .returned vv ∧ (vv = idv D ∧ w'.rowIs R 150 2 (rf (lin pnt lc).2 (idE pnt lc ec)) ∧ Fr (fun i => i = R) wr.drew w')) := hcall.mono (fun ex w' ⟨h1, h2, h3⟩ => ⟨_, h1, rfl, h2, h3⟩)
      have HSZ : Hid (ds.size + 1 ≤ 50000) := by have h1 := congrArg List.length HE2.out; have h2 := congrArg List.length HDI.out.2; rw [List.length_append] at h1; have := HDS.out.1; simp at h1 h2; show _ ≤ _; omega
      clear ps ps' hre hcall hD hpf
      go_wp2_with fail
      refine hha.mono ?_
      rintro ex wx ⟨rfl, hwx⟩
      subst wx
      clear hha q2
      go_wp2_with fail
      have hdr : Fr (fun i => i = R) wr wr.drew := (Fr.refl _ _).drew
      refine wp_region_any (by kernel_rfl) (show wpAny _ _ _ _ _ _ _ wr.drew from ?_)
      refine wpAny_take (i := 0) (oi := ⟨some 12, _, _, _, _, _⟩) (v := ?_) rfl (by kernel_rfl) (by kernel_rfl) (by kernel_rfl) (fun _ _ _ h => h) (Or.inl ⟨by rfl, ?_⟩) ?_
      rotate_left
      · (intro w'; go_simp; try with_reducible rfl)
      try simp only [Act.put, List.setIfInBounds_toArray, List.set_cons_zero, List.set_cons_succ]
      refine wpAny_take (i := 2) (oi := ⟨some 14, _, _, _, _, _⟩) (v := ?_) rfl (by kernel_rfl) (by kernel_rfl) (by kernel_rfl) (fun _ _ _ h => h) (Or.inl ⟨by rfl, ?_⟩) ?_
      rotate_left
      · (intro w'; go_simp; try with_reducible rfl)
      try simp only [Act.put, List.setIfInBounds_toArray, List.set_cons_zero, List.set_cons_succ]
      refine wpAny_ready (rs := [1, 3]) (by kernel_rfl) (by simp) ?_
      refine (AllReady.cons (o := ⟨some 13, _, _, _, _, _⟩) rfl (fun K hK => ?_) (AllReady.cons (o := ⟨some 15, _, _, _, _, _⟩) rfl (fun K hK => ?_) AllReady.nil))
      · have hlwrd : (loadVar 45 ⟨C0, 20, none⟩).run Tryz.prog wr.drew = .ok (.slice va ds.size vc) wr.drew := ld45 _ _ _ _ _ (by exact HC2.out.cell (i := 20) (by omega))
        refine step_ldv (by rfl) 45 _ rfl ⟨C0, 20, none⟩ rfl (.slice va ds.size vc) hlwrd ?_
        refine hK _ _ ?_
        clear hK K
        try simp only [Act.put, List.setIfInBounds_toArray, List.set_cons_zero, List.set_cons_succ]
        refine wpAny_ready (rs := [3]) (by kernel_rfl) (by simp) ?_
        refine (AllReady.cons (o := ⟨some 15, _, _, _, _, _⟩) rfl (fun K hK => ?_) AllReady.nil)
        refine step_cl2 (by rfl) 149 cf149 _ _ _ rfl (.pointer (some ⟨R, 0, none⟩)) (sv pnt) rfl rfl HCALL.out ?_
        rintro v1 w4 ⟨rfl, r4, f4⟩
        have F4 : Hid (Fr (fun i => i = R) wr w4) := hdr.trans f4 (fun _ _ h => h)
        have C4 : Hid (w4.rowIs C0 47 24 (cf T (.slice va ds.size vc) [] [] [])) := rowIs_fr HC2.out F4.out HNE.out.2.1
        have P4 : Hid (w4.rowIs P0 107 50 (psf nlv (cf z20 nlv [] [] []) (tf z20 0 [] [] []) nlv)) := rowIs_fr HP2.out F4.out HNE.out.1
        have R4 : Hid (w4.rowIs R 150 2 (rf (lin pnt lc).2 (idE pnt lc ec))) := r4
        have D4 : Hid (Dp B w4 (.slice va ds.size vc) ds) := HD2.out.fr F4.out (fun k hk e => by have := HLB.out; omega)
        refine hK _ _ ?_
        clear hK K r4 f4 hdr HCALL HR2 HC2 HP2 HD2
        try simp only [Act.put, List.setIfInBounds_toArray, List.set_cons_zero, List.set_cons_succ]
        refine wpAny_ready (rs := [4]) (by kernel_rfl) (by simp) ?_
        refine (AllReady.cons (o := ⟨some 16, _, _, _, _, _⟩) rfl (fun K hK => ?_) AllReady.nil)
        refine step_bs45 (by rfl) _ rfl D rfl ?_
        have B5 : Hid (Below w4.heap.size w4 (w4.alloc (.cells (vals (cl D) 20).toArray 27))) := new_below _ _
        have X5 : Hid (Is (w4.alloc (.cells (vals (cl D) 20).toArray 27)) (.slice (some ⟨w4.heap.size, 0, none⟩) 1 1) #[D]) := is_one (rowIs_vals _ _ _ _) HDI.out.1
        obtain ⟨w5, hw5⟩ : ∃ V, V = w4.alloc (.cells (vals (cl D) 20).toArray 27) := ⟨_, rfl⟩
        rw [← hw5] at B5 X5
        rw [← hw5]
        obtain ⟨X, hX⟩ : ∃ X, X = w4.heap.size := ⟨_, rfl⟩
        rw [← hX] at X5
        rw [← hX]
        have C5 : Hid (w5.rowIs C0 47 24 (cf T (.slice va ds.size vc) [] [] [])) := rowIs_fr (P := fun _ => False) C4.out (Fr.ofBelow B5.out) (fun h => h)
        have P5 : Hid (w5.rowIs P0 107 50 (psf nlv (cf z20 nlv [] [] []) (tf z20 0 [] [] []) nlv)) := rowIs_fr (P := fun _ => False) P4.out (Fr.ofBelow B5.out) (fun h => h)
        have R5 : Hid (w5.rowIs R 150 2 (rf (lin pnt lc).2 (idE pnt lc ec))) := rowIs_fr (P := fun _ => False) R4.out (Fr.ofBelow B5.out) (fun h => h)
        have D5 : Hid (Dp B w5 (.slice va ds.size vc) ds) := D4.out.keep B5.out
        have F5 : Hid (Fr (fun i => i = R) wr w5) := F4.out.trans (Fr.ofBelow B5.out) (fun _ _ h => h)
        refine hK _ _ ?_
        clear hK K hw5 hX B5 C4 P4 R4 D4 F4
        try simp only [Act.put, List.setIfInBounds_toArray, List.set_cons_zero, List.set_cons_succ]
        refine wpAny_ready (rs := [5]) (by kernel_rfl) (by simp) ?_
        refine (AllReady.cons (o := ⟨some 17, _, _, _, _, _⟩) rfl (fun K hK => ?_) AllReady.nil)
        refine step_appI (by rfl) _ _ rfl B (.slice va ds.size vc) ds rfl D5.out (some ⟨X, 0, none⟩) 1 1 #[D] rfl X5.out (by have := HB2.out; have := F5.out.size; omega) (by have := HSZ.out; show ds.size + 1 < 100000; omega) ?_
        intro v6 w6 d6 g6
        have hb6 : Below B w5 w6 := D5.out.grown g6 (Nat.le_refl _) (by have := HB2.out; have := F5.out.size; omega)
        have F56 : Fr (fun k => B ≤ k) w5 w6 := ⟨hb6.os, hb6.tape, hb6.output, hb6.size, fun k hk hn => hb6.block k (by omega)⟩
        have C6 : Hid (w6.rowIs C0 47 24 (cf T (.slice va ds.size vc) [] [] [])) := rowIs_fr C5.out F56 (by have := HLB.out; omega)
        have P6 : Hid (w6.rowIs P0 107 50 (psf nlv (cf z20 nlv [] [] []) (tf z20 0 [] [] []) nlv)) := rowIs_fr P5.out F56 (by have := HLB.out; omega)
        have R6 : Hid (w6.rowIs R 150 2 (rf (lin pnt lc).2 (idE pnt lc ec))) := rowIs_fr R5.out F56 (by have := HLB.out; omega)
        have D6 : Hid (Dp B w6 v6 (ds ++ #[D])) := d6
        have hFw : Fr (fun i => i = R) w w6 := (HF2.out.trans F5.out (fun _ _ h => h)).trans F56 (fun i hi e => by have := HBE.out; omega)
        have F6 : Hid (Fr (fun i => i = R) w w6) := hFw
        have S6 : Hid (w5.heap.size ≤ w6.heap.size) := hb6.size
        refine hK _ _ ?_
        clear hK K d6 g6 hb6 F56 hFw
        try simp only [Act.put, List.setIfInBounds_toArray, List.set_cons_zero, List.set_cons_succ]
        refine wpAny_take (i := 6) (oi := ⟨some 18, _, _, _, _, _⟩) (v := ?_) rfl (by kernel_rfl) (by kernel_rfl) (by kernel_rfl) (fun _ _ _ h => h) (Or.inl ⟨by rfl, ?_⟩) ?_
        rotate_left
        · (intro w'; go_simp; try with_reducible rfl)
        try simp only [Act.put, List.setIfInBounds_toArray, List.set_cons_zero, List.set_cons_succ]
        refine wpAny_ready (rs := [7]) (by kernel_rfl) (by simp) ?_
        refine (AllReady.cons (o := ⟨none, _, _, _, _, _⟩) rfl (fun K hK => ?_) AllReady.nil)
        have z6 := World.rowIs.frozen C6.out 20
        obtain ⟨va6, vc6, hv6⟩ := D6.out.shape
        subst hv6
        have s6 := set_row C6.out 20 (.slice va6 (ds ++ #[D]).size vc6) (cf20 T (.slice va ds.size vc) (.slice va6 (ds ++ #[D]).size vc6) [] [] [])
        obtain ⟨w7, hw7⟩ : ∃ V, w6.setCell ⟨C0, 20, none⟩ (.slice va6 (ds ++ #[D]).size vc6) = V := ⟨_, rfl⟩
        have f67 : Fr (fun k => k = C0) w6 w7 := by rw [← hw7]; exact set_fr w6 C0 20 _
        rw [hw7] at s6
        have HW7 : Hid (w6.setCell ⟨C0, 20, none⟩ (.slice va6 (ds ++ #[D]).size vc6) = w7) := hw7
        have C7 : Hid (w7.rowIs C0 47 24 (cf T (.slice va6 (ds ++ #[D]).size vc6) [] [] [])) := s6
        have P7 : Hid (w7.rowIs P0 107 50 (psf nlv (cf z20 nlv [] [] []) (tf z20 0 [] [] []) nlv)) := rowIs_fr P6.out f67 HNE.out.2.2.1
        have R7 : Hid (w7.rowIs R 150 2 (rf (lin pnt lc).2 (idE pnt lc ec))) := rowIs_fr R6.out f67 (fun h => HNE.out.2.1 h.symm)
        have D7 : Hid (Dp B w7 (.slice va6 (ds ++ #[D]).size vc6) (ds ++ #[D])) := D6.out.fr f67 (fun k hk e => by have := HLB.out; omega)
        have F7 : Hid (Fr (fun i => i = R) w w7) := F6.out.trans f67 (fun i hi e => by have := HNE.out; omega)
        have S7 : Hid (B ≤ w7.heap.size) := by have h1 := f67.size; have h2 := S6.out; have h3 := HB2.out; have h4 := F5.out.size; show B ≤ _; omega
        have c6c := C6.out.cell (i := 20) (by omega)
        refine step_st45 (by rfl) _ _ rfl C0 20 rfl va6 (ds ++ #[D]).size vc6 rfl _ c6c z6 ?_
        rw [HW7.out]
        clear c6c z6 s6 f67 hw7 D5 C5 P5 R5 F5 X5 C6 P6 R6 D6 F6 S6
        refine hK _ _ ?_
        clear hK K
        refine wpAny_done (by kernel_rfl) ?_ _
        simp only [Act.put]
        go_roundw
        case measure =>
          have h1 := rln_of R7.out
          have h2 := lin_short pnt lc HPF.out
          have h3 := HLN.out.1
          omega
        case rel => exact ⟨_, _, _, _, _, _, _, _, _, _, _, _, ⟨(lin pnt lc).2, idE pnt lc ec, _, ds ++ #[D], rest', R7.out, by have := lin_short pnt lc HPF.out; have := HLN.out.2; omega, C7.out, P7.out, F7.out, D7.out, S7.out, HPS2.out, by have h1 := HE2.out; rw [HDI.out.2] at h1; simpa using h1⟩, rfl⟩
      · refine step_cl2 (by rfl) 149 cf149 _ _ _ rfl (.pointer (some ⟨R, 0, none⟩)) (sv pnt) rfl rfl HCALL.out ?_
        rintro v1 w4 ⟨rfl, r4, f4⟩
        have F4 : Hid (Fr (fun i => i = R) wr w4) := hdr.trans f4 (fun _ _ h => h)
        have C4 : Hid (w4.rowIs C0 47 24 (cf T (.slice va ds.size vc) [] [] [])) := rowIs_fr HC2.out F4.out HNE.out.2.1
        have P4 : Hid (w4.rowIs P0 107 50 (psf nlv (cf z20 nlv [] [] []) (tf z20 0 [] [] []) nlv)) := rowIs_fr HP2.out F4.out HNE.out.1
        have R4 : Hid (w4.rowIs R 150 2 (rf (lin pnt lc).2 (idE pnt lc ec))) := r4
        have D4 : Hid (Dp B w4 (.slice va ds.size vc) ds) := HD2.out.fr F4.out (fun k hk e => by have := HLB.out; omega)
        refine hK _ _ ?_
        clear hK K r4 f4 hdr HCALL HR2 HC2 HP2 HD2
        try simp only [Act.put, List.setIfInBounds_toArray, List.set_cons_zero, List.set_cons_succ]
        refine wpAny_ready (rs := [1, 4]) (by kernel_rfl) (by simp) ?_
        refine (AllReady.cons (o := ⟨some 13, _, _, _, _, _⟩) rfl (fun K hK => ?_) (AllReady.cons (o := ⟨some 16, _, _, _, _, _⟩) rfl (fun K hK => ?_) AllReady.nil))
        · have hlw4 : (loadVar 45 ⟨C0, 20, none⟩).run Tryz.prog w4 = .ok (.slice va ds.size vc) w4 := ld45 _ _ _ _ _ (by exact C4.out.cell (i := 20) (by omega))
          refine step_ldv (by rfl) 45 _ rfl ⟨C0, 20, none⟩ rfl (.slice va ds.size vc) hlw4 ?_
          refine hK _ _ ?_
          clear hK K
          try simp only [Act.put, List.setIfInBounds_toArray, List.set_cons_zero, List.set_cons_succ]
          refine wpAny_ready (rs := [4]) (by kernel_rfl) (by simp) ?_
          refine (AllReady.cons (o := ⟨some 16, _, _, _, _, _⟩) rfl (fun K hK => ?_) AllReady.nil)
          refine step_bs45 (by rfl) _ rfl D rfl ?_
          have B5 : Hid (Below w4.heap.size w4 (w4.alloc (.cells (vals (cl D) 20).toArray 27))) := new_below _ _
          have X5 : Hid (Is (w4.alloc (.cells (vals (cl D) 20).toArray 27)) (.slice (some ⟨w4.heap.size, 0, none⟩) 1 1) #[D]) := is_one (rowIs_vals _ _ _ _) HDI.out.1
          obtain ⟨w5, hw5⟩ : ∃ V, V = w4.alloc (.cells (vals (cl D) 20).toArray 27) := ⟨_, rfl⟩
          rw [← hw5] at B5 X5
          rw [← hw5]
          obtain ⟨X, hX⟩ : ∃ X, X = w4.heap.size := ⟨_, rfl⟩
          rw [← hX] at X5
          rw [← hX]
          have C5 : Hid (w5.rowIs C0 47 24 (cf T (.slice va ds.size vc) [] [] [])) := rowIs_fr (P := fun _ => False) C4.out (Fr.ofBelow B5.out) (fun h => h)
          have P5 : Hid (w5.rowIs P0 107 50 (psf nlv (cf z20 nlv [] [] []) (tf z20 0 [] [] []) nlv)) := rowIs_fr (P := fun _ => False) P4.out (Fr.ofBelow B5.out) (fun h => h)
          have R5 : Hid (w5.rowIs R 150 2 (rf (lin pnt lc).2 (idE pnt lc ec))) := rowIs_fr (P := fun _ => False) R4.out (Fr.ofBelow B5.out) (fun h => h)
          have D5 : Hid (Dp B w5 (.slice va ds.size vc) ds) := D4.out.keep B5.out
          have F5 : Hid (Fr (fun i => i = R) wr w5) := F4.out.trans (Fr.ofBelow B5.out) (fun _ _ h => h)
          refine hK _ _ ?_
          clear hK K hw5 hX B5 C4 P4 R4 D4 F4
          try simp only [Act.put, List.setIfInBounds_toArray, List.set_cons_zero, List.set_cons_succ]
          refine wpAny_ready (rs := [5]) (by kernel_rfl) (by simp) ?_
          refine (AllReady.cons (o := ⟨some 17, _, _, _, _, _⟩) rfl (fun K hK => ?_) AllReady.nil)
          refine step_appI (by rfl) _ _ rfl B (.slice va ds.size vc) ds rfl D5.out (some ⟨X, 0, none⟩) 1 1 #[D] rfl X5.out (by have := HB2.out; have := F5.out.size; omega) (by have := HSZ.out; show ds.size + 1 < 100000; omega) ?_
          intro v6 w6 d6 g6
          have hb6 : Below B w5 w6 := D5.out.grown g6 (Nat.le_refl _) (by have := HB2.out; have := F5.out.size; omega)
          have F56 : Fr (fun k => B ≤ k) w5 w6 := ⟨hb6.os, hb6.tape, hb6.output, hb6.size, fun k hk hn => hb6.block k (by omega)⟩
          have C6 : Hid (w6.rowIs C0 47 24 (cf T (.slice va ds.size vc) [] [] [])) := rowIs_fr C5.out F56 (by have := HLB.out; omega)
          have P6 : Hid (w6.rowIs P0 107 50 (psf nlv (cf z20 nlv [] [] []) (tf z20 0 [] [] []) nlv)) := rowIs_fr P5.out F56 (by have := HLB.out; omega)
          have R6 : Hid (w6.rowIs R 150 2 (rf (lin pnt lc).2 (idE pnt lc ec))) := rowIs_fr R5.out F56 (by have := HLB.out; omega)
          have D6 : Hid (Dp B w6 v6 (ds ++ #[D])) := d6
          have hFw : Fr (fun i => i = R) w w6 := (HF2.out.trans F5.out (fun _ _ h => h)).trans F56 (fun i hi e => by have := HBE.out; omega)
          have F6 : Hid (Fr (fun i => i = R) w w6) := hFw
          have S6 : Hid (w5.heap.size ≤ w6.heap.size) := hb6.size
          refine hK _ _ ?_
          clear hK K d6 g6 hb6 F56 hFw
          try simp only [Act.put, List.setIfInBounds_toArray, List.set_cons_zero, List.set_cons_succ]
          refine wpAny_take (i := 6) (oi := ⟨some 18, _, _, _, _, _⟩) (v := ?_) rfl (by kernel_rfl) (by kernel_rfl) (by kernel_rfl) (fun _ _ _ h => h) (Or.inl ⟨by rfl, ?_⟩) ?_
          rotate_left
          · (intro w'; go_simp; try with_reducible rfl)
          try simp only [Act.put, List.setIfInBounds_toArray, List.set_cons_zero, List.set_cons_succ]
          refine wpAny_ready (rs := [7]) (by kernel_rfl) (by simp) ?_
          refine (AllReady.cons (o := ⟨none, _, _, _, _, _⟩) rfl (fun K hK => ?_) AllReady.nil)
          have z6 := World.rowIs.frozen C6.out 20
          obtain ⟨va6, vc6, hv6⟩ := D6.out.shape
          subst hv6
          have s6 := set_row C6.out 20 (.slice va6 (ds ++ #[D]).size vc6) (cf20 T (.slice va ds.size vc) (.slice va6 (ds ++ #[D]).size vc6) [] [] [])
          obtain ⟨w7, hw7⟩ : ∃ V, w6.setCell ⟨C0, 20, none⟩ (.slice va6 (ds ++ #[D]).size vc6) = V := ⟨_, rfl⟩
          have f67 : Fr (fun k => k = C0) w6 w7 := by rw [← hw7]; exact set_fr w6 C0 20 _
          rw [hw7] at s6
          have HW7 : Hid (w6.setCell ⟨C0, 20, none⟩ (.slice va6 (ds ++ #[D]).size vc6) = w7) := hw7
          have C7 : Hid (w7.rowIs C0 47 24 (cf T (.slice va6 (ds ++ #[D]).size vc6) [] [] [])) := s6
          have P7 : Hid (w7.rowIs P0 107 50 (psf nlv (cf z20 nlv [] [] []) (tf z20 0 [] [] []) nlv)) := rowIs_fr P6.out f67 HNE.out.2.2.1
          have R7 : Hid (w7.rowIs R 150 2 (rf (lin pnt lc).2 (idE pnt lc ec))) := rowIs_fr R6.out f67 (fun h => HNE.out.2.1 h.symm)
          have D7 : Hid (Dp B w7 (.slice va6 (ds ++ #[D]).size vc6) (ds ++ #[D])) := D6.out.fr f67 (fun k hk e => by have := HLB.out; omega)
          have F7 : Hid (Fr (fun i => i = R) w w7) := F6.out.trans f67 (fun i hi e => by have := HNE.out; omega)
          have S7 : Hid (B ≤ w7.heap.size) := by have h1 := f67.size; have h2 := S6.out; have h3 := HB2.out; have h4 := F5.out.size; show B ≤ _; omega
          have c6c := C6.out.cell (i := 20) (by omega)
          refine step_st45 (by rfl) _ _ rfl C0 20 rfl va6 (ds ++ #[D]).size vc6 rfl _ c6c z6 ?_
          rw [HW7.out]
          clear c6c z6 s6 f67 hw7 D5 C5 P5 R5 F5 X5 C6 P6 R6 D6 F6 S6
          refine hK _ _ ?_
          clear hK K
          refine wpAny_done (by kernel_rfl) ?_ _
          simp only [Act.put]
          go_roundw
          case measure =>
            have h1 := rln_of R7.out
            have h2 := lin_short pnt lc HPF.out
            have h3 := HLN.out.1
            omega
          case rel => exact ⟨_, _, _, _, _, _, _, _, _, _, _, _, ⟨(lin pnt lc).2, idE pnt lc ec, _, ds ++ #[D], rest', R7.out, by have := lin_short pnt lc HPF.out; have := HLN.out.2; omega, C7.out, P7.out, F7.out, D7.out, S7.out, HPS2.out, by have h1 := HE2.out; rw [HDI.out.2] at h1; simpa using h1⟩, rfl⟩
        · refine step_bs45 (by rfl) _ rfl D rfl ?_
          have B5 : Hid (Below w4.heap.size w4 (w4.alloc (.cells (vals (cl D) 20).toArray 27))) := new_below _ _
          have X5 : Hid (Is (w4.alloc (.cells (vals (cl D) 20).toArray 27)) (.slice (some ⟨w4.heap.size, 0, none⟩) 1 1) #[D]) := is_one (rowIs_vals _ _ _ _) HDI.out.1
          obtain ⟨w5, hw5⟩ : ∃ V, V = w4.alloc (.cells (vals (cl D) 20).toArray 27) := ⟨_, rfl⟩
          rw [← hw5] at B5 X5
          rw [← hw5]
          obtain ⟨X, hX⟩ : ∃ X, X = w4.heap.size := ⟨_, rfl⟩
          rw [← hX] at X5
          rw [← hX]
          have C5 : Hid (w5.rowIs C0 47 24 (cf T (.slice va ds.size vc) [] [] [])) := rowIs_fr (P := fun _ => False) C4.out (Fr.ofBelow B5.out) (fun h => h)
          have P5 : Hid (w5.rowIs P0 107 50 (psf nlv (cf z20 nlv [] [] []) (tf z20 0 [] [] []) nlv)) := rowIs_fr (P := fun _ => False) P4.out (Fr.ofBelow B5.out) (fun h => h)
          have R5 : Hid (w5.rowIs R 150 2 (rf (lin pnt lc).2 (idE pnt lc ec))) := rowIs_fr (P := fun _ => False) R4.out (Fr.ofBelow B5.out) (fun h => h)
          have D5 : Hid (Dp B w5 (.slice va ds.size vc) ds) := D4.out.keep B5.out
          have F5 : Hid (Fr (fun i => i = R) wr w5) := F4.out.trans (Fr.ofBelow B5.out) (fun _ _ h => h)
          refine hK _ _ ?_
          clear hK K hw5 hX B5 C4 P4 R4 D4 F4
          try simp only [Act.put, List.setIfInBounds_toArray, List.set_cons_zero, List.set_cons_succ]
          refine wpAny_ready (rs := [1]) (by kernel_rfl) (by simp) ?_
          refine (AllReady.cons (o := ⟨some 13, _, _, _, _, _⟩) rfl (fun K hK => ?_) AllReady.nil)
          have hlw5 : (loadVar 45 ⟨C0, 20, none⟩).run Tryz.prog w5 = .ok (.slice va ds.size vc) w5 := ld45 _ _ _ _ _ (by exact C5.out.cell (i := 20) (by omega))
          refine step_ldv (by rfl) 45 _ rfl ⟨C0, 20, none⟩ rfl (.slice va ds.size vc) hlw5 ?_
          refine hK _ _ ?_
          clear hK K
          try simp only [Act.put, List.setIfInBounds_toArray, List.set_cons_zero, List.set_cons_succ]
          refine wpAny_ready (rs := [5]) (by kernel_rfl) (by simp) ?_
          refine (AllReady.cons (o := ⟨some 17, _, _, _, _, _⟩) rfl (fun K hK => ?_) AllReady.nil)
          refine step_appI (by rfl) _ _ rfl B (.slice va ds.size vc) ds rfl D5.out (some ⟨X, 0, none⟩) 1 1 #[D] rfl X5.out (by have := HB2.out; have := F5.out.size; omega) (by have := HSZ.out; show ds.size + 1 < 100000; omega) ?_
          intro v6 w6 d6 g6
          have hb6 : Below B w5 w6 := D5.out.grown g6 (Nat.le_refl _) (by have := HB2.out; have := F5.out.size; omega)
          have F56 : Fr (fun k => B ≤ k) w5 w6 := ⟨hb6.os, hb6.tape, hb6.output, hb6.size, fun k hk hn => hb6.block k (by omega)⟩
          have C6 : Hid (w6.rowIs C0 47 24 (cf T (.slice va ds.size vc) [] [] [])) := rowIs_fr C5.out F56 (by have := HLB.out; omega)
          have P6 : Hid (w6.rowIs P0 107 50 (psf nlv (cf z20 nlv [] [] []) (tf z20 0 [] [] []) nlv)) := rowIs_fr P5.out F56 (by have := HLB.out; omega)
          have R6 : Hid (w6.rowIs R 150 2 (rf (lin pnt lc).2 (idE pnt lc ec))) := rowIs_fr R5.out F56 (by have := HLB.out; omega)
          have D6 : Hid (Dp B w6 v6 (ds ++ #[D])) := d6
          have hFw : Fr (fun i => i = R) w w6 := (HF2.out.trans F5.out (fun _ _ h => h)).trans F56 (fun i hi e => by have := HBE.out; omega)
          have F6 : Hid (Fr (fun i => i = R) w w6) := hFw
          have S6 : Hid (w5.heap.size ≤ w6.heap.size) := hb6.size
          refine hK _ _ ?_
          clear hK K d6 g6 hb6 F56 hFw
          try simp only [Act.put, List.setIfInBounds_toArray, List.set_cons_zero, List.set_cons_succ]
          refine wpAny_take (i := 6) (oi := ⟨some 18, _, _, _, _, _⟩) (v := ?_) rfl (by kernel_rfl) (by kernel_rfl) (by kernel_rfl) (fun _ _ _ h => h) (Or.inl ⟨by rfl, ?_⟩) ?_
          rotate_left
          · (intro w'; go_simp; try with_reducible rfl)
          try simp only [Act.put, List.setIfInBounds_toArray, List.set_cons_zero, List.set_cons_succ]
          refine wpAny_ready (rs := [7]) (by kernel_rfl) (by simp) ?_
          refine (AllReady.cons (o := ⟨none, _, _, _, _, _⟩) rfl (fun K hK => ?_) AllReady.nil)
          have z6 := World.rowIs.frozen C6.out 20
          obtain ⟨va6, vc6, hv6⟩ := D6.out.shape
          subst hv6
          have s6 := set_row C6.out 20 (.slice va6 (ds ++ #[D]).size vc6) (cf20 T (.slice va ds.size vc) (.slice va6 (ds ++ #[D]).size vc6) [] [] [])
          obtain ⟨w7, hw7⟩ : ∃ V, w6.setCell ⟨C0, 20, none⟩ (.slice va6 (ds ++ #[D]).size vc6) = V := ⟨_, rfl⟩
          have f67 : Fr (fun k => k = C0) w6 w7 := by rw [← hw7]; exact set_fr w6 C0 20 _
          rw [hw7] at s6
          have HW7 : Hid (w6.setCell ⟨C0, 20, none⟩ (.slice va6 (ds ++ #[D]).size vc6) = w7) := hw7
          have C7 : Hid (w7.rowIs C0 47 24 (cf T (.slice va6 (ds ++ #[D]).size vc6) [] [] [])) := s6
          have P7 : Hid (w7.rowIs P0 107 50 (psf nlv (cf z20 nlv [] [] []) (tf z20 0 [] [] []) nlv)) := rowIs_fr P6.out f67 HNE.out.2.2.1
          have R7 : Hid (w7.rowIs R 150 2 (rf (lin pnt lc).2 (idE pnt lc ec))) := rowIs_fr R6.out f67 (fun h => HNE.out.2.1 h.symm)
          have D7 : Hid (Dp B w7 (.slice va6 (ds ++ #[D]).size vc6) (ds ++ #[D])) := D6.out.fr f67 (fun k hk e => by have := HLB.out; omega)
          have F7 : Hid (Fr (fun i => i = R) w w7) := F6.out.trans f67 (fun i hi e => by have := HNE.out; omega)
          have S7 : Hid (B ≤ w7.heap.size) := by have h1 := f67.size; have h2 := S6.out; have h3 := HB2.out; have h4 := F5.out.size; show B ≤ _; omega
          have c6c := C6.out.cell (i := 20) (by omega)
          refine step_st45 (by rfl) _ _ rfl C0 20 rfl va6 (ds ++ #[D]).size vc6 rfl _ c6c z6 ?_
          rw [HW7.out]
          clear c6c z6 s6 f67 hw7 D5 C5 P5 R5 F5 X5 C6 P6 R6 D6 F6 S6
          refine hK _ _ ?_
          clear hK K
          refine wpAny_done (by kernel_rfl) ?_ _
          simp only [Act.put]
          go_roundw
          case measure =>
            have h1 := rln_of R7.out
            have h2 := lin_short pnt lc HPF.out
            have h3 := HLN.out.1
            omega
          case rel => exact ⟨_, _, _, _, _, _, _, _, _, _, _, _, ⟨(lin pnt lc).2, idE pnt lc ec, _, ds ++ #[D], rest', R7.out, by have := lin_short pnt lc HPF.out; have := HLN.out.2; omega, C7.out, P7.out, F7.out, D7.out, S7.out, HPS2.out, by have h1 := HE2.out; rw [HDI.out.2] at h1; simpa using h1⟩, rfl⟩
    | false =>
      rw [hpf] at hha
      have hpe : rest = [] ∧ lc = lp ∧ ec = ep := by
        cases ps with
        | stop _ _ h => exact ⟨rfl, rfl, rfl⟩
        | more _ _ ds' _ _ h t => rw [hpf] at h; cases h
      obtain ⟨h1, h2, h3⟩ := hpe
      subst h1 h2 h3
      have HDE : Hid (ds.toList = DS) := by have := HE2.out; rw [List.append_nil] at this; exact this
      clear ps hpf
      go_wp2_with fail
      refine hha.mono ?_
      rintro ex wx ⟨rfl, hwx⟩
      subst wx
      clear hha q2
      have hl2 := line_any aut wr
      go_wp2_with fail
      refine hl2.mono ?_
      rintro ex w3 ⟨a2, b2, p2, rfl, ha2, hb2, hp2, B2⟩
      have F2 : Fr (fun i => i = R) wr w3 := Fr.ofBelow B2
      have HF3 : Hid (Fr (fun i => i = R) w w3) := HF2.out.trans F2 (fun _ _ h => h)
      have HP3 : Hid (w3.rowIs P0 107 50 (psf nlv (cf z20 nlv [] [] []) (tf z20 0 [] [] []) nlv)) := rowIs_fr HP2.out F2 HNE.out.1
      have HC3 : Hid (w3.rowIs C0 47 24 (cf T (.slice va ds.size vc) [] [] [])) := rowIs_fr HC2.out F2 HNE.out.2.1
      have HV3 : Hid (Dp B w3 (.slice va ds.size vc) ds) := HD2.out.keep B2
      have HZ3 : Hid (B ≤ w3.heap.size) := Nat.le_trans HB2.out B2.size
      have hcl2 := cutLine R aut lc ec a2 b2 p2 w3 (HG.out _ HF3.out) (rowIs_fr (P := fun _ => False) HR2.out (Fr.ofBelow B2) (fun h => h)) ha2 hb2 hp2 n1 (by decide)
      rw [hA, he2] at hcl2
      clear hl2 ha2 hb2 hp2 B2 F2 HF2 HP2 HC2 HR2
      go_wp2_with fail
      refine hcl2.mono ?_
      rintro ex w4 ⟨rfl, r4, f4⟩
      have HF4 : Hid (Fr (fun i => i = R) w w4) := HF3.out.trans f4 (fun _ _ h => h)
      have HP4 : Hid (w4.rowIs P0 107 50 (psf nlv (cf z20 nlv [] [] []) (tf z20 0 [] [] []) nlv)) := rowIs_fr HP3.out f4 HNE.out.1
      have c4 : w4.rowIs C0 47 24 (cf T (.slice va ds.size vc) [] [] []) := rowIs_fr HC3.out f4 HNE.out.2.1
      have HR4 : Hid (w4.rowIs R 150 2 (rf l2 e2)) := r4
      have HV4 : Hid (Dp B w4 (.slice va ds.size vc) ds) := HV3.out.fr f4 (fun k hk e => by have := HLB.out; omega)
      have HZ4 : Hid (B ≤ w4.heap.size) := Nat.le_trans HZ3.out f4.size
      have q4 : w4.cell? ⟨C0, 21, none⟩ = some (sv []) := c4.cell (i := 21) (by omega)
      have z4 := World.rowIs.frozen c4 21
      have s4 := setS c4 21 A A [] [] (cf21 T (.slice va ds.size vc) [] [] [] A)
      obtain ⟨w5, hw5⟩ : ∃ V, w4.setCell ⟨C0, 21, none⟩ (sv A) = V := ⟨_, rfl⟩
      rw [hw5] at s4
      have HC5 : Hid (w5.rowIs C0 47 24 (cf T (.slice va ds.size vc) A [] [])) := s4.1
      have HF5 : Hid (Fr (fun i => i = R) w w5) := HF4.out.trans s4.2 (fun i hi e => by have := HNE.out.2.2.2.2; omega)
      have HP5 : Hid (w5.rowIs P0 107 50 (psf nlv (cf z20 nlv [] [] []) (tf z20 0 [] [] []) nlv)) := rowIs_fr HP4.out s4.2 HNE.out.2.2.1
      have HR5 : Hid (w5.rowIs R 150 2 (rf l2 e2)) := rowIs_fr HR4.out s4.2 (fun h => HNE.out.2.1 h.symm)
      have HV5 : Hid (Dp B w5 (.slice va ds.size vc) ds) := HV4.out.fr s4.2 (fun k hk e => by have := HLB.out; omega)
      have HZ5 : Hid (B ≤ w5.heap.size) := Nat.le_trans HZ4.out s4.2.size
      clear hcl2 r4 f4 c4 s4 HF3 HP3 HC3 HF4 HP4 HR4
      have hl5 := line_any com w5
      go_wp2_with fail
      refine hl5.mono ?_
      rintro ex w6 ⟨a5, b5, p5, rfl, ha5, hb5, hp5, B5⟩
      have F5 : Fr (fun i => i = R) w5 w6 := Fr.ofBelow B5
      have HF6 : Hid (Fr (fun i => i = R) w w6) := HF5.out.trans F5 (fun _ _ h => h)
      have HP6 : Hid (w6.rowIs P0 107 50 (psf nlv (cf z20 nlv [] [] []) (tf z20 0 [] [] []) nlv)) := rowIs_fr HP5.out F5 HNE.out.1
      have HC6 : Hid (w6.rowIs C0 47 24 (cf T (.slice va ds.size vc) A [] [])) := rowIs_fr HC5.out F5 HNE.out.2.1
      have HV6 : Hid (Dp B w6 (.slice va ds.size vc) ds) := HV5.out.keep B5
      have HZ6 : Hid (B ≤ w6.heap.size) := Nat.le_trans HZ5.out B5.size
      have hcl5 := cutLine R com l2 e2 a5 b5 p5 w6 (HG.out _ HF6.out) (rowIs_fr (P := fun _ => False) HR5.out (Fr.ofBelow B5) (fun h => h)) ha5 hb5 hp5 n2 (by decide)
      rw [hC, he3] at hcl5
      clear hl5 ha5 hb5 hp5 B5 F5 HF5 HP5 HC5 HR5
      go_wp2_with fail
      refine hcl5.mono ?_
      rintro ex w7 ⟨rfl, r7, f7⟩
      have HF7 : Hid (Fr (fun i => i = R) w w7) := HF6.out.trans f7 (fun _ _ h => h)
      have HP7 : Hid (w7.rowIs P0 107 50 (psf nlv (cf z20 nlv [] [] []) (tf z20 0 [] [] []) nlv)) := rowIs_fr HP6.out f7 HNE.out.1
      have c7 : w7.rowIs C0 47 24 (cf T (.slice va ds.size vc) A [] []) := rowIs_fr HC6.out f7 HNE.out.2.1
      have HR7 : Hid (w7.rowIs R 150 2 (rf l3 e3)) := r7
      have HV7 : Hid (Dp B w7 (.slice va ds.size vc) ds) := HV6.out.fr f7 (fun k hk e => by have := HLB.out; omega)
      have HZ7 : Hid (B ≤ w7.heap.size) := Nat.le_trans HZ6.out f7.size
      have q7 : w7.cell? ⟨C0, 22, none⟩ = some (sv []) := c7.cell (i := 22) (by omega)
      have z7 := World.rowIs.frozen c7 22
      have s7 := setS c7 22 C A C [] (cf22 T (.slice va ds.size vc) A [] [] C)
      obtain ⟨w8, hw8⟩ : ∃ V, w7.setCell ⟨C0, 22, none⟩ (sv C) = V := ⟨_, rfl⟩
      rw [hw8] at s7
      have HC8 : Hid (w8.rowIs C0 47 24 (cf T (.slice va ds.size vc) A C [])) := s7.1
      have HF8 : Hid (Fr (fun i => i = R) w w8) := HF7.out.trans s7.2 (fun i hi e => by have := HNE.out.2.2.2.2; omega)
      have HP8 : Hid (w8.rowIs P0 107 50 (psf nlv (cf z20 nlv [] [] []) (tf z20 0 [] [] []) nlv)) := rowIs_fr HP7.out s7.2 HNE.out.2.2.1
      have HR8 : Hid (w8.rowIs R 150 2 (rf l3 e3)) := rowIs_fr HR7.out s7.2 (fun h => HNE.out.2.1 h.symm)
      have HV8 : Hid (Dp B w8 (.slice va ds.size vc) ds) := HV7.out.fr s7.2 (fun k hk e => by have := HLB.out; omega)
      have HZ8 : Hid (B ≤ w8.heap.size) := Nat.le_trans HZ7.out s7.2.size
      clear hcl5 r7 f7 c7 s7 HF6 HP6 HC6 HF7 HP7 HR7
      have hme := message_any R l3 e3 w8 (HG.out _ HF8.out) HR8.out n3
      rw [hM, he4] at hme
      go_wp2_with fail
      refine hme.mono ?_
      rintro ex w9 ⟨rfl, r9, f9⟩
      have HF9 : Hid (Fr (fun i => i = R) w w9) := HF8.out.trans f9 (fun _ _ h => h)
      have HP9 : Hid (w9.rowIs P0 107 50 (psf nlv (cf z20 nlv [] [] []) (tf z20 0 [] [] []) nlv)) := rowIs_fr HP8.out f9 HNE.out.1
      have c9 : w9.rowIs C0 47 24 (cf T (.slice va ds.size vc) A C []) := rowIs_fr HC8.out f9 HNE.out.2.1
      have HR9 : Hid (w9.rowIs R 150 2 (rf [] e4)) := r9
      have HV9 : Hid (Dp B w9 (.slice va ds.size vc) ds) := HV8.out.fr f9 (fun k hk e => by have := HLB.out; omega)
      have HZ9 : Hid (B ≤ w9.heap.size) := Nat.le_trans HZ8.out f9.size
      have q9 : w9.cell? ⟨C0, 23, none⟩ = some (sv []) := c9.cell (i := 23) (by omega)
      have z9 := World.rowIs.frozen c9 23
      have s9 := setS c9 23 M A C M (cf23 T (.slice va ds.size vc) A C [] M)
      obtain ⟨w10, hw10⟩ : ∃ V, w9.setCell ⟨C0, 23, none⟩ (sv M) = V := ⟨_, rfl⟩
      rw [hw10] at s9
      have c10 : w10.rowIs C0 47 24 (cf T (.slice va ds.size vc) A C M) := s9.1
      have HF10 : Hid (Fr (fun i => i = R) w w10) := HF9.out.trans s9.2 (fun i hi e => by have := HNE.out.2.2.2.2; omega)
      have HP10 : Hid (w10.rowIs P0 107 50 (psf nlv (cf z20 nlv [] [] []) (tf z20 0 [] [] []) nlv)) := rowIs_fr HP9.out s9.2 HNE.out.2.2.1
      have HR10 : Hid (w10.rowIs R 150 2 (rf [] e4)) := rowIs_fr HR9.out s9.2 (fun h => HNE.out.2.1 h.symm)
      have HC10 : Hid (w10.rowIs C0 47 24 (cf T (.slice va ds.size vc) A C M)) := c10
      have HV10 : Hid (Dp B w10 (.slice va ds.size vc) ds) := HV9.out.fr s9.2 (fun k hk e => by have := HLB.out; omega)
      have HZ10 : Hid (B ≤ w10.heap.size) := Nat.le_trans HZ9.out s9.2.size
      have hmb := mayBe_any T (.slice va ds.size vc) A C M ds w10 HV10.out.is nA nC (by have h1 := congrArg List.length HDE.out; rw [Array.length_toList] at h1; have := HDS.out.1; omega)
      rw [HDE.out] at hmb
      obtain ⟨bb, hbb⟩ : ∃ bb, bb = mb A C DS := ⟨_, rfl⟩
      rw [← hbb] at hmb he5
      clear hbb
      clear hme r9 f9 c9 s9 HF8 HP8 HC8 HR8 HF9 HP9 HR9
      go_wp2_with (first
        | (refine wpList_ld0 rfl 47 _ rfl C0 rfl _ c10 24 (Nat.le_refl _) Tryz.underlying47 rfl (by kernel_rfl) ?_))
      refine hmb.mono ?_
      rintro ex w11 ⟨rfl, b11⟩
      have f11 : Fr (fun i => i = R) w10 w11 := Fr.ofBelow b11
      have HF11 : Hid (Fr (fun i => i = R) w w11) := HF10.out.trans f11 (fun _ _ h => h)
      have HP11 : Hid (w11.rowIs P0 107 50 (psf nlv (cf z20 nlv [] [] []) (tf z20 0 [] [] []) nlv)) := rowIs_fr HP10.out f11 HNE.out.1
      have HC11 : Hid (w11.rowIs C0 47 24 (cf T (.slice va ds.size vc) A C M)) := rowIs_fr HC10.out f11 HNE.out.2.1
      have HV11 : Hid (Dp B w11 (.slice va ds.size vc) ds) := HV10.out.keep b11
      have HZ11 : Hid (B ≤ w11.heap.size) := Nat.le_trans HZ10.out b11.size
      have hnd := need_any R [] e4 2 bb w11 (rowIs_fr (P := fun _ => False) HR10.out (Fr.ofBelow b11) (fun h => h))
      clear hmb c10 b11 f11 HF10 HP10 HR10 HC10
      go_wp2_with fail
      refine hnd.mono ?_
      rintro ex w12 ⟨rfl, r12, f12⟩
      rw [he5] at r12
      have HF12 : Hid (Fr (fun i => i = R) w w12) := HF11.out.trans f12 (fun _ _ h => h)
      have HP12 : Hid (w12.rowIs P0 107 50 (psf nlv (cf z20 nlv [] [] []) (tf z20 0 [] [] []) nlv)) := rowIs_fr HP11.out f12 HNE.out.1
      have HC12 : Hid (w12.rowIs C0 47 24 (cf T (.slice va ds.size vc) A C M)) := rowIs_fr HC11.out f12 HNE.out.2.1
      have HV12 : Hid (Dp B w12 (.slice va ds.size vc) ds) := HV11.out.fr f12 (fun k hk e => by have := HLB.out; omega)
      have HZ12 : Hid (B ≤ w12.heap.size) := Nat.le_trans HZ11.out f12.size
      have HR12 : Hid (w12.rowIs R 150 2 (rf [] e5)) := r12
      clear hnd r12 f12 HF11 HP11 HC11
      go_wp2_with fail
      have HD : Hid (Fr (fun i => i = P0) w12 w12.drew) := (Fr.refl _ _).drew
      have HSC : Hid (∀ V, Fr (fun i => i = P0) w12 V → V.rowIs C0 47 24 (cf T (.slice va ds.size vc) A C M)) := fun V hV => rowIs_fr HC12.out hV (fun h => HNE.out.2.2.1 h.symm)
      refine wp_region_noPanic ?_
      refine wp_region_held_drew (S := fun V => Fr (fun i => i = P0) w12 V ∧ ∃ f, V.rowIs P0 107 50 f) (by kernel_rfl) ⟨HD.out, _, rowIs_fr (P := fun _ => False) HP12.out (Fr.refl _ _).drew (fun h => h)⟩ (fun hHeld => ?_)
      refine wpAnyH_take (i := 0) (oi := ⟨some 34, _, _, _, _, _⟩) (v := cmv T (.slice va ds.size vc) A C M) rfl (by kernel_rfl) (by kernel_rfl) (by kernel_rfl) (fun _ _ _ h => h) (yieldsIf_load_mid (by rfl) _ _ rfl C0 0 rfl (vals (cf T (.slice va ds.size vc) A C M) 24) _ (fun V hV => by simpa using rangeAt_row (HSC.out V hV.1) 0 24 (by omega)) Tryz.underlying47 rfl (by rw [vals_len]; kernel_rfl)) hHeld ?_
      try simp only [Act.put, List.setIfInBounds_toArray, List.set_cons_zero, List.set_cons_succ]
      refine wpAnyH_take (i := 1) (oi := ⟨some 35, _, _, _, _, _⟩) (v := ?_) rfl (by kernel_rfl) (by kernel_rfl) (by kernel_rfl) (fun _ _ _ h => h) (Or.inl ⟨by rfl, ?_⟩) hHeld ?_
      rotate_left
      · (intro w' hSw; go_simp; try with_reducible rfl)
      try simp only [Act.put, List.setIfInBounds_toArray, List.set_cons_zero, List.set_cons_succ]
      refine wpAnyH_take (i := 2) (oi := ⟨some 36, _, _, _, _, _⟩) (v := idv T) rfl (by kernel_rfl) (by kernel_rfl) (by kernel_rfl) (fun _ _ _ h => h) (yieldsIf_load_mid (by rfl) _ _ rfl C0 0 rfl (vals (cl T) 20) _ (fun V hV => by
        have h := rangeAt_row (HSC.out V hV.1) 0 20 (by omega)
        rw [vals_congr (fun j => cf T (.slice va ds.size vc) A C M (0 + j)) (cl T) 20 (fun j hj => by unfold cf; rw [Nat.zero_add, if_pos hj])] at h
        exact h) Tryz.underlying27 rfl (by rw [vals_len]; kernel_rfl)) hHeld ?_
      try simp only [Act.put, List.setIfInBounds_toArray, List.set_cons_zero, List.set_cons_succ]
      refine wpAnyH_take (i := 4) (oi := ⟨some 38, _, _, _, _, _⟩) (v := ?_) rfl (by kernel_rfl) (by kernel_rfl) (by kernel_rfl) (fun _ _ _ h => h) (Or.inl ⟨by rfl, ?_⟩) hHeld ?_
      rotate_left
      · (intro w' hSw; go_simp; try with_reducible rfl)
      try simp only [Act.put, List.setIfInBounds_toArray, List.set_cons_zero, List.set_cons_succ]
      refine wpAnyH_take (i := 5) (oi := ⟨some 39, _, _, _, _, _⟩) (v := (.slice va ds.size vc)) rfl (by kernel_rfl) (by kernel_rfl) (by kernel_rfl) (fun _ _ _ h => h) (Or.inl ⟨by rfl, ?_⟩) hHeld ?_
      · (intro w' hSw; have q20 : w'.cell? ⟨C0, 20, none⟩ = some (.slice va ds.size vc) := (HSC.out w' hSw.1).cell (i := 20) (by omega); go_simp; try with_reducible rfl)
      try simp only [Act.put, List.setIfInBounds_toArray, List.set_cons_zero, List.set_cons_succ]
      refine wpAnyH_ready (rs := [3]) (by kernel_rfl) (by simp) ?_
      refine AllReadyH.cons (o := ⟨some 37, _, _, _, _, _⟩) rfl (fun K hK => ?_) AllReadyH.nil
      refine step_bs45 (by rfl) _ rfl T rfl ?_
      have HO : Hid (Dp B (w12.drew.alloc (.cells (vals (cl T) 20).toArray 27)) (.slice (some ⟨w12.drew.heap.size, 0, none⟩) 1 1) #[T]) := ⟨by
        have h1 := own_low (own_one w12.drew T) (show B ≤ w12.drew.heap.size from HZ12.out)
        have h2 : fl #[T] = vals (cl T) 20 := by simp [fl]
        rw [h2]
        exact h1, fun i hi => by
        obtain rfl : i = 0 := by simp at hi; omega
        exact HIDT.out⟩
      have HB13 : Hid (Below w12.drew.heap.size w12.drew (w12.drew.alloc (.cells (vals (cl T) 20).toArray 27))) := new_below _ _
      obtain ⟨w13, hw13⟩ : ∃ V, V = w12.drew.alloc (.cells (vals (cl T) 20).toArray 27) := ⟨_, rfl⟩
      obtain ⟨X, hX⟩ : ∃ X, X = w12.drew.heap.size := ⟨_, rfl⟩
      rw [← hw13, ← hX] at HO
      rw [← hw13] at HB13
      rw [← hw13, ← hX]
      have hXs : w12.heap.size ≤ X := by rw [hX]; exact Nat.le_refl _
      have hXs2 : w.heap.size ≤ w12.heap.size := HF12.out.size
      have hPl : P0 < w12.heap.size := HP12.out.lt
      have hRl2 : R < w12.heap.size := HR12.out.lt
      clear hw13 hX
      have S13 : Fr (fun i => i = P0) w12 w13 := HD.out.trans (Fr.ofBelow HB13.out) (fun _ _ h => h)
      refine hK.out _ _ ⟨S13, _, rowIs_fr (P := fun _ => False) (rowIs_fr (P := fun _ => False) HP12.out (Fr.refl _ _).drew (fun h => h)) (Fr.ofBelow HB13.out) (fun h => h)⟩ (fun hHeld => ?_)
      clear hK K
      try simp only [Act.put, List.setIfInBounds_toArray, List.set_cons_zero, List.set_cons_succ]
      refine wpAnyH_ready (rs := [6]) (by kernel_rfl) (by simp) ?_
      refine AllReadyH.cons (o := ⟨some 40, _, _, _, _, _⟩) rfl (fun K hK => ?_) AllReadyH.nil
      have hv13 : Is w13 (.slice va ds.size vc) ds := (HV12.out.keep ((Below.refl w12.heap.size w12).drew.trans HB13.out)).is
      refine step_appI (by rfl) _ _ rfl B (.slice (some ⟨X, 0, none⟩) 1 1) #[T] rfl HO.out va ds.size vc ds rfl hv13 (Nat.le_trans HZ12.out S13.size) (by have h1 := congrArg List.length HDE.out; rw [Array.length_toList] at h1; have := HDS.out.1; show 1 + ds.size < 100000; omega) ?_
      intro ve w14 d14 g14
      obtain ⟨xa, xc, hve⟩ := d14.shape
      subst hve
      have b14 : Below w12.heap.size w13 w14 := (Below.refl _ w13).grown g14 S13.size (fun k hk => by cases hk; exact hXs)
      have F14 : Fr (fun k => w12.heap.size ≤ k) w13 w14 := ⟨b14.os, b14.tape, b14.output, b14.size, fun k hk hn => b14.block k (by omega)⟩
      have S14 : Fr (fun i => i = P0) w12 w14 := S13.trans F14 (fun i hi e => by omega)
      have HV14 : Hid (Dp B w14 (.slice va ds.size vc) ds) := HV12.out.keep (((Below.refl w12.heap.size w12).drew.trans HB13.out).trans b14)
      have HE14 : Hid (Dp B w14 (.slice xa (#[T] ++ ds).size xc) (#[T] ++ ds)) := d14
      have p13 : ∃ f, w13.rowIs P0 107 50 f := ⟨_, rowIs_fr (P := fun _ => False) (rowIs_fr (P := fun _ => False) HP12.out (Fr.refl _ _).drew (fun h => h)) (Fr.ofBelow HB13.out) (fun h => h)⟩
      obtain ⟨f13, p13⟩ := p13
      refine hK.out _ _ ⟨S14, f13, rowIs_fr p13 F14 (by omega)⟩ (fun hHeld => ?_)
      clear hK K d14 g14 hv13
      try simp only [Act.put, List.setIfInBounds_toArray, List.set_cons_zero, List.set_cons_succ]
      refine wpAnyH_ready (rs := [7]) (by kernel_rfl) (by simp) ?_
      refine AllReadyH.cons (o := ⟨some 41, _, _, _, _, _⟩) rfl (fun K hK => ?_) AllReadyH.nil
      refine step_build (by rfl) _ _ rfl T (.slice va ds.size vc) A C M (.slice xa (#[T] ++ ds).size xc) rfl rfl rfl rfl ?_
      refine hK.out _ _ hHeld (fun hHeld => ?_)
      clear hK K
      try simp only [Act.put, List.setIfInBounds_toArray, List.set_cons_zero, List.set_cons_succ]
      obtain ⟨fp, hfp⟩ := hHeld.2
      refine wpAnyH_ready (rs := [8]) (by kernel_rfl) (by simp) ?_
      refine AllReadyH.cons (o := ⟨none, _, _, _, _, _⟩) rfl (fun K hK => ?_) AllReadyH.nil
      refine step_st107 (by rfl) _ _ rfl P0 rfl (psf nlv (cf T (.slice va ds.size vc) A C M) (tf z20 0 [] [] []) (.slice xa (#[T] ++ ds).size xc)) rfl fp hfp (psf_one _ _ _ _ rfl (cf_one _ _ _ _ _ rfl) (tf_one _ _ _ _ _) rfl) ?_
      intro w15 r15 f15
      have S15 : Fr (fun i => i = P0) w12 w15 := S14.trans f15 (fun _ _ h => h)
      refine hK.out _ _ ⟨S15, _, r15⟩ (fun hHeld => ?_)
      clear hK K
      refine wpAnyH_done (by kernel_rfl) ?_ _
      refine NoPanic.normal ?_
      have HF15 : Hid (Fr (fun i => i = R) w w15) := HF12.out.trans S15 (fun i hi e => by have := HNE.out.2.2.2.1; omega)
      have HR15 : Hid (w15.rowIs R 150 2 (rf [] e5)) := rowIs_fr HR12.out S15 (fun h => HNE.out.1 h.symm)
      have HV15 : Hid (Dp B w15 (.slice va ds.size vc) ds) := HV14.out.fr f15 (fun k hk e => by have := HLB.out; omega)
      have HE15 : Hid (Dp B w15 (.slice xa (#[T] ++ ds).size xc) (#[T] ++ ds)) := HE14.out.fr f15 (fun k hk e => by have := HLB.out; omega)
      clear hHeld S13 S14 S15 hfp f15 HO HB13 HSC HD HF12 HP12 HC12 HR12 F14 b14 p13
      go_wp2_with fail
      have hda : ds = DS.toArray := by rw [← HDE.out]
      refine bodyPost_ret (results_row (fn := Tryz.f117) (p := 2) (ty := 107) (by kernel_rfl) _ (by rfl) r15 Tryz.underlying107 rfl (by kernel_rfl)) rfl ⟨(.slice va ds.size vc), .slice xa (#[T] ++ ds).size xc, rfl, ?_, ?_, HR15.out, HF15.out⟩
      · rw [← HBE.out, ← hda]; exact HV15.out
      · have hdb : (T :: DS).toArray = #[T] ++ ds := by rw [hda]; simp
        rw [← HBE.out]
        first
          | (rw [hdb]; exact HE15.out)
          | (rw [← hda]; exact HE15.out)

end Go.Proofs.YtojgablpjdlegaaGreatDoor
