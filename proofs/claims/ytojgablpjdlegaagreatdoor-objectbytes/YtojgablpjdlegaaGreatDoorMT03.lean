/- Do entries rise: the walk. -/
import Derived.Test.YtojgablpjdlegaaGreatDoorMT02
namespace Go.Proofs.YtojgablpjdlegaaGreatDoor
open Go.RowKit Go.Shelf Go.Maps

theorem run_ixe (b o n c i : Nat) (e : Int) (he : e = i) (hi : i < n) (w : World) : (Instr.indexAt 39 (.slice (some ⟨b, o, none⟩) n c) (.int .i64 e)).run Tryz.prog w = .ok (.pointer (some ⟨b, o + i * 22, none⟩)) w := by
  subst he
  have hi2 : (i : Int) < (n : Int) := by omega
  clear hi
  simp [go_sem, hi2]

theorem q_ixe {ops : Array Oper} {op : Oper} {a : Act} {C : World → Prop} {K : Act → Prop} {E : Prop} (hw : Region.wanted op (yielded ops a.tmps) = true) (x y : Operand) (ho : op.op = .indexAddr 39 x y) (b o n c i : Nat) (e : Int) (hx : a.eval x = .slice (some ⟨b, o, none⟩) n c) (hy : a.eval y = .int .i64 e)
    (he : e = i) (hi : i < n) (hk : K (a.put op.dst (.pointer (some ⟨b, o + i * 22, none⟩)))) : if Region.wanted op (yielded ops a.tmps) = true then op.quiet Tryz.prog a C K else E := by
  rw [if_pos hw]
  refine ⟨_, fun w _ => ?_, hk⟩
  have h := run_ixe b o n c i e he hi w
  unfold Oper.quietAt execOp
  simp only [ho, hx, hy]
  simp [h, Oper.quietUpon]

theorem c39 (vs : Array Value) (w : World) : (callFunc 39 vs).run Tryz.prog w = .ok (.enter 39 vs) w := by simp [go_sem]

theorem load79 {w : World} {b : Nat} {x : En} (h : w.rowIs b 79 22 (ecl x)) : (loadVar 79 ⟨b, 0, none⟩).run Tryz.prog w = .ok (eV x) w := load_all 79 _ h Tryz.underlying79 rfl size79

/-- They rise, and no name is there twice. -/
noncomputable def riB (d : Array En) : Bool := @decide (Ri d d.size ∧ (nms d).Nodup) (Classical.propDecidable _)

theorem riB_iff (d : Array En) : riB d = true ↔ Ri d d.size ∧ (nms d).Nodup := @decide_eq_true_iff _ (Classical.propDecidable _)

set_option maxRecDepth 100000 in
set_option maxHeartbeats 8000000 in
theorem rise_any (v : Value) (d : Array En) (w : World) (h : Es w v d) (hsz : d.size < 100000) :
    Calls Tryz.prog 64 #[v] w fun e w' => e = .returned (.bool (riB d)) ∧ Below w.heap.size w w' := by
  obtain ⟨ao, c, hv, _⟩ := h.sh
  obtain ⟨n, hn⟩ : ∃ n, n = d.size := ⟨_, rfl⟩
  rw [← hn] at hv
  subst hv
  have hz := zero79
  have hmm := @run_makeMap Tryz.prog
  have HP : Hid (0 < n → ∃ b off, ao = some ⟨b, off, none⟩ ∧ ∀ W, Below w.heap.size w W → ∀ i, i < n → (loadVar 79 ⟨b, off + i * 22, none⟩).run Tryz.prog W = .ok (eV d[i]!) W) := fun h0 => by
    obtain ⟨b, off, h1, h2⟩ := h.plain (by omega)
    exact ⟨b, off, h1, fun W hW i hi => h2 W hW i (by omega)⟩
  have HOK : Hid (∀ i, i < n → okE d[i]!) := fun i hi => h.ok i (by omega)
  have HN : Hid (n = d.size ∧ n < 100000) := ⟨hn, by omega⟩
  obtain ⟨rr, hrr⟩ : ∃ rr, rr = riB d := ⟨_, rfl⟩
  have HRB : Hid (rr = true ↔ Ri d n ∧ (nms d).Nodup) := by
    show _ ↔ _
    rw [hrr, hn]
    exact riB_iff d
  rw [← hrr]
  clear h hsz hn hrr
  go_enter Tryz.func64, Tryz.ntmps64
  go_wp2_with fail
  go_loopw [9, 4, 5] (fun s9 s4 s5 wr => ∃ k : Nat, s9 = .int .i64 (k : Int) ∧ k ≤ n ∧ Hid (Ri d k) ∧ Hid (Om wr w.heap.size k ((nms d).take k)) ∧ Hid (Below w.heap.size w wr) ∧ Hid (w.heap.size < wr.heap.size)) (fun s9 _ _ _ => n - (intOf s9).toNat)
  case atStart => exact ⟨0, rfl, Nat.zero_le _, fun i h0 hi => absurd hi (by omega), World.ownsMap_made _ _ _ _, new_below _ _, by show _ < _; simp⟩
  case round =>
    obtain ⟨k, rfl, hkn, HK, HO, HB, HS⟩ := hrel
    by_cases hlt : k < n
    · have hq : (k : Int) < (n : Int) := by omega
      have d1 : decide ((k : Int) < (n : Int)) = true := by simp; omega
      have hwk : IntKind.i64.wrap ((k : Int) + 1) = (k : Int) + 1 := by have := HN.out; rw [IntKind.wrap_i64]; omega
      obtain ⟨b, off, rfl, hld0⟩ := HP.out (by omega)
      have HLD : Hid (∀ W, Below w.heap.size w W → ∀ i, i < n → (loadVar 79 ⟨b, off + i * 22, none⟩).run Tryz.prog W = .ok (eV d[i]!) W) := hld0
      have hld := hld0 wr HB.out k hlt
      have hok := HOK.out k hlt
      obtain ⟨x, hx⟩ : ∃ x, d[k]! = x := ⟨_, rfl⟩
      rw [hx] at hld hok
      have HX : Hid (d[k]! = x ∧ okE x) := ⟨hx, hok⟩
      have HLT : Hid (k < n) := hlt
      have HNB : Hid (Below wr.heap.size wr (wr.alloc (Obj.cells (vals (ef 0 ⟨#[]⟩ z20) 22).toArray 79))) := new_below _ _
      have HKY : Hid (keyOf Tryz.prog 9 (sv x.nm) = some (nk x.nm)) := key9 x.nm (by have := hok.nm; omega)
      have HNT : Hid ((nms d).take (k + 1) = (nms d).take k ++ [x.nm]) := by
        show _ = _
        rw [nms_take d k (by rw [← HN.out.1]; exact hlt), hx]
      clear hld0 hx hok hlt hkn
      go_wp2_with (first
        | (refine wpList_ldv rfl 79 _ rfl ⟨b, off + k * 22, none⟩ rfl (eV x) hld ?_; clear hld)
        | (refine wpList_st rfl 79 _ _ rfl wr.heap.size rfl (ecl x) rfl (rowIs_vals _ _ _ _) size79 (ecl_one x) ?_; intro w2 r2 f2; have R2 : Hid (w2.rowIs wr.heap.size 79 22 (ecl x)) := r2; have F2 : Hid (Below wr.heap.size wr w2) := HNB.out.trans (f2.below _ HNB.out.size (fun i hi e => by omega)); clear r2 f2))
      by_cases hk0 : 0 < k
      · have z1 : decide ((0 : Int) < (k : Int)) = true := by simp; omega
        have z2 : decide (0 < k) = true := by simp; omega
        obtain ⟨k1, hk1⟩ : ∃ k1, k = k1 + 1 := ⟨k - 1, by omega⟩
        have y1 : (k : Int) - 1 = (k1 : Int) := by omega
        have y2 : IntKind.i64.wrap (k1 : Int) = (k1 : Int) := by have := HN.out; have := HLT.out; rw [IntKind.wrap_i64]; omega
        have HK1 : Hid (k = k1 + 1 ∧ k1 < n) := ⟨hk1, by have := HLT.out; omega⟩
        have hoky := HOK.out k1 HK1.out.2
        obtain ⟨y, hy⟩ : ∃ y, d[k1]! = y := ⟨_, rfl⟩
        rw [hy] at hoky
        have HY : Hid (d[k1]! = y ∧ okE y) := ⟨hy, hoky⟩
        obtain ⟨o, ho⟩ : ∃ o, o = od y x := ⟨_, rfl⟩
        have HOD : Hid (o = od y x) := ho
        have HQ1 : Hid (∀ V, Below w2.heap.size w2 V → (loadVar 79 ⟨b, off + k1 * 22, none⟩).run Tryz.prog V = .ok (eV y) V) := fun V hV => by
          rw [← hy]
          exact HLD.out V (HB.out.trans ((F2.out.trans (hV.mono F2.out.size)).mono HB.out.size)) k1 HK1.out.2
        have HQ2 : Hid (∀ V, Below w2.heap.size w2 V → (loadVar 79 ⟨wr.heap.size, 0, none⟩).run Tryz.prog V = .ok (eV x) V) := fun V hV => load79 (rowIs_fr (P := fun _ => False) R2.out (Fr.ofBelow hV) (fun h => h))
        have HQ3 : Hid (∀ V, Below w2.heap.size w2 V → Calls Tryz.prog 39 #[eV y, eV x] V fun e w' => e = .returned (.int .i64 o) ∧ Below w2.heap.size w2 w') := fun V hV => by
          rw [ho]
          exact (order_any y.m ⟨y.nm.toArray⟩ y.id x.m ⟨x.nm.toArray⟩ x.id V (by rw [size_sv]; have := hoky.nm; omega) (by rw [size_sv]; have := HX.out.2.nm; omega)).mono (fun e w' ⟨g1, g2⟩ => ⟨g1, hV.trans (g2.mono hV.size)⟩)
        clear hoky hy ho hk1 hk0
        by_cases hlo : o < 0
        · have o1 : decide ((0 : Int) ≤ o) = false := by simp; omega
          have o2 : ¬ (0 : Int) ≤ o := by omega
          have HK1' : Hid (Ri d (k + 1)) := fun i h0 hi => by
            by_cases e : i = k
            · subst e
              have h1 := HK1.out.1
              rw [show i - 1 = k1 by omega, HY.out.1, HX.out.1, ← HOD.out]
              exact hlo
            · exact HK.out i h0 (by omega)
          clear hlo
          refine wp_region_quiet (C := fun V => Below w2.heap.size w2 V) (by kernel_rfl) (by kernel_rfl) (Below.refl _ _).drew ?_
          repeat
            refine wpQuiet_step (fun K hK => ?_)
            first
              | (refine q_ixe (by rfl) _ _ rfl b off n c k1 _ rfl rfl rfl HK1.out.2 (hK _ ?_); clear hK K)
              | (refine q_load (by rfl) 79 _ rfl ⟨b, off + k1 * 22, none⟩ rfl (eV y) (fun V hV => HQ1.out V hV) (hK _ ?_); clear hK K)
              | (refine q_load (by rfl) 79 _ rfl ⟨wr.heap.size, 0, none⟩ rfl (eV x) (fun V hV => HQ2.out V hV) (hK _ ?_); clear hK K)
              | (refine q_call2 (by rfl) 39 c39 _ _ _ rfl (eV y) (eV x) rfl rfl (.int .i64 o) (fun V hV => HQ3.out V hV) (hK _ ?_); clear hK K)
              | (go_simp; refine ⟨_, fun wq hs => rfl, hK _ ?_⟩; clear hK K)
              | (with_reducible go_simp; with_reducible refine hK _ ?_; clear hK K)
          refine wpQuiet_nil ?_
          intro w3 hB3
          have c1 : w3.cell? ⟨wr.heap.size, 1, none⟩ = some (sv x.nm) := (rowIs_fr (P := fun _ => False) R2.out (Fr.ofBelow hB3) (fun h => h)).cell (i := 1) (by omega)
          have HB3 : Hid (Below wr.heap.size wr w3) := F2.out.trans (hB3.mono F2.out.size)
          have HO3 : Hid (Om w3 w.heap.size k ((nms d).take k)) := HO.out.fr (P := fun i => wr.heap.size ≤ i) ⟨HB3.out.os, HB3.out.tape, HB3.out.output, HB3.out.size, fun j hj hn => HB3.out.block j (by omega)⟩ (by have := HS.out; omega)
          have hkm : k < maxLen := by have := HN.out; have := HLT.out; unfold maxLen; omega
          clear hB3
          go_wp2_with (first
            | (refine wpList_mapUpdate_own w3 rfl _ _ _ 161 rfl 9 162 law9 Tryz.underlying161 (unitElem (H := Unit)) w.heap.size k _ rfl HO3.out hkm _ _ _ rfl rfl HKY.out _ [] unitElem_mk ?_; intro w4 hown4 hgrow4; have HO4 : Hid (Om w4 w.heap.size (k + 1) ((nms d).take (k + 1))) := (by show Om _ _ _ _; rw [HNT.out]; unfold Om; rw [Sx_snoc]; exact hown4); have HB4 : Hid (Below w.heap.size w w4) := (HB.out.trans (HB3.out.mono HB.out.size)).grown hgrow4 (Nat.le_trans HB.out.size HB3.out.size) (fun j hj => by cases hj; exact Nat.le_refl _); have HS4 : Hid (w.heap.size < w4.heap.size) := (by show _ < _; have h1 := HS.out; have h2 := HB3.out.size; have h3 := hgrow4.size; omega); clear hown4 hgrow4))
          exact ⟨⟨k + 1, by simp, HLT.out, HK1', HO4, HB4, HS4⟩, by simp [intOf]; have := HLT.out; omega⟩
        · have o1 : decide ((0 : Int) ≤ o) = true := by simp; omega
          have o2 : (0 : Int) ≤ o := by omega
          have HNO : Hid (¬ Ri d n) := fun h => by
            have h1 := HK1.out.1
            have := h k (by omega) HLT.out
            rw [show k - 1 = k1 by omega, HY.out.1, HX.out.1, ← HOD.out] at this
            omega
          clear hlo
          refine wp_region_quiet (C := fun V => Below w2.heap.size w2 V) (by kernel_rfl) (by kernel_rfl) (Below.refl _ _).drew ?_
          repeat
            refine wpQuiet_step (fun K hK => ?_)
            first
              | (refine q_ixe (by rfl) _ _ rfl b off n c k1 _ rfl rfl rfl HK1.out.2 (hK _ ?_); clear hK K)
              | (refine q_load (by rfl) 79 _ rfl ⟨b, off + k1 * 22, none⟩ rfl (eV y) (fun V hV => HQ1.out V hV) (hK _ ?_); clear hK K)
              | (refine q_load (by rfl) 79 _ rfl ⟨wr.heap.size, 0, none⟩ rfl (eV x) (fun V hV => HQ2.out V hV) (hK _ ?_); clear hK K)
              | (refine q_call2 (by rfl) 39 c39 _ _ _ rfl (eV y) (eV x) rfl rfl (.int .i64 o) (fun V hV => HQ3.out V hV) (hK _ ?_); clear hK K)
              | (go_simp; refine ⟨_, fun wq hs => rfl, hK _ ?_⟩; clear hK K)
              | (with_reducible go_simp; with_reducible refine hK _ ?_; clear hK K)
          refine wpQuiet_nil ?_
          intro w3 hB3
          have HB3 : Hid (Below w.heap.size w w3) := HB.out.trans ((F2.out.trans (hB3.mono F2.out.size)).mono HB.out.size)
          clear hB3
          go_wp2_with fail
          go_ret
          have HF : Hid (rr = false) := by
            show rr = false
            rw [Bool.eq_false_iff]
            exact fun h => HNO.out (HRB.out.1 h).1
          exact ⟨by rw [HF.out]; rfl, HB3.out⟩
      · obtain rfl : k = 0 := by omega
        have HK1' : Hid (Ri d (0 + 1)) := fun i h0 hi => by omega
        clear hk0
        · refine wp_region_quiet (C := fun V => Below w2.heap.size w2 V) (by kernel_rfl) (by kernel_rfl) (Below.refl _ _).drew ?_
          repeat
            refine wpQuiet_step (fun K hK => ?_)
            first
              | (go_simp; refine ⟨_, fun wq hs => rfl, hK _ ?_⟩; clear hK K)
              | (with_reducible go_simp; with_reducible refine hK _ ?_; clear hK K)
          refine wpQuiet_nil ?_
          intro w3 hB3
          have c1 : w3.cell? ⟨wr.heap.size, 1, none⟩ = some (sv x.nm) := (rowIs_fr (P := fun _ => False) R2.out (Fr.ofBelow hB3) (fun h => h)).cell (i := 1) (by omega)
          have HB3 : Hid (Below wr.heap.size wr w3) := F2.out.trans (hB3.mono F2.out.size)
          have HO3 : Hid (Om w3 w.heap.size 0 ((nms d).take 0)) := HO.out.fr (P := fun i => wr.heap.size ≤ i) ⟨HB3.out.os, HB3.out.tape, HB3.out.output, HB3.out.size, fun j hj hn => HB3.out.block j (by omega)⟩ (by have := HS.out; omega)
          have hkm : 0 < maxLen := by have := HN.out; have := HLT.out; unfold maxLen; omega
          clear hB3
          go_wp2_with (first
            | (refine wpList_mapUpdate_own w3 rfl _ _ _ 161 rfl 9 162 law9 Tryz.underlying161 (unitElem (H := Unit)) w.heap.size 0 _ rfl HO3.out hkm _ _ _ rfl rfl HKY.out _ [] unitElem_mk ?_; intro w4 hown4 hgrow4; have HO4 : Hid (Om w4 w.heap.size (0 + 1) ((nms d).take (0 + 1))) := (by show Om _ _ _ _; rw [HNT.out]; unfold Om; rw [Sx_snoc]; exact hown4); have HB4 : Hid (Below w.heap.size w w4) := (HB.out.trans (HB3.out.mono HB.out.size)).grown hgrow4 (Nat.le_trans HB.out.size HB3.out.size) (fun j hj => by cases hj; exact Nat.le_refl _); have HS4 : Hid (w.heap.size < w4.heap.size) := (by show _ < _; have h1 := HS.out; have h2 := HB3.out.size; have h3 := hgrow4.size; omega); clear hown4 hgrow4))
          exact ⟨⟨0 + 1, by simp, HLT.out, HK1', HO4, HB4, HS4⟩, by simp [intOf]; have := HLT.out; omega⟩
    · obtain rfl : k = n := by omega
      have hq : ¬ (k : Int) < (k : Int) := by omega
      have d1 : decide ((k : Int) < (k : Int)) = false := by simp
      have ht : (nms d).take k = nms d := List.take_of_length_le (by unfold nms; have := HN.out; simp; omega)
      have hs := Sx_size (nms d)
      have hl : (nms d).length = k := by unfold nms; have := HN.out; simp; omega
      rw [hl] at hs
      have hown := HO.out
      rw [ht] at hown
      have hown' : Om wr w.heap.size k (nms d) := hown
      obtain ⟨q, hqq⟩ : ∃ q, q = Maps.size (Sx (nms d)) := ⟨_, rfl⟩
      rw [← hqq] at hs
      have HQ : Hid (q = k ↔ (nms d).Nodup) := hs
      have HKK : Hid (Ri d k) := HK.out
      clear hs ht hl hown
      go_wp2_with (refine wpList_len_own _ rfl _ 161 rfl 9 162 Tryz.underlying161 (unitElem (H := Unit)) w.heap.size k _ rfl hown' ?_; rw [← hqq]; clear hqq)
      have HF : Hid (rr = ((q : Int) == (k : Int))) := by
        show rr = _
        rw [Bool.eq_iff_iff, HRB.out, ← HQ.out]
        constructor
        · rintro ⟨_, h⟩
          rw [h]
          simp
        · intro h
          exact ⟨HKK.out, by have h2 : (q : Int) = (k : Int) := (by simpa using h); omega⟩
      go_ret
      exact ⟨by rw [HF.out]; rfl, HB.out⟩

end Go.Proofs.YtojgablpjdlegaaGreatDoor
