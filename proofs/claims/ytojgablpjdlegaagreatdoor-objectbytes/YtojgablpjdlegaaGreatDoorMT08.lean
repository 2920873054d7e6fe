/- Rd, Rs, Rt. -/
import Derived.Test.YtojgablpjdlegaaGreatDoorMT07
/- The document's rising. -/
namespace Go.Proofs.YtojgablpjdlegaaGreatDoor
open Go.RowKit Go.Shelf

theorem Dx.es {B : Nat} {w : World} {v : Value} {d : Array En} (h : Dx B w v d) : Es w v d := by
  refine ⟨?_, h.ok⟩
  by_cases h0 : 0 < d.size
  · obtain ⟨b, c, rfl, hc⟩ := h.cells h0
    rcases h.own.2 with ⟨_, e⟩ | ⟨g, cap, cur, e, hb, hh, hle, hmx, hsz, htk⟩
    · omega
    · injection e with e1 e2 e3
      subst e3
      refine ⟨_, _, rfl, hle, (fun e => by cases e), fun ad had i hi j hj => ?_⟩
      cases had
      rw [Addr.add_lit, Nat.zero_add]
      exact hc w (Below.refl _ _) i hi j hj
  · rcases h.own.2 with ⟨rfl, e⟩ | ⟨g, cap, cur, rfl, hb, hh, hle, hmx, hsz, htk⟩
    · exact ⟨none, 0, by rw [e], by omega, fun _ => ⟨by omega, rfl⟩, fun ad had => by cases had⟩
    · exact ⟨_, _, rfl, hle, (fun e => by cases e), fun ad had i hi => absurd hi (by omega)⟩

theorem run_ixf (b o n c i : Nat) (e : Int) (he : e = i) (hi : i < n) (w : World) : (Instr.indexAt 42 (.slice (some ⟨b, o, none⟩) n c) (.int .i64 e)).run Tryz.prog w = .ok (.pointer (some ⟨b, o + i * 22, none⟩)) w := by
  subst he
  have hi2 : (i : Int) < (n : Int) := by omega
  clear hi
  simp [go_sem, hi2]

theorem q_ixf {ops : Array Oper} {op : Oper} {a : Act} {C : World → Prop} {K : Act → Prop} {E : Prop} (hw : Region.wanted op (yielded ops a.tmps) = true) (x y : Operand) (ho : op.op = .indexAddr 42 x y) (b o n c i : Nat) (e : Int) (hx : a.eval x = .slice (some ⟨b, o, none⟩) n c) (hy : a.eval y = .int .i64 e)
    (he : e = i) (hi : i < n) (hk : K (a.put op.dst (.pointer (some ⟨b, o + i * 22, none⟩)))) : if Region.wanted op (yielded ops a.tmps) = true then op.quiet Tryz.prog a C K else E := by
  rw [if_pos hw]
  refine ⟨_, fun w _ => ?_, hk⟩
  have h := run_ixf b o n c i e he hi w
  unfold Oper.quietAt execOp
  simp only [ho, hx, hy]
  simp [h, Oper.quietUpon]

theorem c40 (vs : Array Value) (w : World) : (callFunc 40 vs).run Tryz.prog w = .ok (.enter 40 vs) w := by simp [go_sem]

theorem size66e : (Tryz.prog.info? 66).map (·.size) = some 22 := by kernel_rfl

theorem q_no {ops : Array Oper} {op : Oper} {a : Act} {C : World → Prop} {K : Act → Prop} {E : Prop} (hw : Region.wanted op (yielded ops a.tmps) = false) (hk : E) : if Region.wanted op (yielded ops a.tmps) = true then op.quiet Tryz.prog a C K else E := by
  rw [if_neg (by rw [hw]; simp)]
  exact hk

/-- No two of the first k have one name. -/
def Di (d : Array En) (k : Nat) : Prop := ∀ j, j < k → ∀ i, i < j → d[i]!.nm ≠ d[j]!.nm

theorem di_iff (d : Array En) : Di d d.size ↔ (nms d).Nodup := by
  unfold List.Nodup
  rw [List.pairwise_iff_getElem]
  constructor
  · intro h i j hi hj hij
    have hj2 : j < d.size := by unfold nms at hj; simpa using hj
    have := h j hj2 i hij
    rw [getElem!_pos d i (by omega), getElem!_pos d j hj2] at this
    unfold nms
    simpa using this
  · intro h j hj i hij
    have := h i j (by unfold nms; simp; omega) (by unfold nms; simpa using hj) hij
    rw [getElem!_pos d i (by omega), getElem!_pos d j hj]
    unfold nms at this
    simpa using this

set_option maxRecDepth 100000 in
set_option maxHeartbeats 8000000 in
theorem rising_any (v : Value) (d : Array En) (w : World) (h : Es w v d) (hsz : d.size < 100000) :
    Calls Tryz.prog 58 #[v] w fun e w' => e = .returned (.bool (riB d)) ∧ Below w.heap.size w w' := by
  obtain ⟨ao, c, hv, _⟩ := h.sh
  obtain ⟨n, hn⟩ : ∃ n, n = d.size := ⟨_, rfl⟩
  rw [← hn] at hv
  subst hv
  have HP : Hid (0 < n → ∃ b off, ao = some ⟨b, off, none⟩ ∧ ∀ V : World, Below w.heap.size w V → ∀ i, i < n → ∀ j, j < 22 → V.cell? ⟨b, off + i * 22 + j, none⟩ = some (ecl d[i]! j)) := fun h0 => by
    obtain ⟨b, off, h1, hb, h2⟩ := h.cells (by omega)
    exact ⟨b, off, h1, fun V hV i hi j hj => h2 V (fun k hk => by subst hk; exact hV.block _ hb) i (by omega) j hj⟩
  have HOK : Hid (∀ i, i < n → okE d[i]!) := fun i hi => h.ok i (by omega)
  have HN : Hid (n = d.size ∧ n < 100000) := ⟨hn, by omega⟩
  obtain ⟨rr, hrr⟩ : ∃ rr, rr = riB d := ⟨_, rfl⟩
  have HRB : Hid (rr = true ↔ Ri d n ∧ Di d n) := by
    show _ ↔ _
    rw [hrr, hn, di_iff]
    exact riB_iff d
  rw [← hrr]
  clear h hsz hn hrr
  go_enter Tryz.func58, Tryz.ntmps58
  go_wp2_with fail
  go_loopw [3, 4] (fun s3 s4 wr => ∃ k : Nat, s3 = .int .i64 (k : Int) ∧ k ≤ n ∧ Hid (Ri d k) ∧ Hid (Di d k) ∧ Hid (Below w.heap.size w wr)) (fun s3 _ _ => n - (intOf s3).toNat)
  case atStart => exact ⟨0, rfl, Nat.zero_le _, fun i h0 hi => absurd hi (by omega), fun j hj => absurd hj (by omega), Below.refl _ _⟩
  case round =>
    obtain ⟨k, rfl, hkn, HK, HD, HB⟩ := hrel
    by_cases hlt : k < n
    · have hq : (k : Int) < (n : Int) := by omega
      have d1 : decide ((k : Int) < (n : Int)) = true := by simp; omega
      have hwk : IntKind.i64.wrap ((k : Int) + 1) = (k : Int) + 1 := by have := HN.out; rw [IntKind.wrap_i64]; omega
      obtain ⟨b, off, rfl, hc0⟩ := HP.out (by omega)
      have HLD : Hid (∀ V : World, Below w.heap.size w V → ∀ i, i < n → (loadVar 66 ⟨b, off + i * 22, none⟩).run Tryz.prog V = .ok (eV d[i]!) V ∧ (loadVar 9 ⟨b, off + i * 22 + 1, none⟩).run Tryz.prog V = .ok (sv d[i]!.nm) V) := fun V hV i hi => by
        obtain ⟨g1, g2, _, g4, g5⟩ := at_entry (hc0 V hV i hi) (HOK.out i hi).id
        exact ⟨run_loadVar_mid V b (off + i * 22) 66 _ _ g4 Tryz.underlying66 rfl (by rw [vals_len]; exact size66e), ld9 _ _ _ g2⟩
      have hok := HOK.out k hlt
      obtain ⟨x, hx⟩ : ∃ x, d[k]! = x := ⟨_, rfl⟩
      rw [hx] at hok
      have HX : Hid (d[k]! = x ∧ okE x) := ⟨hx, hok⟩
      have HLT : Hid (k < n) := hlt
      clear hc0 hx hok hlt hkn
      go_wp2_with fail
      by_cases hk0 : 0 < k
      · have z1 : decide ((0 : Int) < (k : Int)) = true := by simp; omega
        have z2 : decide (0 < k) = true := by simp; omega
        obtain ⟨k1, hk1⟩ : ∃ k1, k = k1 + 1 := ⟨k - 1, by omega⟩
        have y1 : (k : Int) - 1 = (k1 : Int) := by omega
        have y2 : IntKind.i64.wrap (k1 : Int) = (k1 : Int) := by have := HN.out; have := HLT.out; rw [IntKind.wrap_i64]; omega
        have HK1 : Hid (k = k1 + 1 ∧ k1 < n) := ⟨hk1, by have := HLT.out; omega⟩
        have hoky := HOK.out k1 HK1.out.2
        obtain ⟨y, hy⟩ : ∃ y, d[k1]! = y := ⟨_, rfl⟩
        rw [hy] at hoky
        have HY : Hid (d[k1]! = y ∧ okE y) := ⟨hy, hoky⟩
        obtain ⟨o, ho⟩ : ∃ o, o = od y x := ⟨_, rfl⟩
        have HOD : Hid (o = od y x) := ho
        have HQ1 : Hid (∀ V, Below wr.heap.size wr V → (loadVar 66 ⟨b, off + k1 * 22, none⟩).run Tryz.prog V = .ok (eV y) V) := fun V hV => by
          rw [← hy]
          exact (HLD.out V (HB.out.trans (hV.mono HB.out.size)) k1 HK1.out.2).1
        have HQ2 : Hid (∀ V, Below wr.heap.size wr V → (loadVar 66 ⟨b, off + k * 22, none⟩).run Tryz.prog V = .ok (eV x) V) := fun V hV => by
          rw [← HX.out.1]
          exact (HLD.out V (HB.out.trans (hV.mono HB.out.size)) k HLT.out).1
        have HQ3 : Hid (∀ V, Below wr.heap.size wr V → Calls Tryz.prog 40 #[eV y, eV x] V fun e w' => e = .returned (.int .i64 o) ∧ Below wr.heap.size wr w') := fun V hV => by
          rw [ho]
          exact (rorder_any y.m ⟨y.nm.toArray⟩ y.id x.m ⟨x.nm.toArray⟩ x.id V (by rw [size_sv]; have := hoky.nm; omega) (by rw [size_sv]; have := HX.out.2.nm; omega)).mono (fun e w' ⟨g1, g2⟩ => ⟨g1, hV.trans (g2.mono hV.size)⟩)
        clear hoky hy ho hk1 hk0
        by_cases hlo : o < 0
        · have o1 : decide ((0 : Int) ≤ o) = false := by simp; omega
          have o2 : ¬ (0 : Int) ≤ o := by omega
          have HK1' : Hid (Ri d (k + 1)) := fun i h0 hi => by
            by_cases e : i = k
            · subst e
              have h1 := HK1.out.1
              rw [show i - 1 = k1 by omega, HY.out.1, HX.out.1, ← HOD.out]
              exact hlo
            · exact HK.out i h0 (by omega)
          clear hlo
          refine wp_region_quiet (C := fun V => Below wr.heap.size wr V) (by kernel_rfl) (by kernel_rfl) (Below.refl _ _).drew ?_
          repeat
            with_reducible refine wpQuiet_step (fun K hK => ?_)
            first
              | (refine q_ixf (by rfl) _ _ rfl b off n c k1 _ rfl rfl rfl HK1.out.2 (hK _ ?_); clear hK K)
              | (refine q_ixf (by rfl) _ _ rfl b off n c k _ rfl rfl rfl HLT.out (hK _ ?_); clear hK K)
              | (refine q_load (by rfl) 66 _ rfl ⟨b, off + k1 * 22, none⟩ rfl (eV y) (fun V hV => HQ1.out V hV) (hK _ ?_); clear hK K)
              | (refine q_load (by rfl) 66 _ rfl ⟨b, off + k * 22, none⟩ rfl (eV x) (fun V hV => HQ2.out V hV) (hK _ ?_); clear hK K)
              | (refine q_call2 (by rfl) 40 c40 _ _ _ rfl (eV y) (eV x) rfl rfl (.int .i64 o) (fun V hV => HQ3.out V hV) (hK _ ?_); clear hK K)
              | (go_simp; refine ⟨_, fun wq hs => rfl, ?_⟩; with_reducible refine hK _ ?_; clear hK K)
              | (with_reducible go_simp; with_reducible refine hK _ ?_; clear hK K)
          refine wpQuiet_nil ?_
          intro w3 hB3
          have HB3 : Hid (Below w.heap.size w w3) := HB.out.trans (hB3.mono HB.out.size)
          clear hB3
          go_wp2_with fail
          clear HK1 HY HOD HQ1 HQ2 HQ3 z1 z2 y1 y2 o1 o2
          go_loopw [4] (fun s4 wr => ∃ j : Nat, s4 = .int .i64 (j : Int) ∧ j ≤ k ∧ Hid (∀ i, i < j → d[i]!.nm ≠ d[k]!.nm) ∧ Hid (Below w.heap.size w wr)) (fun s4 _ => k - (intOf s4).toNat)
          case atStart => exact ⟨0, rfl, Nat.zero_le _, fun i hi => absurd hi (by omega), HB3⟩
          case round =>
            obtain ⟨j, rfl, hjk, HJ, HBs⟩ := hrel
            by_cases hjl : j < k
            · have hq2 : (j : Int) < (k : Int) := by omega
              have d2 : decide ((j : Int) < (k : Int)) = true := by simp; omega
              have hwj : IntKind.i64.wrap ((j : Int) + 1) = (j : Int) + 1 := by have := HN.out; have := HLT.out; rw [IntKind.wrap_i64]; omega
              have HJN : Hid (j < n ∧ j < k) := ⟨by have := HLT.out; omega, hjl⟩
              obtain ⟨A, hA⟩ : ∃ A : ByteArray, A = ⟨d[j]!.nm.toArray⟩ := ⟨_, rfl⟩
              obtain ⟨C, hC⟩ : ∃ C : ByteArray, C = ⟨x.nm.toArray⟩ := ⟨_, rfl⟩
              have HR1 : Hid (∀ V, Below wr.heap.size wr V → (loadVar 9 ⟨b, off + j * 22 + 1, none⟩).run Tryz.prog V = .ok (.string A) V) := fun V hV => by
                rw [hA]
                exact (HLD.out V (HBs.out.trans (hV.mono HBs.out.size)) j HJN.out.1).2
              have HR2 : Hid (∀ V, Below wr.heap.size wr V → (loadVar 9 ⟨b, off + k * 22 + 1, none⟩).run Tryz.prog V = .ok (.string C) V) := fun V hV => by
                rw [hC, ← HX.out.1]
                exact (HLD.out V (HBs.out.trans (hV.mono HBs.out.size)) k HLT.out).2
              have hlA : A.toList = d[j]!.nm := by rw [hA, ByteArray.toList_eq]
              have hlC : C.toList = d[k]!.nm := by rw [hC, ByteArray.toList_eq, HX.out.1]
              clear hA hC hjk
              by_cases hnm : d[j]!.nm = d[k]!.nm
              · have l2 : (A.toList == C.toList) = true := by rw [hlA, hlC, hnm]; simp
                have HNO : Hid (rr = false) := by
                  show rr = false
                  rw [Bool.eq_false_iff]
                  exact fun h => (HRB.out.1 h).2 k HLT.out j hjl hnm
                clear hlA hlC hnm hjl
                go_wp2_with fail
                refine wp_region_quiet (C := fun V => Below wr.heap.size wr V) (by kernel_rfl) (by kernel_rfl) (Below.refl _ _).drew ?_
                repeat
                  with_reducible refine wpQuiet_step (fun K hK => ?_)
                  first
                    | (refine q_ixf (by rfl) _ _ rfl b off n c j _ rfl rfl rfl HJN.out.1 (hK _ ?_); clear hK K)
                    | (refine q_ixf (by rfl) _ _ rfl b off n c k _ rfl rfl rfl HLT.out (hK _ ?_); clear hK K)
                    | (refine q_load (by rfl) 9 _ rfl ⟨b, off + j * 22 + 1, none⟩ rfl (.string A) (fun V hV => HR1.out V hV) (hK _ ?_); clear hK K)
                    | (refine q_load (by rfl) 9 _ rfl ⟨b, off + k * 22 + 1, none⟩ rfl (.string C) (fun V hV => HR2.out V hV) (hK _ ?_); clear hK K)
                    | (go_simp; refine ⟨_, fun wq hs => rfl, ?_⟩; with_reducible refine hK _ ?_; clear hK K)
                    | (with_reducible go_simp; with_reducible refine hK _ ?_; clear hK K)
                refine wpQuiet_nil ?_
                intro w4 hB4
                have HB4 : Hid (Below w.heap.size w w4) := HBs.out.trans (hB4.mono HBs.out.size)
                clear hB4
                go_wp2_with fail
                go_ret
                exact ⟨by rw [HNO.out]; rfl, HB4.out⟩
              · have l2 : (A.toList == C.toList) = false := by rw [hlA, hlC, beq_eq_false_iff_ne]; exact hnm
                have HJ2 : Hid (∀ i, i < j + 1 → d[i]!.nm ≠ d[k]!.nm) := fun i hi => by
                  by_cases e : i = j
                  · subst e; exact hnm
                  · exact HJ.out i (by omega)
                clear hlA hlC hnm hjl
                go_wp2_with fail
                refine wp_region_quiet (C := fun V => Below wr.heap.size wr V) (by kernel_rfl) (by kernel_rfl) (Below.refl _ _).drew ?_
                repeat
                  with_reducible refine wpQuiet_step (fun K hK => ?_)
                  first
                    | (refine q_ixf (by rfl) _ _ rfl b off n c j _ rfl rfl rfl HJN.out.1 (hK _ ?_); clear hK K)
                    | (refine q_ixf (by rfl) _ _ rfl b off n c k _ rfl rfl rfl HLT.out (hK _ ?_); clear hK K)
                    | (refine q_load (by rfl) 9 _ rfl ⟨b, off + j * 22 + 1, none⟩ rfl (.string A) (fun V hV => HR1.out V hV) (hK _ ?_); clear hK K)
                    | (refine q_load (by rfl) 9 _ rfl ⟨b, off + k * 22 + 1, none⟩ rfl (.string C) (fun V hV => HR2.out V hV) (hK _ ?_); clear hK K)
                    | (go_simp; refine ⟨_, fun wq hs => rfl, ?_⟩; with_reducible refine hK _ ?_; clear hK K)
                    | (with_reducible go_simp; with_reducible refine hK _ ?_; clear hK K)
                refine wpQuiet_nil ?_
                intro w4 hB4
                have HB4 : Hid (Below w.heap.size w w4) := HBs.out.trans (hB4.mono HBs.out.size)
                clear hB4
                go_wp2_with fail
                exact ⟨⟨j + 1, by simp, HJN.out.2, HJ2, HB4⟩, by simp [intOf]; have := HJN.out; omega⟩
            · obtain rfl : j = k := by omega
              have hq2 : ¬ (j : Int) < (j : Int) := by omega
              have d2 : decide ((j : Int) < (j : Int)) = false := by simp
              have HD' : Hid (Di d (j + 1)) := fun q hq i hi => by
                by_cases e : q = j
                · subst e; exact HJ.out i hi
                · exact HD.out q (by omega) i hi
              clear hjl hjk
              go_wp2_with fail
              exact ⟨⟨j + 1, by simp, HLT.out, HK1', HD', HBs⟩, by simp [intOf]; have := HLT.out; omega⟩
        · have o1 : decide ((0 : Int) ≤ o) = true := by simp; omega
          have o2 : (0 : Int) ≤ o := by omega
          have HNO : Hid (rr = false) := by
            show rr = false
            rw [Bool.eq_false_iff]
            intro h
            have h1 := HK1.out.1
            have := (HRB.out.1 h).1 k (by omega) HLT.out
            rw [show k - 1 = k1 by omega, HY.out.1, HX.out.1, ← HOD.out] at this
            omega
          clear hlo
          refine wp_region_quiet (C := fun V => Below wr.heap.size wr V) (by kernel_rfl) (by kernel_rfl) (Below.refl _ _).drew ?_
          repeat
            with_reducible refine wpQuiet_step (fun K hK => ?_)
            first
              | (refine q_ixf (by rfl) _ _ rfl b off n c k1 _ rfl rfl rfl HK1.out.2 (hK _ ?_); clear hK K)
              | (refine q_ixf (by rfl) _ _ rfl b off n c k _ rfl rfl rfl HLT.out (hK _ ?_); clear hK K)
              | (refine q_load (by rfl) 66 _ rfl ⟨b, off + k1 * 22, none⟩ rfl (eV y) (fun V hV => HQ1.out V hV) (hK _ ?_); clear hK K)
              | (refine q_load (by rfl) 66 _ rfl ⟨b, off + k * 22, none⟩ rfl (eV x) (fun V hV => HQ2.out V hV) (hK _ ?_); clear hK K)
              | (refine q_call2 (by rfl) 40 c40 _ _ _ rfl (eV y) (eV x) rfl rfl (.int .i64 o) (fun V hV => HQ3.out V hV) (hK _ ?_); clear hK K)
              | (go_simp; refine ⟨_, fun wq hs => rfl, ?_⟩; with_reducible refine hK _ ?_; clear hK K)
              | (with_reducible go_simp; with_reducible refine hK _ ?_; clear hK K)
          refine wpQuiet_nil ?_
          intro w3 hB3
          have HB3 : Hid (Below w.heap.size w w3) := HB.out.trans (hB3.mono HB.out.size)
          clear hB3
          go_wp2_with fail
          go_ret
          exact ⟨by rw [HNO.out]; rfl, HB3.out⟩
      · have HK0 : Hid (k = 0) := by show k = 0; omega
        have e0 : (k : Int) = 0 := by omega
        have HK1' : Hid (Ri d 1) := fun i h0 hi => by omega
        have HD' : Hid (Di d 1) := fun j hj i hi => by omega
        have HLT1 : Hid (1 ≤ n) := by show 1 ≤ n; have := HLT.out; omega
        rw [e0]
        clear hk0 hq d1 hwk e0
        refine wp_region_quiet (C := fun V => Below wr.heap.size wr V) (by kernel_rfl) (by kernel_rfl) (Below.refl _ _).drew ?_
        with_reducible refine wpQuiet_step (fun K hK => ?_)
        go_simp
        refine ⟨.int .i64 0, fun wq hs => rfl, ?_⟩
        with_reducible refine hK _ ?_
        clear hK K
        with_reducible refine wpQuiet_step (fun K hK => ?_)
        go_simp
        refine ⟨.bool false, fun wq hs => rfl, ?_⟩
        with_reducible refine hK _ ?_
        clear hK K
        with_reducible refine wpQuiet_step (fun K hK => ?_)
        go_simp
        refine ⟨.bool false, fun wq hs => rfl, ?_⟩
        with_reducible refine hK _ ?_
        clear hK K
        iterate 11
          with_reducible refine wpQuiet_step (fun K hK => ?_)
          with_reducible refine q_no ?_ ?_
          · kernel_rfl
          with_reducible refine hK _ ?_
          clear hK K
        with_reducible refine wpQuiet_step (fun K hK => ?_)
        go_simp
        refine ⟨.bool false, fun wq hs => rfl, ?_⟩
        with_reducible refine hK _ ?_
        clear hK K
        refine wpQuiet_nil ?_
        intro w3 hB3
        have HB3 : Hid (Below w.heap.size w w3) := HB.out.trans (hB3.mono HB.out.size)
        clear hB3
        go_wp2_with fail
        go_loopw [4] (fun s4 wr => s4 = .int .i64 0 ∧ Hid (Below w.heap.size w wr)) (fun s4 _ => 1)
        case atStart => exact ⟨rfl, HB3⟩
        case round =>
          obtain ⟨rfl, HBs⟩ := hrel
          go_wp2_with fail
          exact ⟨⟨1, rfl, HLT1.out, HK1', HD', HBs⟩, by simp [intOf]; have := HLT1.out; have := HK0.out; omega⟩
    · obtain rfl : k = n := by omega
      have hq : ¬ (k : Int) < (k : Int) := by omega
      have d1 : decide ((k : Int) < (k : Int)) = false := by simp
      have HF : Hid (rr = true) := HRB.out.2 ⟨HK.out, HD.out⟩
      go_wp2_with fail
      go_ret
      exact ⟨by rw [HF.out]; rfl, HB.out⟩

end Go.Proofs.YtojgablpjdlegaaGreatDoor

/- The document's said: entries' bytes. -/
namespace Go.Proofs.YtojgablpjdlegaaGreatDoor
open Go.RowKit Go.Shelf

theorem c67 (vs : Array Value) (w : World) : (callFunc 67 vs).run Tryz.prog w = .ok (.enter 67 vs) w := by simp [go_sem]

theorem run_sl26 (b o : Nat) (w : World) : (Instr.sliceAt 26 (.pointer (some ⟨b, o, none⟩)) none none none).run Tryz.prog w = .ok (.slice (some ⟨b, o, none⟩) 20 20) w := by
  have hz : ∀ w, (sizeOf 5).run Tryz.prog w = .ok 1 w := fun w => by simp [go_sem]
  unfold Instr.sliceAt Instr.slice Instr.sliceBounds
  simp [go_sem, hz]

theorem run_bs22 (w : World) : (Instr.buildSlice 22 1 #[(0, .int .u8 0)]).run Tryz.prog w = .ok (.slice (some ⟨w.heap.size, 0, none⟩) 1 1) (w.alloc (.cells (vals (fun _ => Value.int .u8 0) 1).toArray 5)) := by kernel_rfl

theorem wpList_bs22 {ops : Array Oper} {rest : List Oper} {op : Oper} {a : Act} {w : World} {Q : Exit → Act → World → Prop} (hgd : op.guard = none) (y : Operand) (ho : op.op = .buildSlice 22 1 #[(0, y)]) (hy : a.eval y = .int .u8 0)
    (hk : ∀ w', Below w.heap.size w w' → Rd w' (some ⟨w.heap.size, 0, none⟩) 1 1 [0] → wpList Tryz.prog ops Q rest (a.put op.dst (.slice (some ⟨w.heap.size, 0, none⟩) 1 1)) w') : wpList Tryz.prog ops Q (op :: rest) a w := by
  refine wpList_plain hgd fun K hK => ?_
  have h := run_bs22 w
  unfold Oper.wp
  simp only [execOp, ho, List.map_toArray, List.map_cons, List.map_nil, hy, Sem.run_bind, h, Result.andThen_ok, Sem.run_pure]
  refine hK _ _ (hk _ (new_below _ _) ⟨rfl, Nat.le_refl _, (fun e => by cases e), fun ad had j hj => ?_, fun x hx => ?_⟩)
  · cases had
    obtain rfl : j = 0 := by simpa using hj
    have := (rowIs_vals w (fun _ => Value.int .u8 0) 1 5).cell (i := 0) (by omega)
    rw [Addr.add_lit, Nat.zero_add]
    exact this
  · obtain rfl : x = 0 := by simpa using hx
    omega

set_option maxRecDepth 100000 in
set_option maxHeartbeats 8000000 in
theorem said_any (v : Value) (d : Array En) (w : World) (h : Es w v d) (hl : d.size ≤ 512) (hb : d.toList.all eB = true) :
    Calls Tryz.prog 69 #[v] w fun e w' => ∃ ao n c, e = .returned (.slice ao n c) ∧ Rd w' ao n c (sdL d.toList) ∧ Below w.heap.size w w' := by
  obtain ⟨ao, c, hv, _⟩ := h.sh
  obtain ⟨n, hn⟩ : ∃ n, n = d.size := ⟨_, rfl⟩
  rw [← hn] at hv
  subst hv
  have HP : Hid (0 < n → ∃ b off, ao = some ⟨b, off, none⟩ ∧ ∀ V : World, Below w.heap.size w V → ∀ i, i < n → ∀ j, j < 22 → V.cell? ⟨b, off + i * 22 + j, none⟩ = some (ecl d[i]! j)) := fun h0 => by
    obtain ⟨b, off, h1, hb, h2⟩ := h.cells (by omega)
    exact ⟨b, off, h1, fun V hV i hi j hj => h2 V (fun k hk => by subst hk; exact hV.block _ hb) i (by omega) j hj⟩
  have HOK : Hid (∀ i, i < n → okE d[i]! ∧ eB d[i]! = true) := fun i hi => ⟨h.ok i (by omega), by
    rw [getElem!_pos d i (by omega)]
    exact List.all_eq_true.1 hb _ (by simp)⟩
  have HN : Hid (n = d.size ∧ n ≤ 512) := ⟨hn, by omega⟩
  have HALL : Hid (∀ k, ∀ e ∈ d.toList.take k, eB e = true ∧ IsId e.id) := fun k e he => by
    have he2 := List.mem_of_mem_take he
    refine ⟨List.all_eq_true.1 hb e he2, ?_⟩
    obtain ⟨i, hi, rfl⟩ := List.mem_iff_getElem.1 he2
    have hi2 : i < d.size := by simpa using hi
    have := (h.ok i hi2).id
    rw [getElem!_pos d i hi2] at this
    exact this
  clear h hl hn hb
  go_enter Tryz.func69, Tryz.ntmps69
  go_wp2_with fail
  go_loopw [3, 4] (fun s3 s4 wr => ∃ k L : Nat, s4 = .int .i64 (k : Int) ∧ k ≤ n ∧ Hid (L = (sdL (d.toList.take k)).length) ∧ Hid (wr.ownsRow w.heap.size 5 1 s3 L ((sdL (d.toList.take k)).map (Value.int .u8))) ∧ Hid (Below w.heap.size w wr)) (fun _ s4 _ => n - (intOf s4).toNat)
  case atStart => exact ⟨0, 0, rfl, Nat.zero_le _, rfl, World.ownsRow_nil _ _ _ _, Below.refl _ _⟩
  case round =>
    obtain ⟨k, L, rfl, hkn, HLN, HO, HB⟩ := hrel
    by_cases hlt : k < n
    · have hq : (k : Int) < (n : Int) := by omega
      have d1 : decide ((k : Int) < (n : Int)) = true := by simp; omega
      have hwk : IntKind.i64.wrap ((k : Int) + 1) = (k : Int) + 1 := by have := HN.out; rw [IntKind.wrap_i64]; omega
      obtain ⟨b, off, rfl, hc0⟩ := HP.out (by omega)
      have hok := HOK.out k hlt
      obtain ⟨x, hx⟩ : ∃ x, d[k]! = x := ⟨_, rfl⟩
      rw [hx] at hok
      have HX : Hid (d[k]! = x ∧ okE x ∧ eB x = true) := ⟨hx, hok⟩
      have HLT : Hid (k < n) := hlt
      have HAT : Hid (∀ V : World, Below w.heap.size w V → V.cell? ⟨b, off + k * 22, none⟩ = some (.int .i64 x.m) ∧ V.cell? ⟨b, off + k * 22 + 1, none⟩ = some (sv x.nm) ∧ Rd V (some ⟨b, off + k * 22 + 2, none⟩) 20 20 x.id) := fun V hV => by
        have h2 := hc0 V hV k hlt
        rw [hx] at h2
        obtain ⟨g1, g2, g3, _, _⟩ := at_entry h2 hok.1.id
        exact ⟨g1, g2, g3⟩
      have HMD : Hid (mdt x.m = oct x.m) := by
        show mdt x.m = oct x.m
        have h := hok.2
        unfold eB at h
        rw [Bool.and_eq_true] at h
        exact if_pos h.1
      have HLL : Hid (L ≤ 146 * 512) := by
        show L ≤ _
        rw [HLN.out]
        have h1 := sdL_len (d.toList.take k) (HALL.out k)
        have h2 : (d.toList.take k).length ≤ 512 := by rw [List.length_take]; have := HN.out; omega
        omega
      have HTK : Hid (sdL (d.toList.take (k + 1)) = sdL (d.toList.take k) ++ sd1 x) := by
        show _ = _
        have hk2 : k < d.toList.length := by have := HN.out; simp; omega
        have hk3 : k < d.size := by have := HN.out; omega
        rw [List.take_succ_eq_append_getElem hk2, sdL_snoc]
        rw [getElem!_pos d k hk3] at hx
        rw [show d.toList[k] = x by rw [← hx]; simp]
      have HIX : Hid (∀ V : World, (Instr.indexAt 42 (.slice (some ⟨b, off, none⟩) n c) (.int .i64 (k : Int))).run Tryz.prog V = .ok (.pointer (some ⟨b, off + k * 22, none⟩)) V) := fun V => run_ixf b off n c k _ rfl hlt V
      clear hc0 hok hx hlt hkn
      go_wp2_with fail
      refine wp_region_noPanic ?_
      refine wp_region_held_drew (S := fun V => Below w.heap.size w V) (by kernel_rfl) HB.out.drew (fun hHeld => ?_)
      refine wpAnyH_take (i := 0) (oi := ⟨some 11, _, _, _, _, _⟩) (v := ?_) rfl (by kernel_rfl) (by kernel_rfl) (by kernel_rfl) (fun _ _ _ h => h) (Or.inl ⟨by rfl, ?_⟩) hHeld ?_
      rotate_left
      · (intro w' hSw; go_simp; try with_reducible rfl)
      try simp only [Act.put, List.setIfInBounds_toArray, List.set_cons_zero, List.set_cons_succ]
      refine wpAnyH_take (i := 1) (oi := ⟨some 12, _, _, _, _, _⟩) (v := ?_) rfl (by kernel_rfl) (by kernel_rfl) (by kernel_rfl) (fun _ _ _ h => h) (Or.inl ⟨by rfl, ?_⟩) hHeld ?_
      rotate_left
      · (intro w' hSw; go_simp; try with_reducible rfl)
      try simp only [Act.put, List.setIfInBounds_toArray, List.set_cons_zero, List.set_cons_succ]
      refine wpAnyH_take (i := 2) (oi := ⟨some 13, _, _, _, _, _⟩) (v := ?_) rfl (by kernel_rfl) (by kernel_rfl) (by kernel_rfl) (fun _ _ _ h => h) (Or.inl ⟨by rfl, ?_⟩) hHeld ?_
      rotate_left
      · (intro w' hSw; go_simp; try with_reducible rfl)
      try simp only [Act.put, List.setIfInBounds_toArray, List.set_cons_zero, List.set_cons_succ]
      refine wpAnyH_take (i := 3) (oi := ⟨some 14, _, _, _, _, _⟩) (v := .pointer (some ⟨b, off + k * 22, none⟩)) rfl (by kernel_rfl) (by kernel_rfl) (by kernel_rfl) (fun _ _ _ h => h) (Or.inl ⟨by rfl, ?_⟩) hHeld ?_
      · (intro w' hSw; have qq := HIX.out w'; go_simp; try with_reducible rfl)
      try simp only [Act.put, List.setIfInBounds_toArray, List.set_cons_zero, List.set_cons_succ]
      refine wpAnyH_take (i := 4) (oi := ⟨some 15, _, _, _, _, _⟩) (v := .pointer (some ⟨b, off + k * 22, none⟩)) rfl (by kernel_rfl) (by kernel_rfl) (by kernel_rfl) (fun _ _ _ h => h) (Or.inl ⟨by rfl, ?_⟩) hHeld ?_
      · (intro w' hSw; go_simp; try with_reducible rfl)
      try simp only [Act.put, List.setIfInBounds_toArray, List.set_cons_zero, List.set_cons_succ]
      refine wpAnyH_take (i := 5) (oi := ⟨some 16, _, _, _, _, _⟩) (v := .int .i64 x.m) rfl (by kernel_rfl) (by kernel_rfl) (by kernel_rfl) (fun _ _ _ h => h) (Or.inl ⟨by rfl, ?_⟩) hHeld ?_
      · (intro w' hSw; have qq := (HAT.out w' hSw).1; go_simp; try with_reducible rfl)
      try simp only [Act.put, List.setIfInBounds_toArray, List.set_cons_zero, List.set_cons_succ]
      refine wpAnyH_take (i := 8) (oi := ⟨some 19, _, _, _, _, _⟩) (v := ?_) rfl (by kernel_rfl) (by kernel_rfl) (by kernel_rfl) (fun _ _ _ h => h) (Or.inl ⟨by rfl, ?_⟩) hHeld ?_
      rotate_left
      · (intro w' hSw; go_simp; try with_reducible rfl)
      try simp only [Act.put, List.setIfInBounds_toArray, List.set_cons_zero, List.set_cons_succ]
      refine wpAnyH_take (i := 9) (oi := ⟨some 20, _, _, _, _, _⟩) (v := ?_) rfl (by kernel_rfl) (by kernel_rfl) (by kernel_rfl) (fun _ _ _ h => h) (Or.inl ⟨by rfl, ?_⟩) hHeld ?_
      rotate_left
      · (intro w' hSw; go_simp; try with_reducible rfl)
      try simp only [Act.put, List.setIfInBounds_toArray, List.set_cons_zero, List.set_cons_succ]
      refine wpAnyH_take (i := 10) (oi := ⟨some 21, _, _, _, _, _⟩) (v := .pointer (some ⟨b, off + k * 22, none⟩)) rfl (by kernel_rfl) (by kernel_rfl) (by kernel_rfl) (fun _ _ _ h => h) (Or.inl ⟨by rfl, ?_⟩) hHeld ?_
      · (intro w' hSw; have qq := HIX.out w'; go_simp; try with_reducible rfl)
      try simp only [Act.put, List.setIfInBounds_toArray, List.set_cons_zero, List.set_cons_succ]
      refine wpAnyH_take (i := 11) (oi := ⟨some 22, _, _, _, _, _⟩) (v := .pointer (some ⟨b, off + k * 22 + 1, none⟩)) rfl (by kernel_rfl) (by kernel_rfl) (by kernel_rfl) (fun _ _ _ h => h) (Or.inl ⟨by rfl, ?_⟩) hHeld ?_
      · (intro w' hSw; go_simp; try with_reducible rfl)
      try simp only [Act.put, List.setIfInBounds_toArray, List.set_cons_zero, List.set_cons_succ]
      refine wpAnyH_take (i := 12) (oi := ⟨some 23, _, _, _, _, _⟩) (v := sv x.nm) rfl (by kernel_rfl) (by kernel_rfl) (by kernel_rfl) (fun _ _ _ h => h) (Or.inl ⟨by rfl, ?_⟩) hHeld ?_
      · (intro w' hSw; have qq := (HAT.out w' hSw).2.1; go_simp; try with_reducible rfl)
      try simp only [Act.put, List.setIfInBounds_toArray, List.set_cons_zero, List.set_cons_succ]
      refine wpAnyH_ready (rs := [6]) (by kernel_rfl) (by simp) ?_
      refine AllReadyH.cons (o := ⟨some 17, _, _, _, _, _⟩) rfl (fun K hK => ?_) AllReadyH.nil
      refine step_cl1 (C := fun v w' => v = sv (oct x.m) ∧ w' = wr.drew) (by rfl) 67 c67 _ _ rfl (.int .i64 x.m) rfl ((rmode_any x.m wr.drew).mono (fun e w' ⟨g1, g2⟩ => ⟨_, g1, by rw [HMD.out], g2⟩)) ?_
      rintro v' w4 ⟨rfl, b4⟩
      have HB4 : Hid (Below w.heap.size w w4) := by show Below _ _ _; rw [b4]; exact HB.out.drew
      have HO4 : Hid (w4.ownsRow w.heap.size 5 1 u3 L ((sdL (d.toList.take k)).map (Value.int .u8))) := by
        show World.ownsRow _ _ _ _ _ _ _
        rw [b4]
        exact own_keep HO.out (Below.refl _ _).drew
      refine hK.out _ _ HB4.out (fun hHeld => ?_)
      clear hK K b4
      try simp only [Act.put, List.setIfInBounds_toArray, List.set_cons_zero, List.set_cons_succ]
      have hon : (oct x.m).length ≤ 24 := oct_len x.m
      have hnn : x.nm.length ≤ 100000 := HX.out.2.1.nm
      refine wpAnyH_take (i := 7) (oi := ⟨some 18, _, _, _, _, _⟩) (v := sv (oct x.m ++ [32])) rfl (by kernel_rfl) (by kernel_rfl) (by kernel_rfl) (fun _ _ _ h => h) (y_add (by rfl) _ _ _ rfl _ _ rfl rfl (by simp; omega)) hHeld ?_
      try simp only [Act.put, List.setIfInBounds_toArray, List.set_cons_zero, List.set_cons_succ]
      refine wpAnyH_take (i := 13) (oi := ⟨some 24, _, _, _, _, _⟩) (v := sv (oct x.m ++ [32] ++ x.nm)) rfl (by kernel_rfl) (by kernel_rfl) (by kernel_rfl) (fun _ _ _ h => h) (y_add (by rfl) _ _ _ rfl _ _ rfl rfl (by simp; omega)) hHeld ?_
      try simp only [Act.put, List.setIfInBounds_toArray, List.set_cons_zero, List.set_cons_succ]
      obtain ⟨tx, htx⟩ : ∃ tx, tx = oct x.m ++ [32] ++ x.nm := ⟨_, rfl⟩
      have HTX : Hid (tx ++ [0] = hd x ∧ 0 < tx.length ∧ tx.length ≤ 126) := by
        have h := hd_len HX.out.2.2
        have e : tx ++ [0] = hd x := by rw [htx]; rfl
        rw [← e] at h
        refine ⟨e, by rw [htx]; simp; omega, by simp at h; omega⟩
      rw [← htx]
      refine wpAnyH_ready (rs := [14]) (by kernel_rfl) (by simp) ?_
      refine AllReadyH.cons (o := ⟨some 25, _, _, _, _, _⟩) rfl (fun K hK => ?_) AllReadyH.nil
      refine step_appS (by rfl) _ _ rfl w.heap.size L u3 (sdL (d.toList.take k)) tx rfl rfl HO4.out (by have := HLL.out; have := HTX.out; omega) HB4.out.size ?_
      intro v5 w5 o5 g5
      have HO5 : Hid (w5.ownsRow w.heap.size 5 1 v5 (L + tx.length) ((sdL (d.toList.take k) ++ tn tx).map (Value.int .u8))) := o5
      have HB5 : Hid (Below w.heap.size w w5) := HB4.out.grown g5 HB4.out.size (fun j hj => (HO4.out.lt j hj).1)
      refine hK.out _ _ HB5.out (fun hHeld => ?_)
      clear hK K o5 g5 hon hnn htx
      try simp only [Act.put, List.setIfInBounds_toArray, List.set_cons_zero, List.set_cons_succ]
      refine wpAnyH_take (i := 15) (oi := ⟨some 3, _, _, _, _, _⟩) (v := ?_) rfl (by kernel_rfl) (by kernel_rfl) (by kernel_rfl) (fun _ _ _ h => h) (Or.inl ⟨by rfl, ?_⟩) hHeld ?_
      rotate_left
      · (intro w' hSw; go_simp; try with_reducible rfl)
      try simp only [Act.put, List.setIfInBounds_toArray, List.set_cons_zero, List.set_cons_succ]
      refine wpAnyH_done (by kernel_rfl) ?_ _
      refine NoPanic.normal ?_
      clear hHeld
      obtain ⟨g, cap, hve⟩ := own_some HO5.out (by have := HTX.out; omega)
      obtain ⟨L2, hL2⟩ : ∃ L2, L2 = L + tx.length := ⟨_, rfl⟩
      have HL2 : Hid (L2 = L + tx.length) := hL2
      rw [← hL2] at hve
      have HO6 : Hid (w5.ownsRow w.heap.size 5 1 (.slice (some ⟨g, 0, none⟩) L2 cap) L2 ((sdL (d.toList.take k) ++ tn tx).map (Value.int .u8))) := by
        have h := HO5.out
        rw [hve, ← hL2] at h
        exact h
      subst hve
      have hsl := run_sl26 b (off + k * 22 + 2)
      have HLIM : Hid (L2 + 1 ≤ 140737488355328 ∧ L2 + 1 + 20 ≤ 140737488355328) := by
        have h1 := HLL.out
        have h2 := HTX.out
        refine ⟨?_, ?_⟩ <;> omega
      have HTZ : Hid (sdL (d.toList.take k) ++ tn tx ++ [0] ++ x.id = sdL (d.toList.take (k + 1))) := by
        show _ = _
        rw [HTK.out]
        unfold sd1
        rw [← HTX.out.1]
        simp [tn]
      clear hL2
      go_wp2_with (first
        | (refine wpList_bs22 rfl _ rfl rfl ?_; intro w6 b6 r6; have HB6 : Hid (Below w.heap.size w w6) := HB5.out.trans (b6.mono HB5.out.size); have HR6 : Hid (Rd w6 (some ⟨w5.heap.size, 0, none⟩) 1 1 [0]) := r6; have HO7 : Hid (w6.ownsRow w.heap.size 5 1 (.slice (some ⟨g, 0, none⟩) L2 cap) L2 ((sdL (d.toList.take k) ++ tn tx).map (Value.int .u8))) := own_keep HO6.out b6; clear b6 r6)
        | (refine wpList_append_rd rfl _ _ rfl w.heap.size g L2 cap _ rfl HO7.out (some ⟨w5.heap.size, 0, none⟩) 1 1 [0] rfl HR6.out HLIM.out.1 HB6.out.size ?_; intro g7 cap7 w7 o7 gr7; have HO8 : Hid (w7.ownsRow w.heap.size 5 1 (.slice (some ⟨g7, 0, none⟩) (L2 + 1) cap7) (L2 + 1) ((sdL (d.toList.take k) ++ tn tx ++ [0]).map (Value.int .u8))) := o7; have HB7 : Hid (Below w.heap.size w w7) := HB6.out.grown gr7 HB6.out.size (fun j hj => (HO7.out.lt j hj).1); clear o7 gr7)
        | (refine wpList_append_rd rfl _ _ rfl w.heap.size g7 (L2 + 1) cap7 _ rfl HO8.out (some ⟨b, off + k * 22 + 2, none⟩) 20 20 x.id rfl (HAT.out _ HB7.out).2.2 HLIM.out.2 HB7.out.size ?_; intro g8 cap8 w8 o8 gr8; have HO9 : Hid (w8.ownsRow w.heap.size 5 1 (.slice (some ⟨g8, 0, none⟩) (L2 + 1 + 20) cap8) (L2 + 1 + 20) ((sdL (d.toList.take (k + 1))).map (Value.int .u8))) := (by show World.ownsRow _ _ _ _ _ _ _; rw [← HTZ.out]; exact o8); have HB8 : Hid (Below w.heap.size w w8) := HB7.out.grown gr8 HB7.out.size (fun j hj => (HO8.out.lt j hj).1); clear o8 gr8))
      exact ⟨⟨k + 1, L2 + 1 + 20, by simp, HLT.out, (by show _ = _; rw [← HTZ.out]; simp only [List.length_append, ← HLN.out, HL2.out, tn_len, HX.out.2.1.id.1, List.length_singleton]), HO9, HB8⟩, by simp [intOf]; have := HLT.out; omega⟩
    · obtain rfl : k = n := by omega
      have hq : ¬ (k : Int) < (k : Int) := by omega
      have d1 : decide ((k : Int) < (k : Int)) = false := by simp
      have hft : d.toList.take k = d.toList := List.take_of_length_le (by have := HN.out; simp; omega)
      have HIDS : Hid (∀ e ∈ d.toList, IsId e.id) := fun e he => by
        have h := HALL.out k e
        rw [hft] at h
        exact (h he).2
      have hO := HO.out
      rw [hft] at hO
      obtain ⟨ao2, c2, rfl, rd2, _⟩ := own_rd hO (sdL_byt _ HIDS.out)
      have HRD : Hid (Rd wr ao2 L c2 (sdL d.toList)) := rd2
      clear rd2 hO hft
      go_wp2_with fail
      go_ret
      exact ⟨_, _, _, rfl, HRD.out, HB.out⟩

end Go.Proofs.YtojgablpjdlegaaGreatDoor

/- The document's EncodeTree. -/
namespace Go.Proofs.YtojgablpjdlegaaGreatDoor
open Go.RowKit Go.Shelf

theorem oct_ne (m : Int) (h : isM m = true) : oct m ≠ [] := by
  unfold isM at h
  simp only [Bool.or_eq_true, beq_iff_eq] at h
  rcases h with (((rfl | rfl) | rfl) | rfl) | rfl
  · rw [oct_16384]; simp
  · rw [oct_33188]; simp
  · rw [oct_33261]; simp
  · rw [oct_40960]; simp
  · rw [oct_57344]; simp

set_option maxRecDepth 100000 in
set_option maxHeartbeats 2000000 in
theorem rencTree_long (ao : Option Addr) (n c : Nat) (w : World) (h : 512 < n) :
    Calls Tryz.prog 38 #[.slice ao n c] w fun e w' => e = .returned (.tuple #[nlv, .int .i64 1]) ∧ Below w.heap.size w w' := by
  have d1 : decide ((512 : Int) < (n : Int)) = true := by simp; omega
  have d2 : decide (512 < n) = true := by simp; omega
  clear h
  go_enter Tryz.func38, Tryz.ntmps38
  go_wp2_with fail
  go_ret2
  exact ⟨rfl, Below.refl _ _⟩

set_option maxRecDepth 100000 in
set_option maxHeartbeats 8000000 in
theorem rencTree_go (ao : Option Addr) (n c : Nat) (d : Array En) (w : World) (h : Es w (.slice ao n c) d) (hn : n = d.size) (hl : n ≤ 512) :
    Calls Tryz.prog 38 #[.slice ao n c] w fun e w' => ∃ ao' n' c', e = .returned (.tuple #[.slice ao' n' c', .int .i64 (tE d)]) ∧ Rd w' ao' n' c' (tX d) ∧ Below w.heap.size w w' := by
  have d1 : decide ((512 : Int) < (n : Int)) = false := by simp; omega
  have d2 : decide (512 < n) = false := by simp; omega
  have HP : Hid (0 < n → ∃ b off, ao = some ⟨b, off, none⟩ ∧ ∀ V : World, Below w.heap.size w V → ∀ i, i < n → ∀ j, j < 22 → V.cell? ⟨b, off + i * 22 + j, none⟩ = some (ecl d[i]! j)) := fun h0 => by
    obtain ⟨b, off, h1, hb, h2⟩ := h.cells (by omega)
    exact ⟨b, off, h1, fun V hV i hi j hj => h2 V (fun k hk => by subst hk; exact hV.block _ hb) i (by omega) j hj⟩
  have HOK : Hid (∀ i, i < n → okE d[i]!) := fun i hi => h.ok i (by omega)
  have HN : Hid (n = d.size ∧ n ≤ 512) := ⟨hn, hl⟩
  have HES : Hid (∀ V : World, Below w.heap.size w V → Es V (.slice ao n c) d) := fun V hV => h.keep hV
  obtain ⟨E, hE⟩ : ∃ E : Int, E = tE d := ⟨_, rfl⟩
  obtain ⟨X, hX⟩ : ∃ X : List Int, X = tX d := ⟨_, rfl⟩
  have HNO : Hid (d.toList.all eB = false → E = 1 ∧ X = []) := fun hh => by
    have e1 : tE d = 1 := by
      unfold tE
      rw [if_neg (fun q => by rw [hh] at q; cases q.2)]
    refine ⟨by rw [hE, e1], ?_⟩
    rw [hX]
    unfold tX
    rw [e1]
    rfl
  have HFO : Hid (d.toList.all eB = true → riB d = false → E = 2 ∧ X = []) := fun h1 h2 => by
    have e1 : tE d = 2 := by
      unfold tE
      rw [if_pos ⟨by omega, h1⟩, if_neg (by rw [h2]; simp)]
    refine ⟨by rw [hE, e1], ?_⟩
    rw [hX]
    unfold tX
    rw [e1]
    rfl
  have HGO : Hid (d.toList.all eB = true → riB d = true → (E = if (sdL d.toList).length ≤ 16384 then 0 else 5) ∧ (X = if (sdL d.toList).length ≤ 16384 then sdL d.toList else [])) := fun h1 h2 => by
    have e1 : tE d = if (sdL d.toList).length ≤ 16384 then 0 else 5 := by
      unfold tE
      rw [if_pos ⟨by omega, h1⟩, if_pos h2]
    refine ⟨by rw [hE, e1], ?_⟩
    rw [hX]
    unfold tX
    rw [e1]
    by_cases q : (sdL d.toList).length ≤ 16384
    · rw [if_pos q, if_pos q, if_pos rfl]
    · rw [if_neg q, if_neg q, if_neg (by decide)]
  rw [← hE, ← hX]
  clear h hn hl hE hX
  go_enter Tryz.func38, Tryz.ntmps38
  go_wp2_with fail
  go_loopw [4] (fun s4 wr => ∃ k : Nat, s4 = .int .i64 (k : Int) ∧ k ≤ n ∧ Hid (∀ i, i < k → eB d[i]! = true) ∧ Hid (Below w.heap.size w wr)) (fun s4 _ => n - (intOf s4).toNat)
  case atStart => exact ⟨0, rfl, Nat.zero_le _, fun i hi => absurd hi (by omega), Below.refl _ _⟩
  case round =>
    obtain ⟨k, rfl, hkn, HK, HB⟩ := hrel
    by_cases hlt : k < n
    · have hq : (k : Int) < (n : Int) := by omega
      have d3 : decide ((k : Int) < (n : Int)) = true := by simp; omega
      have hwk : IntKind.i64.wrap ((k : Int) + 1) = (k : Int) + 1 := by have := HN.out; rw [IntKind.wrap_i64]; omega
      obtain ⟨b, off, rfl, hc0⟩ := HP.out (by omega)
      have hok := HOK.out k hlt
      obtain ⟨x, hx⟩ : ∃ x, d[k]! = x := ⟨_, rfl⟩
      rw [hx] at hok
      have HX : Hid (d[k]! = x ∧ okE x) := ⟨hx, hok⟩
      have HLT : Hid (k < n) := hlt
      have h2 := hc0 wr HB.out k hlt
      rw [hx] at h2
      obtain ⟨c0, c1, _, _, _⟩ := at_entry h2 hok.id
      have hm := rmode_any x.m wr
      have hnm := rname_any x.nm wr (by have := hok.nm; omega)
      obtain ⟨A, hA⟩ : ∃ A : ByteArray, A = ⟨(mdt x.m).toArray⟩ := ⟨_, rfl⟩
      have hm' : Calls Tryz.prog 67 #[.int .i64 x.m] wr fun e w' => e = .returned (.string A) ∧ w' = wr := by rw [hA]; exact hm
      have hlA : A.toList = mdt x.m := by rw [hA, ByteArray.toList_eq]
      clear hc0 hok hx hlt hkn h2 hm hA
      go_wp2_with fail
      refine hm'.mono ?_
      rintro e w3 ⟨rfl, hw3⟩
      subst w3
      clear hm'
      by_cases hM : isM x.m = true
      · have hme : (A.toList == []) = false := by
          rw [hlA, mdt, if_pos hM, beq_eq_false_iff_ne]
          exact oct_ne x.m hM
        have hme2 : A.toList.isEmpty = false := by
          rw [List.isEmpty_eq_false_iff]
          exact fun q => by rw [q] at hme; cases hme
        have HM1 : Hid (isM x.m = true) := hM
        clear hM hlA
        go_wp2_with fail
        refine hnm.mono ?_
        rintro e w4 ⟨rfl, hw4⟩
        subst w4
        clear hnm
        by_cases hN : nmB x.nm = true
        · have HK1 : Hid (∀ i, i < k + 1 → eB d[i]! = true) := fun i hi => by
            by_cases e : i = k
            · subst e
              rw [HX.out.1]
              unfold eB
              rw [HM1.out, hN]
              rfl
            · exact HK.out i (by omega)
          go_wp2_with fail
          exact ⟨⟨k + 1, by simp, HLT.out, HK1, HB⟩, by simp [intOf]; have := HLT.out; omega⟩
        · have hN' : nmB x.nm = false := by simpa using hN
          have HR0 : Hid (E = 1 ∧ X = []) := HNO.out (all_one d k (by rw [← HN.out.1]; exact HLT.out) (by rw [HX.out.1]; unfold eB; rw [hN', Bool.and_false]))
          clear hN
          go_wp2_with fail
          go_ret2
          rw [HR0.out.1, HR0.out.2]
          exact ⟨_, _, _, rfl, Rd.nil _, HB.out⟩
      · have hM' : isM x.m = false := by simpa using hM
        have hme : (A.toList == []) = true := by
          rw [hlA, mdt, if_neg hM]
          rfl
        have hme2 : A.toList.isEmpty = true := by
          rw [hlA, mdt, if_neg hM]
          rfl
        have HR0 : Hid (E = 1 ∧ X = []) := HNO.out (all_one d k (by rw [← HN.out.1]; exact HLT.out) (by rw [HX.out.1]; unfold eB; rw [hM', Bool.false_and]))
        clear hM hlA hnm
        go_wp2_with fail
        go_ret2
        rw [HR0.out.1, HR0.out.2]
        exact ⟨_, _, _, rfl, Rd.nil _, HB.out⟩
    · obtain rfl : k = n := by omega
      have hq : ¬ (k : Int) < (k : Int) := by omega
      have d3 : decide ((k : Int) < (k : Int)) = false := by simp
      have HALL : Hid (d.toList.all eB = true) := all_upto d (fun i hi => HK.out i (by rw [HN.out.1]; exact hi))
      have hri := rising_any (.slice ao k c) d wr (HES.out wr HB.out) (by have := HN.out; omega)
      by_cases hr : riB d = true
      · have hsd := fun V (hV : Below wr.heap.size wr V) => said_any (.slice ao k c) d V (HES.out V (HB.out.trans (hV.mono HB.out.size))) (by have := HN.out; omega) HALL.out
        have HSD : Hid _ := hsd
        have HG : Hid _ := HGO.out HALL.out hr
        rw [hr] at hri
        clear hsd hr
        go_wp2_with fail
        refine hri.mono ?_
        rintro e w5 ⟨rfl, b5⟩
        have HB5 : Hid (Below wr.heap.size wr w5) := b5
        have hsd := HSD.out w5 b5
        clear hri b5
        go_wp2_with fail
        refine hsd.mono ?_
        rintro e w6 ⟨ao6, L, c6, rfl, rd6, b6⟩
        have HR6 : Hid (Rd w6 ao6 L c6 (sdL d.toList)) := rd6
        have HB6 : Hid (Below w.heap.size w w6) := HB.out.trans ((HB5.out.trans (b6.mono HB5.out.size)).mono HB.out.size)
        have hLn : (sdL d.toList).length = L := rd6.1
        clear hsd b6 rd6
        by_cases hle : L ≤ 16384
        · have e1 : decide ((16384 : Int) < (L : Int)) = false := by simp; omega
          have e2 : decide (16384 < L) = false := by simp; omega
          have HEE : Hid (E = 0 ∧ X = sdL d.toList) := by
            have h := HG.out
            rwa [hLn, if_pos hle, if_pos hle] at h
          clear hle hLn
          go_wp2_with fail
          go_ret2
          rw [HEE.out.1, HEE.out.2]
          exact ⟨_, _, _, rfl, HR6.out, HB6.out⟩
        · have e1 : decide ((16384 : Int) < (L : Int)) = true := by simp; omega
          have e2 : decide (16384 < L) = true := by simp; omega
          have HEE : Hid (E = 5 ∧ X = []) := by
            have h := HG.out
            rwa [hLn, if_neg hle, if_neg hle] at h
          clear hle hLn
          go_wp2_with fail
          go_ret2
          rw [HEE.out.1, HEE.out.2]
          exact ⟨_, _, _, rfl, Rd.nil _, HB6.out⟩
      · have hr' : riB d = false := by simpa using hr
        have HEE : Hid (E = 2 ∧ X = []) := HFO.out HALL.out hr'
        rw [hr'] at hri
        clear hr hr'
        go_wp2_with fail
        refine hri.mono ?_
        rintro e w5 ⟨rfl, b5⟩
        have HB5 : Hid (Below w.heap.size w w5) := HB.out.trans (b5.mono HB.out.size)
        clear hri b5
        go_wp2_with fail
        go_ret2
        rw [HEE.out.1, HEE.out.2]
        exact ⟨_, _, _, rfl, Rd.nil _, HB5.out⟩

/-- The document's EncodeTree answers as the program's. -/
theorem rencTree_any (v : Value) (d : Array En) (w : World) (h : Es w v d) :
    Calls Tryz.prog 38 #[v] w fun e w' => ∃ ao n c, e = .returned (.tuple #[.slice ao n c, .int .i64 (tE d)]) ∧ Rd w' ao n c (tX d) ∧ Below w.heap.size w w' := by
  obtain ⟨ao, c, rfl, _⟩ := h.sh
  by_cases h1 : d.size ≤ 512
  · exact rencTree_go ao d.size c d w h rfl h1
  · have e1 : tE d = 1 := by
      unfold tE
      rw [if_neg (fun q => h1 q.1)]
    unfold tX
    rw [e1, if_neg (by decide)]
    exact (rencTree_long ao d.size c w (by omega)).mono (fun e w' ⟨g1, g2⟩ => ⟨none, 0, 0, g1, Rd.nil _, g2⟩)

end Go.Proofs.YtojgablpjdlegaaGreatDoor
