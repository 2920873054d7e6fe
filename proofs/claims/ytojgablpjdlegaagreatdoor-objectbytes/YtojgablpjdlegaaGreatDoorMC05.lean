/- May a commit be. -/
import Derived.Test.YtojgablpjdlegaaGreatDoorMC01
import Derived.Test.YtojgablpjdlegaaGreatDoorMC04
import Derived.Test.YtojgablpjdlegaaGreatDoorM10
import Derived.Test.YtojgablpjdlegaaGreatDoorM19
namespace Go.Proofs.YtojgablpjdlegaaGreatDoor
open Go.RowKit

/-- May a commit of these lines and parents be? -/
def mb (A C : List UInt8) (ds : List (List Int)) : Bool := txtB A 200 && (txtB C 200 && (decide (ds.length ≤ 512) && decide ds.Nodup))

theorem sub_perm : ∀ r l : List (List Int), r.Nodup → (∀ x ∈ r, x ∈ l) → ∃ t, l.Perm (r ++ t)
  | [], l, _, _ => ⟨l, List.Perm.refl _⟩
  | a :: r, l, hn, hs => by
    have ha : a ∈ l := hs a (by simp)
    have hp := List.perm_cons_erase ha
    obtain ⟨h1, h2⟩ := List.nodup_cons.1 hn
    obtain ⟨t, ht⟩ := sub_perm r (l.erase a) h2 (fun x hx => (List.mem_erase_of_ne (by rintro rfl; exact h1 hx)).2 (hs x (by simp [hx])))
    exact ⟨t, hp.trans (List.Perm.cons a ht)⟩

theorem inc_nodup {l : List (List Int)} (h : Inc l) : l.Nodup := by
  unfold Inc at h
  refine List.Pairwise.imp (fun {x y} hxy e => ?_) h
  subst e
  have := ltl_irr x
  rw [hxy] at this
  cases this

theorem srt_size {d r : Array (List Int)} (h : Srt d r) : (r.size = d.size) ↔ d.toList.Nodup := by
  obtain ⟨hi, hm⟩ := h
  have hn := inc_nodup hi
  constructor
  · intro he
    obtain ⟨t, ht⟩ := sub_perm r.toList d.toList hn (fun x hx => (hm x).1 hx)
    have hl := ht.length_eq
    rw [List.length_append, Array.length_toList, Array.length_toList] at hl
    have : t = [] := List.eq_nil_of_length_eq_zero (by omega)
    rw [this, List.append_nil] at ht
    exact ht.nodup_iff.2 hn
  · intro hd
    obtain ⟨t, ht⟩ := sub_perm r.toList d.toList hn (fun x hx => (hm x).1 hx)
    obtain ⟨t2, ht2⟩ := sub_perm d.toList r.toList hd (fun x hx => (hm x).2 hx)
    have hl := ht.length_eq
    have hl2 := ht2.length_eq
    rw [List.length_append, Array.length_toList, Array.length_toList] at hl hl2
    omega

set_option maxRecDepth 100000 in
set_option maxHeartbeats 4000000 in
theorem mayBe_any (t : List Int) (v : Value) (a c m : List UInt8) (d : Array (List Int)) (w : World) (hv : Is w v d) (ha : a.length ≤ 1000000) (hc : c.length ≤ 1000000) (hd : d.size < 100000) :
    Calls Tryz.prog 73 #[cmv t v a c m] w fun e w' => e = .returned (.bool (mb a c d.toList)) ∧ Below w.heap.size w w' := by
  have hz := zero47
  obtain ⟨ao, cap, hve, hle, hnul, hcells⟩ := hv.sh
  subst hve
  obtain ⟨W, hW⟩ : ∃ W, W = w.alloc (Obj.cells (vals (cf t (.slice ao d.size cap) a c m) 24).toArray 47) := ⟨_, rfl⟩
  have r1 : W.rowIs w.heap.size 47 24 (cf t (.slice ao d.size cap) a c m) := by rw [hW]; exact rowIs_vals _ _ _ _
  have hbw : Below w.heap.size w W := by rw [hW]; exact new_below _ _
  have HB : Hid (Below w.heap.size w W) := hbw
  obtain ⟨n, hn⟩ : ∃ n, n = d.size := ⟨_, rfl⟩
  have HS : Hid (∀ V, Below w.heap.size w V → Calls Tryz.prog 61 #[.slice ao n cap] V fun e w' => ∃ v r, e = .returned v ∧ Srt d r ∧ (∃ ao' c', v = .slice ao' r.size c') ∧ Below V.heap.size V w') := fun V hV => by
    have := Sort_any n (pdq_is n (by omega)) ao cap d V (by rw [hn]; exact hv.keep hV) hn.symm (by omega)
    refine this.mono ?_
    rintro e w' ⟨v, r, h1, h2, h3, h4, h5⟩
    obtain ⟨ao', c', h6⟩ := h4.shape
    exact ⟨v, r, h1, h2, ⟨ao', c', h6⟩, h5⟩
  have H : Hid (∀ V, Below W.heap.size W V → (loadVar 9 ⟨w.heap.size, 21, none⟩).run Tryz.prog V = .ok (sv a) V ∧ Calls Tryz.prog 101 #[sv a, .int .i64 200] V (fun e w' => e = .returned (.bool (txtB a 200)) ∧ Below W.heap.size W w') ∧ (loadVar 9 ⟨w.heap.size, 22, none⟩).run Tryz.prog V = .ok (sv c) V ∧ Calls Tryz.prog 101 #[sv c, .int .i64 200] V (fun e w' => e = .returned (.bool (txtB c 200)) ∧ Below W.heap.size W w') ∧ (loadVar 45 ⟨w.heap.size, 20, none⟩).run Tryz.prog V = .ok (.slice ao n cap) V) := fun V hV => by
    have rV := rowIs_fr (P := fun _ => False) r1 (Fr.ofBelow hV) (fun h => h)
    have hvs : V.cell? ⟨w.heap.size, 20, none⟩ = some (.slice ao n cap) := by rw [hn]; exact rV.cell (i := 20) (by omega)
    exact ⟨ld9 V _ _ (rV.cell (i := 21) (by omega)), (text_any a 200 V ha).mono (fun e w' ⟨h1, h2⟩ => ⟨h1, hV.trans (h2.mono hV.size)⟩), ld9 V _ _ (rV.cell (i := 22) (by omega)), (text_any c 200 V hc).mono (fun e w' ⟨h1, h2⟩ => ⟨h1, hV.trans (h2.mono hV.size)⟩), ld45 V _ _ _ _ hvs⟩
  have c101 : Hid (∀ vs w, (callFunc 101 vs).run Tryz.prog w = .ok (.enter 101 vs) w) := fun vs w => by simp [go_sem]
  have HM : Hid (mb a c d.toList = (txtB a 200 && (txtB c 200 && (decide (n ≤ 512) && decide d.toList.Nodup)))) := by show _ = _; unfold mb; rw [Array.length_toList, hn]
  have HR1 : Hid (W.rowIs w.heap.size 47 24 (cf t (.slice ao n cap) a c m)) := by rw [hn]; exact r1
  have HTA : Hid (∀ V, Calls Tryz.prog 101 #[sv a, .int .i64 200] V (fun e w' => e = .returned (.bool (txtB a 200)) ∧ Below V.heap.size V w')) := fun V => text_any a 200 V ha
  have HTC : Hid (∀ V, Calls Tryz.prog 101 #[sv c, .int .i64 200] V (fun e w' => e = .returned (.bool (txtB c 200)) ∧ Below V.heap.size V w')) := fun V => text_any c 200 V hc
  have HHA : Hid (a.length ≤ 1000000 ∧ c.length ≤ 1000000) := ⟨ha, hc⟩
  rw [← hn] at hW ⊢
  have HN : Hid (n = d.size) := hn
  clear ha hc r1 hbw hv hle hnul hcells hd hn
  generalize txtB a 200 = ta at *
  generalize txtB c 200 = tc at *
  cases ta with
  | false =>
    go_enter Tryz.func73, Tryz.ntmps73
    go_wp2_with fail
    rw [← hW]
    clear hW
    refine wp_region_quiet (C := fun V => Below W.heap.size W V) (by kernel_rfl) (by kernel_rfl) (Below.refl _ _).drew ?_
    refine wpQuiet_step (fun K hK => ?_)
    (go_simp; refine ⟨_, fun wq hs => rfl, hK _ ?_⟩; clear hK K)
    refine wpQuiet_step (fun K hK => ?_)
    (refine q_load (by rfl) 9 _ rfl ⟨w.heap.size, 21, none⟩ rfl (sv a) (fun V hV => (H.out V hV).1) (hK _ ?_); clear hK K)
    refine wpQuiet_step (fun K hK => ?_)
    (refine q_call2 (by rfl) 101 c101.out _ _ _ rfl (sv a) (.int .i64 200) rfl rfl (.bool false) (fun V hV => (H.out V hV).2.1) (hK _ ?_); clear hK K)
    refine wpQuiet_step (fun K hK => ?_)
    (go_simp; refine ⟨_, fun wq hs => rfl, hK _ ?_⟩; clear hK K)
    refine wpQuiet_step (fun K hK => ?_)
    (go_simp; refine hK _ ?_; clear hK K)
    refine wpQuiet_step (fun K hK => ?_)
    (go_simp; refine hK _ ?_; clear hK K)
    refine wpQuiet_step (fun K hK => ?_)
    (go_simp; refine hK _ ?_; clear hK K)
    refine wpQuiet_step (fun K hK => ?_)
    (go_simp; refine ⟨_, fun wq hs => rfl, hK _ ?_⟩; clear hK K)
    refine wpQuiet_step (fun K hK => ?_)
    (go_simp; refine ⟨_, fun wq hs => rfl, hK _ ?_⟩; clear hK K)
    refine wpQuiet_step (fun K hK => ?_)
    (go_simp; refine hK _ ?_; clear hK K)
    refine wpQuiet_step (fun K hK => ?_)
    (go_simp; refine hK _ ?_; clear hK K)
    refine wpQuiet_step (fun K hK => ?_)
    (go_simp; refine hK _ ?_; clear hK K)
    refine wpQuiet_step (fun K hK => ?_)
    (go_simp; refine hK _ ?_; clear hK K)
    refine wpQuiet_step (fun K hK => ?_)
    (go_simp; refine ⟨_, fun wq hs => rfl, hK _ ?_⟩; clear hK K)
    refine wpQuiet_step (fun K hK => ?_)
    (go_simp; refine ⟨_, fun wq hs => rfl, hK _ ?_⟩; clear hK K)
    refine wpQuiet_step (fun K hK => ?_)
    (go_simp; refine hK _ ?_; clear hK K)
    refine wpQuiet_step (fun K hK => ?_)
    (go_simp; refine hK _ ?_; clear hK K)
    refine wpQuiet_step (fun K hK => ?_)
    (go_simp; refine hK _ ?_; clear hK K)
    refine wpQuiet_step (fun K hK => ?_)
    (go_simp; refine hK _ ?_; clear hK K)
    refine wpQuiet_step (fun K hK => ?_)
    (go_simp; refine hK _ ?_; clear hK K)
    refine wpQuiet_step (fun K hK => ?_)
    (go_simp; refine hK _ ?_; clear hK K)
    refine wpQuiet_step (fun K hK => ?_)
    (go_simp; refine hK _ ?_; clear hK K)
    refine wpQuiet_step (fun K hK => ?_)
    (go_simp; refine hK _ ?_; clear hK K)
    refine wpQuiet_step (fun K hK => ?_)
    (go_simp; refine ⟨_, fun wq hs => rfl, hK _ ?_⟩; clear hK K)
    refine wpQuiet_step (fun K hK => ?_)
    (go_simp; refine ⟨_, fun wq hs => rfl, hK _ ?_⟩; clear hK K)
    refine wpQuiet_nil ?_
    intro w1 hB1
    go_wp2_with fail
    go_ret
    exact ⟨by rw [HM.out]; rfl, HB.out.trans (hB1.mono HB.out.size)⟩
  | true =>
    cases tc with
    | false =>
      go_enter Tryz.func73, Tryz.ntmps73
      go_wp2_with fail
      rw [← hW]
      clear hW
      refine wp_region_quiet (C := fun V => Below W.heap.size W V) (by kernel_rfl) (by kernel_rfl) (Below.refl _ _).drew ?_
      refine wpQuiet_step (fun K hK => ?_)
      (go_simp; refine ⟨_, fun wq hs => rfl, hK _ ?_⟩; clear hK K)
      refine wpQuiet_step (fun K hK => ?_)
      (refine q_load (by rfl) 9 _ rfl ⟨w.heap.size, 21, none⟩ rfl (sv a) (fun V hV => (H.out V hV).1) (hK _ ?_); clear hK K)
      refine wpQuiet_step (fun K hK => ?_)
      (refine q_call2 (by rfl) 101 c101.out _ _ _ rfl (sv a) (.int .i64 200) rfl rfl (.bool true) (fun V hV => (H.out V hV).2.1) (hK _ ?_); clear hK K)
      refine wpQuiet_step (fun K hK => ?_)
      (go_simp; refine ⟨_, fun wq hs => rfl, hK _ ?_⟩; clear hK K)
      refine wpQuiet_step (fun K hK => ?_)
      (go_simp; refine ⟨_, fun wq hs => rfl, hK _ ?_⟩; clear hK K)
      refine wpQuiet_step (fun K hK => ?_)
      (refine q_load (by rfl) 9 _ rfl ⟨w.heap.size, 22, none⟩ rfl (sv c) (fun V hV => (H.out V hV).2.2.1) (hK _ ?_); clear hK K)
      refine wpQuiet_step (fun K hK => ?_)
      (refine q_call2 (by rfl) 101 c101.out _ _ _ rfl (sv c) (.int .i64 200) rfl rfl (.bool false) (fun V hV => (H.out V hV).2.2.2.1) (hK _ ?_); clear hK K)
      refine wpQuiet_step (fun K hK => ?_)
      (go_simp; refine ⟨_, fun wq hs => rfl, hK _ ?_⟩; clear hK K)
      refine wpQuiet_step (fun K hK => ?_)
      (go_simp; refine ⟨_, fun wq hs => rfl, hK _ ?_⟩; clear hK K)
      refine wpQuiet_step (fun K hK => ?_)
      (go_simp; refine hK _ ?_; clear hK K)
      refine wpQuiet_step (fun K hK => ?_)
      (go_simp; refine hK _ ?_; clear hK K)
      refine wpQuiet_step (fun K hK => ?_)
      (go_simp; refine hK _ ?_; clear hK K)
      refine wpQuiet_step (fun K hK => ?_)
      (go_simp; refine hK _ ?_; clear hK K)
      refine wpQuiet_step (fun K hK => ?_)
      (go_simp; refine ⟨_, fun wq hs => rfl, hK _ ?_⟩; clear hK K)
      refine wpQuiet_step (fun K hK => ?_)
      (go_simp; refine ⟨_, fun wq hs => rfl, hK _ ?_⟩; clear hK K)
      refine wpQuiet_step (fun K hK => ?_)
      (go_simp; refine hK _ ?_; clear hK K)
      refine wpQuiet_step (fun K hK => ?_)
      (go_simp; refine hK _ ?_; clear hK K)
      refine wpQuiet_step (fun K hK => ?_)
      (go_simp; refine hK _ ?_; clear hK K)
      refine wpQuiet_step (fun K hK => ?_)
      (go_simp; refine hK _ ?_; clear hK K)
      refine wpQuiet_step (fun K hK => ?_)
      (go_simp; refine hK _ ?_; clear hK K)
      refine wpQuiet_step (fun K hK => ?_)
      (go_simp; refine hK _ ?_; clear hK K)
      refine wpQuiet_step (fun K hK => ?_)
      (go_simp; refine hK _ ?_; clear hK K)
      refine wpQuiet_step (fun K hK => ?_)
      (go_simp; refine hK _ ?_; clear hK K)
      refine wpQuiet_step (fun K hK => ?_)
      (go_simp; refine ⟨_, fun wq hs => rfl, hK _ ?_⟩; clear hK K)
      refine wpQuiet_step (fun K hK => ?_)
      (go_simp; refine ⟨_, fun wq hs => rfl, hK _ ?_⟩; clear hK K)
      refine wpQuiet_nil ?_
      intro w1 hB1
      go_wp2_with fail
      go_ret
      exact ⟨by rw [HM.out]; rfl, HB.out.trans (hB1.mono HB.out.size)⟩
    | true =>
      by_cases h5 : n ≤ 512
      · have e1 : decide ((n : Int) ≤ 512) = true := by simp; omega
        have e2 : decide (n ≤ 512) = true := by simp; omega
        have k21 : W.cell? ⟨w.heap.size, 21, none⟩ = some (sv a) := HR1.out.cell (i := 21) (by omega)
        have k22 : W.cell? ⟨w.heap.size, 22, none⟩ = some (sv c) := HR1.out.cell (i := 22) (by omega)
        have k20 : W.cell? ⟨w.heap.size, 20, none⟩ = some (.slice ao n cap) := HR1.out.cell (i := 20) (by omega)
        have HE : Hid (n ≤ 512) := h5
        rw [e2] at HM
        clear H c101 h5
        go_enter Tryz.func73, Tryz.ntmps73
        go_wp2_with fail
        rw [← hW]
        clear hW
        have hbd : Below W.heap.size W W.drew := (Below.refl _ _).drew
        go_region_held3 (fun w' => w'.cell? ⟨w.heap.size, 21, none⟩ = some (sv a) ∧ w'.cell? ⟨w.heap.size, 22, none⟩ = some (sv c) ∧ w'.cell? ⟨w.heap.size, 20, none⟩ = some (.slice ao n cap)) (go_keep) (first
          | (go_at_call 61; refine (HS.out w3 B3.out).mono ?_; rintro e w4 ⟨v, r, rfl, hsr, ⟨ao', c', rfl⟩, b4⟩; have HSR : Hid (Srt d r) := hsr; have B4 : Hid (Below w.heap.size w w4) := B3.out.trans (b4.mono B3.out.size); have R4 : Hid (w4.rowIs w.heap.size 47 24 (cf t (.slice ao n cap) a c m)) := rowIs_fr (P := fun _ => False) R3.out (Fr.ofBelow b4) (fun h => h); have k214 : w4.cell? ⟨w.heap.size, 21, none⟩ = some (sv a) := R4.out.cell (i := 21) (by omega); have k224 : w4.cell? ⟨w.heap.size, 22, none⟩ = some (sv c) := R4.out.cell (i := 22) (by omega); have k204 : w4.cell? ⟨w.heap.size, 20, none⟩ = some (.slice ao n cap) := R4.out.cell (i := 20) (by omega); clear hsr b4)
          | (go_at_call 101; refine (HTC.out w2).mono ?_; rintro e w3 ⟨rfl, b3⟩; have B3 : Hid (Below w.heap.size w w3) := B2.out.trans (b3.mono B2.out.size); have R3 : Hid (w3.rowIs w.heap.size 47 24 (cf t (.slice ao n cap) a c m)) := rowIs_fr (P := fun _ => False) R2.out (Fr.ofBelow b3) (fun h => h); have k213 : w3.cell? ⟨w.heap.size, 21, none⟩ = some (sv a) := R3.out.cell (i := 21) (by omega); have k223 : w3.cell? ⟨w.heap.size, 22, none⟩ = some (sv c) := R3.out.cell (i := 22) (by omega); have k203 : w3.cell? ⟨w.heap.size, 20, none⟩ = some (.slice ao n cap) := R3.out.cell (i := 20) (by omega); clear b3)
          | (go_at_call 101; refine (HTA.out W.drew).mono ?_; rintro e w2 ⟨rfl, b2⟩; have B2 : Hid (Below w.heap.size w w2) := HB.out.trans ((hbd.trans b2).mono HB.out.size); have R2 : Hid (w2.rowIs w.heap.size 47 24 (cf t (.slice ao n cap) a c m)) := rowIs_fr (P := fun _ => False) HR1.out (Fr.ofBelow (hbd.trans b2)) (fun h => h); have k212 : w2.cell? ⟨w.heap.size, 21, none⟩ = some (sv a) := R2.out.cell (i := 21) (by omega); have k222 : w2.cell? ⟨w.heap.size, 22, none⟩ = some (sv c) := R2.out.cell (i := 22) (by omega); have k202 : w2.cell? ⟨w.heap.size, 20, none⟩ = some (.slice ao n cap) := R2.out.cell (i := 20) (by omega); clear b2))
        go_wp2_with fail
        go_ret
        have hq : ((r.size : Int) == (n : Int)) = decide d.toList.Nodup := by
          by_cases hnd : d.toList.Nodup
          · have h1 : r.size = n := by rw [HN.out]; exact (srt_size HSR.out).2 hnd
            rw [h1]
            simp [hnd]
          · have h1 : ¬ r.size = n := fun e => hnd ((srt_size HSR.out).1 (by rw [e, HN.out]))
            simp only [hnd, decide_false, beq_eq_false_iff_ne, ne_eq]
            omega
        refine ⟨?_, B4.out⟩
        rw [HM.out]
        show Ending.returned (.bool ((r.size : Int) == (n : Int))) = _
        rw [hq]
        rfl
      · have e1 : decide ((n : Int) ≤ 512) = false := by simp; omega
        have e2 : decide (n ≤ 512) = false := by simp; omega
        rw [e2] at HM
        go_enter Tryz.func73, Tryz.ntmps73
        go_wp2_with fail
        rw [← hW]
        clear hW
        refine wp_region_quiet (C := fun V => Below W.heap.size W V) (by kernel_rfl) (by kernel_rfl) (Below.refl _ _).drew ?_
        refine wpQuiet_step (fun K hK => ?_)
        (go_simp; refine ⟨_, fun wq hs => rfl, hK _ ?_⟩; clear hK K)
        refine wpQuiet_step (fun K hK => ?_)
        (refine q_load (by rfl) 9 _ rfl ⟨w.heap.size, 21, none⟩ rfl (sv a) (fun V hV => (H.out V hV).1) (hK _ ?_); clear hK K)
        refine wpQuiet_step (fun K hK => ?_)
        (refine q_call2 (by rfl) 101 c101.out _ _ _ rfl (sv a) (.int .i64 200) rfl rfl (.bool true) (fun V hV => (H.out V hV).2.1) (hK _ ?_); clear hK K)
        refine wpQuiet_step (fun K hK => ?_)
        (go_simp; refine ⟨_, fun wq hs => rfl, hK _ ?_⟩; clear hK K)
        refine wpQuiet_step (fun K hK => ?_)
        (go_simp; refine ⟨_, fun wq hs => rfl, hK _ ?_⟩; clear hK K)
        refine wpQuiet_step (fun K hK => ?_)
        (refine q_load (by rfl) 9 _ rfl ⟨w.heap.size, 22, none⟩ rfl (sv c) (fun V hV => (H.out V hV).2.2.1) (hK _ ?_); clear hK K)
        refine wpQuiet_step (fun K hK => ?_)
        (refine q_call2 (by rfl) 101 c101.out _ _ _ rfl (sv c) (.int .i64 200) rfl rfl (.bool true) (fun V hV => (H.out V hV).2.2.2.1) (hK _ ?_); clear hK K)
        refine wpQuiet_step (fun K hK => ?_)
        (go_simp; refine ⟨_, fun wq hs => rfl, hK _ ?_⟩; clear hK K)
        refine wpQuiet_step (fun K hK => ?_)
        (go_simp; refine ⟨_, fun wq hs => rfl, hK _ ?_⟩; clear hK K)
        refine wpQuiet_step (fun K hK => ?_)
        (go_simp; refine ⟨_, fun wq hs => rfl, hK _ ?_⟩; clear hK K)
        refine wpQuiet_step (fun K hK => ?_)
        (refine q_load (by rfl) 45 _ rfl ⟨w.heap.size, 20, none⟩ rfl (.slice ao n cap) (fun V hV => (H.out V hV).2.2.2.2) (hK _ ?_); clear hK K)
        refine wpQuiet_step (fun K hK => ?_)
        (go_simp; refine ⟨_, fun wq hs => rfl, hK _ ?_⟩; clear hK K)
        refine wpQuiet_step (fun K hK => ?_)
        (go_simp; refine ⟨_, fun wq hs => rfl, hK _ ?_⟩; clear hK K)
        refine wpQuiet_step (fun K hK => ?_)
        (go_simp; refine ⟨_, fun wq hs => rfl, hK _ ?_⟩; clear hK K)
        refine wpQuiet_step (fun K hK => ?_)
        (go_simp; refine ⟨_, fun wq hs => rfl, hK _ ?_⟩; clear hK K)
        refine wpQuiet_step (fun K hK => ?_)
        (go_simp; refine hK _ ?_; clear hK K)
        refine wpQuiet_step (fun K hK => ?_)
        (go_simp; refine hK _ ?_; clear hK K)
        refine wpQuiet_step (fun K hK => ?_)
        (go_simp; refine hK _ ?_; clear hK K)
        refine wpQuiet_step (fun K hK => ?_)
        (go_simp; refine hK _ ?_; clear hK K)
        refine wpQuiet_step (fun K hK => ?_)
        (go_simp; refine hK _ ?_; clear hK K)
        refine wpQuiet_step (fun K hK => ?_)
        (go_simp; refine hK _ ?_; clear hK K)
        refine wpQuiet_step (fun K hK => ?_)
        (go_simp; refine hK _ ?_; clear hK K)
        refine wpQuiet_step (fun K hK => ?_)
        (go_simp; refine hK _ ?_; clear hK K)
        refine wpQuiet_step (fun K hK => ?_)
        (go_simp; refine ⟨_, fun wq hs => rfl, hK _ ?_⟩; clear hK K)
        refine wpQuiet_step (fun K hK => ?_)
        (go_simp; refine ⟨_, fun wq hs => rfl, hK _ ?_⟩; clear hK K)
        refine wpQuiet_nil ?_
        intro w1 hB1
        go_wp2_with fail
        go_ret
        exact ⟨by rw [HM.out]; rfl, HB.out.trans (hB1.mono HB.out.size)⟩

end Go.Proofs.YtojgablpjdlegaaGreatDoor
