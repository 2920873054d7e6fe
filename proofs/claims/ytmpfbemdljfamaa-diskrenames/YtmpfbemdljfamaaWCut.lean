/- A file: sync, loose, cut. -/
import Derived.Test.YtmpfbemdljfamaaWFile
namespace Go.Proofs.Ytmpfbemdljfamaa
open Go.RowKit Go.Maps

theorem sync_any (f : Nat) (x : Fl) (w : World) (hr : w.rowIs f 79 2 (fc x)) (hd : w.ownsRow 0 5 1 x.v x.xs.length (x.xs.map (Value.int .u8))) :
    Calls Try.prog 32 #[.pointer (some ⟨f, 0, none⟩)] w fun e w' => e = .returned (.tuple #[]) ∧ w'.rowIs f 79 2 (fc ⟨x.v, x.xs, x.xs.length⟩) ∧ Fr (fun k => k = f) w w' := by
  have c0 := hr.cell (i := 0) (by omega)
  have c1 := hr.cell (i := 1) (by omega)
  have f1 := hr.frozen 1
  simp only [fc] at c0 c1
  obtain ⟨av, cv, hv⟩ := own_shape hd
  rw [hv] at c0
  have hr2 := set_row (g := fc ⟨x.v, x.xs, x.xs.length⟩) hr 1 (.int .i64 x.xs.length) (by
    intro j hj
    match j, hj with
    | 0, _ | 1, _ => rfl)
  have hf := set_fr w f 1 (.int .i64 x.xs.length)
  clear hr hd
  generalize x.xs.length = n at *
  go_enter Try.func32, Try.ntmps32
  go_wp2
  go_end0
  exact ⟨rfl, hr2, hf⟩

theorem loose_any (f : Nat) (O : Nat → Prop) (x : Fl) (w : World) (h : IsF w O f x) (hl : x.xs.length ≤ 140737488351232) :
    Calls Try.prog 43 #[.pointer (some ⟨f, 0, none⟩)] w fun e w' => e = .returned (.int .i64 (x.xs.length - x.s)) ∧ Below w.heap.size w w' := by
  have c0 := h.row.cell (i := 0) (by omega)
  have c1 := h.row.cell (i := 1) (by omega)
  simp only [fc] at c0 c1
  obtain ⟨av, cv, hv⟩ := own_shape h.dat
  rw [hv] at c0
  have hs := h.syn
  have q1 : IntKind.i64.wrap ((x.xs.length : Int) - x.s) = x.xs.length - x.s := by rw [IntKind.wrap_i64]; omega
  clear h
  generalize x.xs.length = n at *
  generalize x.s = s at *
  go_enter Try.func43, Try.ntmps43
  go_wp2
  go_region
  go_wp2
  go_ret
  exact ⟨rfl, drew_keep w⟩

set_option maxRecDepth 100000 in
set_option maxHeartbeats 2000000 in
theorem cut_any (f : Nat) (O : Nat → Prop) (x : Fl) (k : Nat) (w : World) (h : IsF w O f x) (hk : x.s + k ≤ x.xs.length) (hl : x.xs.length ≤ 140737488351232) :
    Calls Try.prog 44 #[.pointer (some ⟨f, 0, none⟩), .int .i64 k] w fun e w' => e = .returned (.tuple #[]) ∧
      ∃ v', w'.rowIs f 79 2 (fc ⟨v', x.xs.take (x.s.toNat + k), (x.xs.take (x.s.toNat + k)).length⟩) ∧ w'.ownsRow 0 5 1 v' (x.xs.take (x.s.toNat + k)).length ((x.xs.take (x.s.toNat + k)).map (Value.int .u8)) ∧
        Fr (fun k => k = f) w w' ∧ ∀ g, v'.ownBlock = some g → w.heap.size ≤ g := by
  have hs := h.syn
  have hr := h.row
  have kf := kd_row h.row
  have c0 := h.row.cell (i := 0) (by omega)
  have c1 := h.row.cell (i := 1) (by omega)
  simp only [fc] at c0 c1
  obtain ⟨ao, c, hv, hrd, -⟩ := own_rd h.dat h.byt
  rw [hv] at c0
  obtain ⟨p, hp⟩ : ∃ p : Nat, (p : Int) = x.s := ⟨x.s.toNat, by omega⟩
  have ep : x.s.toNat = p := by omega
  rw [ep]
  rw [← hp] at c1 hk
  have hpl : p + k ≤ x.xs.length := by omega
  obtain ⟨m, hm⟩ : ∃ m, m = p + k := ⟨_, rfl⟩
  rw [← hm] at hpl ⊢
  have q1 : IntKind.i64.wrap ((p : Int) + k) = (m : Int) := by rw [IntKind.wrap_i64]; omega
  have q2 : wrap64 ((p : Int) + k) = (m : Int) := by rw [IntWalk.wrap64_in _ (by omega)]; omega
  have e3 : ∀ W, Rd W ao x.xs.length c x.xs → (Instr.slice 22 (.slice ao x.xs.length c) none (some (.int .i64 m)) none).run Try.prog W = .ok (.slice ao m c) W := fun W hW => by
    have := run_sub hW (p := 0) (m := m) (by omega) none (some (.int .i64 m)) (.inr ⟨rfl, rfl⟩) (.inl (by simp))
    rw [this]
    congr 2
    · split
      · rfl
      · cases ao with
        | none => rfl
        | some ad => simp [Addr.add]
  have hsub : ∀ W, Rd W ao x.xs.length c x.xs → Rd W ao m c (x.xs.take m) := fun W hW =>
    ⟨by simp; omega, by have := hW.le; omega, fun e => by have := hW.nul e; omega, fun ad e j hj => by
      rw [hW.cells ad e j (by omega)]
      simp [List.getD, hj], fun b hb => hW.byt b (List.mem_of_mem_take hb)⟩
  have q5 := e3 w.drew (hrd.keep (drew_keep w))
  have hlm : (x.xs.take m).length = m := by simp; omega
  have hcl := clone_any ao m c _ w.drew (hsub _ (hrd.keep (drew_keep w))) (by omega)
  rw [hlm]
  have Hhr : Hid (w.rowIs f 79 2 (fc x)) := hr
  have hby : ∀ b ∈ x.xs.take m, 0 ≤ b ∧ b < 256 := fun b hb => h.byt b (List.mem_of_mem_take hb)
  have hO := h.own
  clear h e3 hsub hrd hv hs hp ep hk hm hO
  obtain ⟨ys, hys⟩ : ∃ ys, ys = x.xs.take m := ⟨_, rfl⟩
  rw [← hys] at hcl hlm hby ⊢
  clear hys
  generalize x.xs.length = n at *
  clear hr
  go_enter Try.func44, Try.ntmps44
  go_wp2
  go_region_with (go_at_call 45; refine hcl.mono ?_; rintro e w1 ⟨v, rfl, hv, hb⟩; obtain ⟨av, cv, rfl⟩ := own_shape hv; have hr1 : w1.rowIs f 79 2 (fc x) := rowIs_fr (P := fun _ => False) Hhr.out (Fr.ofBelow ((drew_keep w).trans hb)) (fun h => h); have c1 := hr1.cell (i := 0) (by omega); have f1 := hr1.frozen 0; simp only [fc] at c1)
  all_goals (
    have hr2 := set_row (g := fc ⟨.slice av m cv, ys, x.s⟩) hr1 0 (.slice av m cv) (by
      intro j hj
      match j, hj with
      | 0, _ | 1, _ => rfl)
    have hb0 : Below w.heap.size w w1 := (drew_keep w).trans hb
    have hd2 : (w1.setCell ⟨f, 0, none⟩ (.slice av m cv)).ownsRow 0 5 1 (.slice av m cv) ys.length (ys.map (Value.int .u8)) := by
      rw [hlm]
      exact ownsRow_fr (own0 hv) (set_fr w1 f 0 _) (fun k e hk => by
        have k1 := kd_own hv e
        rw [hk, kd_row hr1] at k1
        cases k1)
    have hf2 : Fr (fun k => k = f) w (w1.setCell ⟨f, 0, none⟩ (.slice av m cv)) := (Fr.ofBelow hb0).trans (set_fr w1 f 0 _) (fun _ _ e => e)
    go_wp2_with (go_at_call 32; refine (sync_any f ⟨.slice av m cv, ys, x.s⟩ _ hr2 hd2).mono ?_; rintro e w2 ⟨rfl, hr3, hf3⟩)
    go_end0
    subst hlm
    refine ⟨rfl, _, hr3, ?_, hf2.trans hf3 (fun _ _ e => e), fun g e => own_ge hv e⟩
    exact ownsRow_fr hd2 hf3 (fun k e hk => by
        have k1 := kd_own hd2 e
        rw [hk, kd_row hr2] at k1
        cases k1))

end Go.Proofs.Ytmpfbemdljfamaa
