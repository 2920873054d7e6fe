/- A row's changes done to names: do. -/
import Derived.Test.YtmpfbemdljfamaaWAdd
import Derived.Lib.Walk
namespace Go.Proofs.Ytmpfbemdljfamaa
open Go.RowKit Go.Maps

/-- Changes, one behind the other. -/
def doN (fs : List Nat) (cs : List Chg) (D : DataW Unit) : DataW Unit := cs.foldl (fun D c => c.on fs D) D

theorem doN_succ (fs : List Nat) (cs : List Chg) (D : DataW Unit) (i : Nat) (h : i < cs.length) : doN fs (cs.take (i + 1)) D = (cs[i]).on fs (doN fs (cs.take i) D) := by
  unfold doN
  rw [List.take_succ_eq_append_getElem h, List.foldl_append]
  rfl

theorem on_size (fs : List Nat) (D : DataW Unit) (c : Chg) (h : Tidy D) : Maps.size (c.on fs D) ≤ Maps.size D + 1 := by
  cases c with
  | made n p =>
    show Maps.size (D.put _ _) ≤ _
    rw [size_put h]
    split <;> omega
  | renamed a b =>
    have h1 := size_put h (k := nm b) (D.atKey (nm a) .nil)
    have h2 := size_del (k := nm a) (h.put (isKey b) (D.atKey (nm a) .nil))
    show Maps.size ((D.put _ _).del _) ≤ _
    split at h1 <;> split at h2 <;> omega
  | removed n =>
    have h2 := size_del (k := nm n) h
    show Maps.size (D.del _) ≤ _
    split at h2 <;> omega

theorem chg_call {w : World} {O : Nat → Prop} {m : Nat} {u : Value} {c : Chg} (h : IsChg w O m u c) (b : Nat) (D : DataW Unit) (fv : Value) (fs : List Nat) (hm : Mp w b D) (hf : w.ownsRow 0 51 1 fv fs.length (fs.map fun f => pv (some f))) (hl : m ≤ fs.length) (hD : Maps.size D < maxLen) :
    (∃ b1 b2, u = .func (.func 53) #[] #[.pointer (some ⟨b1, 0, none⟩), .pointer (some ⟨b2, 0, none⟩)] ∧ Calls Try.prog 53 #[.map (some b), fv, .pointer (some ⟨b1, 0, none⟩), .pointer (some ⟨b2, 0, none⟩)] w fun e w' => e = .returned (.tuple #[]) ∧ Mp w' b (c.on fs D) ∧ Fr (fun k => k = b) w w') ∨
    (∃ b1 b2, u = .func (.func 54) #[] #[.pointer (some ⟨b1, 0, none⟩), .pointer (some ⟨b2, 0, none⟩)] ∧ Calls Try.prog 54 #[.map (some b), fv, .pointer (some ⟨b1, 0, none⟩), .pointer (some ⟨b2, 0, none⟩)] w fun e w' => e = .returned (.tuple #[]) ∧ Mp w' b (c.on fs D) ∧ Fr (fun k => k = b) w w') ∨
    (∃ b1, u = .func (.func 66) #[] #[.pointer (some ⟨b1, 0, none⟩)] ∧ Calls Try.prog 66 #[.map (some b), fv, .pointer (some ⟨b1, 0, none⟩)] w fun e w' => e = .returned (.tuple #[]) ∧ Mp w' b (c.on fs D) ∧ Fr (fun k => k = b) w w') := by
  cases h with
  | made n p b1 b2 h1 h2 _ _ hp hn => exact .inl ⟨b1, b2, rfl, made_on b D fv fs n p b1 b2 w hm hf h1 h2 (by omega) hn hD⟩
  | renamed a c b1 b2 h1 h2 _ _ ha hc => exact .inr (.inl ⟨b1, b2, rfl, renamed_on b D fv fs a c b1 b2 w hm h1 h2 ha hc hD⟩)
  | removed n b1 h1 _ hn => exact .inr (.inr ⟨b1, rfl, removed_on b D fv fs n b1 w hm h1 hn⟩)

/-- A row keeps while a map is written. -/
theorem IsRw.map {w w' : World} {O : Nat → Prop} {r : Nat} {x : Rw} {b : Nat} {D : DataW Unit} (h : IsRw w O r x) (hm : Mp w b D) (hf : Fr (fun k => k = b) w w') : IsRw w' O r x := by
  have kb := kd_map hm
  obtain ⟨cl, hcl, _⟩ := h.chs
  have nP : ∀ k t, kd w k = some t → ¬ k = b := fun k t e hk => by rw [hk, kb] at e; cases e
  exact h.fr hf (nP _ _ (kd_row h.row)) (fun g e => nP _ _ (kd_own hcl e)) (fun g e => nP _ _ (kd_own h.fls e)) (fun k _ hk => by subst hk; rw [kb]; simp)

set_option maxRecDepth 100000 in
set_option maxHeartbeats 2000000 in
theorem do_any (r : Nat) (O : Nat → Prop) (x : Rw) (b : Nat) (D : DataW Unit) (n : Nat) (w : World) (h : IsRw w O r x) (hm : Mp w b D) (hn : n ≤ x.cs.length) (hs : Maps.size D + x.cs.length < 1000000000) :
    Calls Try.prog 57 #[.pointer (some ⟨r, 0, none⟩), .map (some b), .int .i64 n] w fun e w' => e = .returned (.tuple #[]) ∧ Mp w' b (doN x.fs (x.cs.take n) D) ∧ Fr (fun k => k = b) w w' := by
  have Hh : Hid (IsRw w O r x) := h
  have Hm : Hid (Mp w b D) := hm
  obtain ⟨cl, hcl, hi⟩ := h.chs
  obtain ⟨av, cv, hv⟩ := own_shape hcl
  have c0 := h.row.cell (i := 0) (by omega)
  simp only [rc] at c0
  rw [hv] at c0
  have hle : n ≤ cv ∧ x.cs.length ≤ cv := by
    rcases hcl.2 with ⟨e, e0⟩ | ⟨g, cap, cur, e, _, _, hc, _⟩
    · rw [hv] at e
      injection e with _ e1 e2
      omega
    · rw [hv] at e
      injection e with _ e1 e2
      omega
  have hslice : ∀ W, (Instr.slice 64 (.slice av x.cs.length cv) none (some (.int .i64 n)) none).run Try.prog W = .ok (.slice av n cv) W := fun W => by
    have hz : ∀ w, (sizeOf 57).run Try.prog w = .ok 1 w := fun w => by simp [go_sem]
    have e1 : 0 ≤ (n : Int) ∧ (n : Int) ≤ (cv : Int) := by omega
    have e2 : (0 : Int) ≤ (0 : Int) ∧ (0 : Int) ≤ (n : Int) := by omega
    unfold Instr.slice Instr.sliceBounds
    simp only [run_underlying Try.underlying64, Instr.sliceBound, asIntOf, hz, Result.andThen_ok, Sem.run_bind, Sem.run_pure, if_pos e1, Option.isSome_none, Int.toNat_natCast]
    congr 2
    split
    · rfl
    · cases av with
      | none => rfl
      | some ad => simp [Addr.add]
  have HI : Hid (∀ i (hi : i < x.cs.length), ∃ u, cl[i]? = some u ∧ IsChg w O x.fs.length u (x.cs[i])) := hi
  have HV : Hid (x.cv = Value.slice av x.cs.length cv) := hv
  have Hcl : Hid (w.ownsRow 0 57 1 x.cv x.cs.length cl) := hcl
  obtain ⟨fa, fcp, hfv⟩ := own_shape h.fls
  have HF : Hid (x.fv = Value.slice fa x.fs.length fcp) := hfv
  clear h hm hi hv hcl hfv
  go_enter Try.func57, Try.ntmps57
  go_wp2
  go_loopw [15] (fun s15 wr => ∃ i : Nat, s15 = .int .i64 i ∧ i ≤ n ∧ Fr (fun k => k = b) w wr ∧ Mp wr b (doN x.fs (x.cs.take i) D) ∧ Maps.size (doN x.fs (x.cs.take i) D) ≤ Maps.size D + i)
    (fun s15 _ => n - (Lib.intOf s15).toNat)
  case atStart => exact ⟨0, rfl, Nat.zero_le _, Fr.refl _ _, Hm.out, by simp [doN]⟩
  case round =>
    obtain ⟨i, rfl, hin, hfr, hmp, hsz⟩ := hrel
    by_cases hlt : i < n
    · have R1 := Hh.out.map Hm.out hfr
      obtain ⟨u, hu, hch⟩ := HI.out i (by omega)
      have hch' : IsChg wr O x.fs.length u (x.cs[i]) := by
        obtain ⟨cl', hcl', hi'⟩ := R1.chs
        refine hch.fr hfr (fun k _ hk => ?_)
        subst hk
        rw [kd_map Hm.out]
        exact ⟨by simp, by simp⟩
      have hcl2 : wr.ownsRow 0 57 1 x.cv x.cs.length cl := ownsRow_fr Hcl.out hfr (fun g e hk => by
        have := kd_own Hcl.out e
        rw [hk, kd_map Hm.out] at this; cases this)
      obtain ⟨g, c', hg⟩ := own_some hcl2 (by omega)
      have hav : av = some ⟨g, 0, none⟩ ∧ c' = cv := by
        have := HV.out
        rw [hg] at this
        injection this with a1 a2 a3
        exact ⟨a1.symm, a3⟩
      rw [hg] at hcl2
      have cu := own_cell hcl2 i u hu
      obtain ⟨hav1, _⟩ := hav
      subst hav1
      have c1 := R1.row.cell (i := 1) (by omega)
      simp only [rc] at c1
      rw [HF.out] at c1
      have hcc := chg_call hch' b _ x.fv x.fs hmp R1.fls (Nat.le_refl _) (by unfold maxLen; omega)
      rw [HF.out] at hcc
      have hsuc := doN_succ x.fs x.cs D i (by omega)
      have hos := on_size x.fs (doN x.fs (x.cs.take i) D) (x.cs[i]) hmp.tidy
      rw [← hsuc] at hcc hos
      have q1 : decide ((i : Int) < (n : Int)) = true := by simp; omega
      have q2 : IntKind.i64.wrap ((i : Int) + 1) = ((i + 1 : Nat) : Int) := by rw [IntKind.wrap_i64]; omega
      have q3 : wrap64 ((i : Int) + 1) = ((i + 1 : Nat) : Int) := by rw [IntWalk.wrap64_in _ (by omega)]; omega
      clear hch hch' hcl2 R1 hu hmp hsuc
      rcases hcc with ⟨b1, b2, rfl, hcall⟩ | ⟨b1, b2, rfl, hcall⟩ | ⟨b1, rfl, hcall⟩
      · go_wp2_with (go_at_call 53; refine hcall.mono ?_; rintro e w2 ⟨rfl, m2, f2⟩)
        go_roundw
        case rel => exact ⟨i + 1, by simp, by omega, hfr.trans f2 (fun _ _ e => e), m2, by omega⟩
        case measure => simp [Lib.intOf]; omega
      · go_wp2_with (go_at_call 54; refine hcall.mono ?_; rintro e w2 ⟨rfl, m2, f2⟩)
        go_roundw
        case rel => exact ⟨i + 1, by simp, by omega, hfr.trans f2 (fun _ _ e => e), m2, by omega⟩
        case measure => simp [Lib.intOf]; omega
      · go_wp2_with (go_at_call 66; refine hcall.mono ?_; rintro e w2 ⟨rfl, m2, f2⟩)
        go_roundw
        case rel => exact ⟨i + 1, by simp, by omega, hfr.trans f2 (fun _ _ e => e), m2, by omega⟩
        case measure => simp [Lib.intOf]; omega
    · obtain rfl : i = n := by omega
      have q1 : decide ((i : Int) < (i : Int)) = false := by simp
      go_wp2
      go_end0
      exact ⟨rfl, hmp, hfr⟩

end Go.Proofs.Ytmpfbemdljfamaa
