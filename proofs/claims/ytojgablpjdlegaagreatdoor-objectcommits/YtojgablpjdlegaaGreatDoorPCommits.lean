/- ObjectCommits answers true for every commit and every tag, and changes nothing that was there: both encoders write the document's bytes or name its fault, Date is the document's, and what was written is decoded to what it was. No condition; the card ties the listed tables to the program's text (a pruned copy of the project, by the set-up). -/
import Derived.Test.YtojgablpjdlegaaGreatDoorRows
import Derived.Test.YtojgablpjdlegaaGreatDoorCards
import Derived.Test.YtojgablpjdlegaaGreatDoorTie
import Derived.WalkKit
import Derived.ProofKit
import Derived.OpenShut
import Derived.ShutString
import Derived.ChangeOld
import Derived.Below
import Derived.LaidMore
import Derived.Lay
import Derived.Stop.Joined
import Derived.SevenTiedAt
import Derived.HandedShaped
import Derived.LaidSub
import Derived.Test.YtojgablpjdlegaaGreatDoorMC15
import Derived.Test.YtojgablpjdlegaaGreatDoorMC16
namespace Go.Proofs.YtojgablpjdlegaaGreatDoor.objectCommits
open Go.ChangeShapes Go.WideShapes Go.ChangeAt Go.RowKit
open Go.ChangeMaps (open_string shut_string)
set_option linter.unusedVariables false

theorem own : ownKnob Tryz.prog.godebug = none := by kernel_rfl
theorem laidOut : laidOutB Tryz.prog = true := by kernel_rfl

def IsRow (k : IntKind) (w : World) (a : Option Addr) (len cap : Nat) (zs : List Int) : Prop :=
  (a = none ∧ len = 0 ∧ cap = 0 ∧ zs = []) ∨
  ∃ x, a = some x ∧ len ≤ cap ∧ cap ≤ maxLen ∧ zs.length = cap ∧ (∀ i, i < zs.length → w.cell? (x.add i) = some (.int k (zs.getD i 0))) ∧ ∀ n ∈ zs, (Lit.int k n).wf = true

theorem rdOf {w : World} {a : Option Addr} {len cap : Nat} {zs : List Int} (h : IsRow .u8 w a len cap zs) : Rd w a len cap (zs.take len) := by
  rcases h with ⟨rfl, rfl, rfl, rfl⟩ | ⟨x, rfl, hl, hm, hz, hc, hw⟩
  · exact Rd.nil w
  · refine ⟨by simp; omega, hl, (fun e => by cases e), fun ad had j hj => ?_, fun y hy => ?_⟩
    · cases had
      rw [hc j (by omega)]
      simp [List.getD, hj]
    · have := hw y (List.mem_of_mem_take hy)
      simp [Lit.wf] at this
      rw [show IntKind.u8.min = 0 by decide, show IntKind.u8.max = 255 by decide] at this
      omega

theorem walk (T0 : List Int) (ao0 : Option Addr) (n0 cap0 : Nat) (A0 C0 M0 : List UInt8) (dd0 : Array (List Int)) (T1 : List Int) (kk1 : Int) (N1 G1 M1 : List UInt8) (w : World) (hT0 : IsId T0) (hn0 : n0 = dd0.size) (hIs0 : Is w (.slice ao0 n0 cap0) dd0) (hT1 : IsId T1) (hg : Gs w) :
    Calls Tryz.prog 6 #[cmv T0 (.slice ao0 n0 cap0) A0 C0 M0, tmv T1 kk1 N1 G1 M1] w fun e w' => e = .returned (.bool true) ∧ Below w.heap.size w w' :=
  commits_law T0 ao0 n0 cap0 A0 C0 M0 T1 kk1 N1 G1 M1 w hg dd0 hn0 hIs0 hT0 hT1

theorem rowTwo : Rows.objectCommitsRow.laid.filter (fun x => x.1 == "internal/strconv.uint64pow10" || x.1 == "trove/object.words") = two := by kernel_rfl

set_option maxRecDepth 100000 in
theorem lifted (os : Os) (started : os.Started) (H : Type) (enc : TypeId × Value → H) :
    ReturnsInHanded {} Tryz.checked os 6 .any (fun w args => (Rows.objectCommitsSpec.pre enc Tryz.prog Tryz.f6 [] false w args ∧ laidMetH Tryz.prog Rows.objectCommitsRow.laid w) ∧ sizedMet enc Tryz.prog Tryz.f6 (OpenSpec.ofChange Rows.objectCommitsSpec) false w args) (Rows.objectCommitsSpec.post enc Tryz.prog Tryz.f6 false true false false) := by
  refine handed_laid_shaped (C := Tryz.checked) (X := fun w _ => laidMetH Tryz.prog Rows.objectCommitsRow.laid w) (fun _ _ _ hh h => h.of_heap hh) own started (by kernel_rfl) Tryz.func6
    (ChangeSpec.witness_shaped (enc := enc) (C := Tryz.checked) (os := os) (X := fun w _ => laidMetH Tryz.prog Rows.objectCommitsRow.laid w) false (World.laidAll Tryz.prog os Rows.objectCommitsRow.laid) #[(row (cf z20 nlv [] [] []) 24), (row (tf z20 0 [] [] []) 24)] 8 (World.laidAll_os _ _ _) (World.shaped_of_ZipB (by kernel_rfl) (by kernel_rfl)) (by kernel_rfl) (by kernel_rfl) (by kernel_rfl) (by rw [MakeChecks.laidMetH_plain _ _ _ (by kernel_rfl)]; exact laidMet_laidAll _ (by kernel_rfl) (by kernel_rfl))) ?_
  intro W base args ds gs before hval0 hW hL hsh
  have hg : Gs W := gs_of_laid rowTwo hL hsh
  have hval : ∀ (j : Nat) t v, Tryz.f6.params[j]? = some t → args[j]? = some v → Value.okWide Tryz.prog W .any base t v := hval0
  have hW' := hW
  obtain ⟨p, q, hA0, hV, rfl, hfz, hnd⟩ := hW
  have hA : DataW.TrodAll enc Tryz.prog W 0 (fun _ => true) true Tryz.f6.params.toList args.toList ds p := hA0
  rw [Tryz.params6] at hA hval
  obtain ⟨v0, vs0, d0, ds0, p0, q0, hargs, rfl, rfl, h0, r0⟩ := trodAll_cons hA
  obtain ⟨v1, vs1, d1, ds1, p1, q1, rfl, rfl, rfl, h1, r1⟩ := trodAll_cons r0
  obtain ⟨rfl, rfl, rfl⟩ := trodAll_nil r1
  obtain rfl : args = #[v0, v1] := by cases args; simp_all
  obtain ⟨rfl, rfl⟩ := trodVars_none hV
  have k0 := h0
  have lt0 : ∀ x ∈ p0, x.block < W.heap.size := by obtain ⟨m, hm⟩ := k0; exact DataW.trod_lt m _ _ _ hm
  obtain ⟨T0, ao0, n0, cap0, A0, C0, M0, dd0, rfl, hT0, hn0, hIs0⟩ := open_commit (hval 0 47 v0 rfl rfl) h0
  have k1 := h1
  have lt1 : ∀ x ∈ p1, x.block < W.heap.size := by obtain ⟨m, hm⟩ := k1; exact DataW.trod_lt m _ _ _ hm
  obtain ⟨T1, kk1, N1, G1, M1, rfl, hT1⟩ := open_tag (hval 1 56 v1 rfl rfl) h1
  clear hA0 hval0 hL hsh
  simp only [List.append_nil] at hW'
  refine (walk T0 ao0 n0 cap0 A0 C0 M0 dd0 T1 kk1 N1 G1 M1 W hT0 hn0 hIs0 hT1 hg).mono fun e W' ⟨he, bel⟩ => ?_
  subst he
  exact ⟨_, rfl, _, _, _, [], _, [], hW', trodAll_mk1 (shut_bool Tryz.underlying4 _), (trodAll_cons_mk (Below.trod laidOut (by kernel_rfl) (of_decide_eq_true (by kernel_rfl)) k0 bel lt0) (trodAll_cons_mk (Below.trod laidOut (by kernel_rfl) (of_decide_eq_true (by kernel_rfl)) k1 bel lt1) trodAll_mk0)), rfl, bel.frame _, fun h => by cases h⟩

theorem over : Rows.objectCommitsRow.holds Tryz.pinned (OpenSpec.ofChange Rows.objectCommitsSpec) :=
  OpenClaim.holds_of_wide 6 Tryz.f6 rfl rfl rfl rfl rfl rfl rfl ⟨rfl, rfl, rfl, rfl, rfl⟩ rfl rfl rfl rfl rfl (by kernel_rfl) Tryz.func6 (by kernel_rfl)
    (of_decide_eq_true (by kernel_rfl)) (by unfold Func.isWrapper; first | (rw [if_pos (by decide +kernel)]; kernel_rfl) | (rw [if_neg (by decide +kernel)]; exact ⟨rfl, rfl⟩))
    (fun os started H enc _ => lifted os started H enc)

end Go.Proofs.YtojgablpjdlegaaGreatDoor.objectCommits
namespace Go.Proofs.YtojgablpjdlegaaGreatDoor
theorem objectCommits_row_holds : Rows.ObjectCommitsSaid := objectCommits.over

theorem objectCommits_holds : Rows.ObjectCommitsCardSaid :=
  Claim7.holds_tied_plain_at .later [] [.data, .data, .data, .data, .sentinel, .sentinel, .data, .data, .pinned] true (true, "ed1e80f8790e3448e0682cf027e2477f674538919d223a6c7eec5847f700f31e") true
    objectCommits_row_holds (fun _ h => by cases h) (by kernel_rfl) (fun _ h => by cases h) objectCommits_row_tie rfl ⟨rfl, rfl⟩ (by kernel_rfl) rfl
    (fun f fn hf hfn => by
      obtain rfl : f = 6 := Option.some.inj ((show Tryz.prog.funcNamed Rows.objectCommitsRow.func = some 6 by kernel_rfl).symm.trans hf) |>.symm
      obtain rfl : fn = Tryz.f6 := (Option.some.inj (Tryz.func6.symm.trans hfn)).symm
      exact ⟨by kernel_rfl, fun j t ht => by
        rw [Tryz.params6] at ht
        have hm : t ∈ [47, 56] := by simpa using Array.mem_of_getElem? ht
        have hall : ([47, 56].all fun u => !Tryz.prog.wantsStandIn u) = true := by kernel_rfl
        exact (show Tryz.prog.wantsStandIn t = false by simpa using List.all_eq_true.1 hall t hm)⟩)
    (by kernel_rfl)
#print axioms objectCommits_holds
end Go.Proofs.YtojgablpjdlegaaGreatDoor
