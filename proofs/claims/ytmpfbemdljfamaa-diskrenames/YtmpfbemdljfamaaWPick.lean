/- Picks. -/
import Derived.Test.YtmpfbemdljfamaaWSync
namespace Go.Proofs.Ytmpfbemdljfamaa
open Go.RowKit Go.Maps

/-- The next pick, of most + 1 choices. -/
def pick1 (ps : List Int) (most : Nat) : Nat × List Int :=
  match ps with
  | [] => (0, [])
  | p :: t => ((p % ((most : Int) + 1)).toNat, t)

theorem pick1_le (ps : List Int) (most : Nat) : (pick1 ps most).1 ≤ most := by
  unfold pick1
  split
  · exact Nat.zero_le _
  · rename_i p t
    have h1 := Int.emod_nonneg p (show ((most : Int) + 1) ≠ 0 by omega)
    have h2 := Int.emod_lt_of_pos p (show (0 : Int) < (most : Int) + 1 by omega)
    show (p % ((most : Int) + 1)).toNat ≤ most
    omega

theorem pick1_len (ps : List Int) (most : Nat) : (pick1 ps most).2.length ≤ ps.length := by
  unfold pick1
  split
  · exact Nat.le_refl _
  · simp

/-- Picks in a box of their own. -/
structure Pik (w : World) (O : Nat → Prop) (pb : Nat) (ps : List Int) : Prop where
  ex : ∃ ao n c, w.rowIs pb 23 1 (fun _ => .slice ao n c) ∧ Ri w ao n c (fun j => ps.getD j 0) ∧ ps.length = n ∧ (∀ ad, ao = some ad → 0 < n → ¬ O ad.block ∧ ad.block ≠ pb)
  nb : ¬ O pb

theorem Pik.fr {w w' : World} {O : Nat → Prop} {pb : Nat} {ps : List Int} (h : Pik w O pb ps) (hf : Fr O w w') : Pik w' O pb ps := by
  obtain ⟨ao, n, c, h1, h2, h3, h4⟩ := h.ex
  exact ⟨⟨ao, n, c, rowIs_fr h1 hf h.nb, h2.fr hf (fun ad e hn => (h4 ad e hn).1), h3, h4⟩, h.nb⟩

theorem Pik.keep {w w' : World} {O : Nat → Prop} {pb : Nat} {ps : List Int} (h : Pik w O pb ps) (hf : Below w.heap.size w w') : Pik w' O pb ps := h.fr (Fr.ofBelow hf)

theorem picker_any (O : Nat → Prop) (ao : Option Addr) (n c : Nat) (ps : List Int) (w : World) (hr : Ri w ao n c (fun j => ps.getD j 0)) (hn : ps.length = n) (na : ∀ ad, ao = some ad → 0 < n → ¬ O ad.block) (hO : ∀ b, O b → b < w.heap.size) :
    Calls Try.prog 38 #[.slice ao n c] w fun e w' => ∃ pb, e = .returned (.func (.func 58) #[] #[.pointer (some ⟨pb, 0, none⟩)]) ∧ w.heap.size ≤ pb ∧ Pik w' O pb ps ∧ Below w.heap.size w w' := by
  have r1 := World.rowIs_alloc w #[.slice ao n c] 23 (fun _ => .slice ao n c) (fun i hi => by simp at hi; subst hi; rfl)
  have hb := new_below w (.cells #[.slice ao n c] 23)
  have fin : Pik (w.alloc (.cells #[.slice ao n c] 23)) O w.heap.size ps := by
    refine ⟨⟨ao, n, c, r1, hr.keep hb, hn, fun ad e h0 => ⟨na ad e h0, ?_⟩⟩, fun h => ?_⟩
    · have := hr.blk ad e h0
      omega
    · have := hO _ h
      omega
  clear r1
  go_enter Try.func38, Try.ntmps38
  go_wp2
  go_ret
  exact ⟨_, rfl, Nat.le_refl _, fin, hb⟩

theorem pick_none (O : Nat → Prop) (pb : Nat) (most : Nat) (w : World) (h : Pik w O pb []) :
    Calls Try.prog 58 #[.int .i64 most, .pointer (some ⟨pb, 0, none⟩)] w fun e w' => e = .returned (.int .i64 0) ∧ w' = w := by
  obtain ⟨ao, n, c, h1, h2, h3, h4⟩ := h.ex
  have c0 := h1.cell (i := 0) (by omega)
  simp at h3
  subst h3
  clear h h1 h2 h4
  go_enter Try.func58, Try.ntmps58
  go_wp2
  go_ret
  exact ⟨rfl, rfl⟩

theorem tmod_emod (p m : Int) (hm : 0 < m) : (if p.tmod m < 0 then p.tmod m + m else p.tmod m) = p % m := by
  have h1 := Int.emod_nonneg p (show m ≠ 0 by omega)
  have h2 := Int.emod_lt_of_pos p hm
  rw [Int.tmod_eq_emod]
  split <;> split <;> omega

set_option maxRecDepth 100000 in
set_option maxHeartbeats 1000000 in
theorem pick_some (O : Nat → Prop) (pb : Nat) (p : Int) (t : List Int) (most : Nat) (w : World) (h : Pik w O pb (p :: t)) (hm : most ≤ 140737488351232) :
    Calls Try.prog 58 #[.int .i64 most, .pointer (some ⟨pb, 0, none⟩)] w fun e w' => e = .returned (.int .i64 (p % ((most : Int) + 1))) ∧ Pik w' O pb t ∧ Fr (fun k => k = pb) w w' := by
  have Hh : Hid (Pik w O pb (p :: t)) := h
  obtain ⟨ao, n, c, h1, h2, h3, h4⟩ := h.ex
  have c0 := h1.cell (i := 0) (by omega)
  have f0 := h1.frozen 0
  simp only [List.length_cons] at h3
  obtain ⟨b, off, rfl, hcell⟩ := h2.plain (by omega)
  have d0 := hcell 0 (by omega)
  simp at d0
  have hle := h2.le
  have he := tmod_emod p ((most : Int) + 1) (by omega)
  have l1 := Int.emod_nonneg p (show ((most : Int) + 1) ≠ 0 by omega)
  have l2 := Int.emod_lt_of_pos p (show (0 : Int) < (most : Int) + 1 by omega)
  have q1 : IntKind.i64.wrap ((most : Int) + 1) = most + 1 := by rw [IntKind.wrap_i64]; omega
  have q1' : wrap64 ((most : Int) + 1) = most + 1 := IntWalk.wrap64_in _ (by omega)
  obtain ⟨a2, ha2⟩ : ∃ a2, a2 = (if c = 1 then (some ⟨b, off, none⟩ : Option Addr) else some ⟨b, off + 1, none⟩) := ⟨_, rfl⟩
  have hsl : ∀ W, (Instr.slice 23 (.slice (some ⟨b, off, none⟩) n c) (some (.int .i64 1)) none none).run Try.prog W = .ok (.slice a2 t.length (c - 1)) W := fun W => by
    have hz : ∀ w, (sizeOf 3).run Try.prog w = .ok 1 w := fun w => by simp [go_sem]
    have e2 : (0 : Int) ≤ 1 ∧ (1 : Int) ≤ (n : Int) := by omega
    have e1 : 0 ≤ (n : Int) ∧ (n : Int) ≤ (c : Int) := by omega
    have e4 : n - 1 = t.length := by omega
    unfold Instr.slice Instr.sliceBounds
    simp only [run_underlying Try.underlying23, Instr.sliceBound, asIntOf, hz, Result.andThen_ok, Sem.run_bind, Sem.run_pure, if_pos e2, Option.isSome_none, Nat.mul_one]
    rw [show ((1 : Int).toNat) = 1 from rfl, e4, ha2]
    congr 2
  have hr2 : Ri w a2 t.length (c - 1) (fun j => t.getD j 0) := by
    refine ⟨by omega, ?_, ?_⟩
    · intro e
      rw [ha2] at e
      split at e <;> cases e
    · intro ad e j hj
      have : a2 = some ⟨b, off + 1, none⟩ := by rw [ha2, if_neg (by omega)]
      rw [this] at e
      cases e
      rw [Addr.add_lit, Nat.add_assoc, hcell (1 + j) (by omega), Nat.add_comm 1 j]
      rfl
  have hbk : ∀ ad, a2 = some ad → ad.block = b := by
    intro ad e
    rw [ha2] at e
    split at e <;> cases e <;> rfl
  have h4' := h4 _ rfl (by omega)
  have hs2 := set_row (g := fun _ => .slice a2 t.length (c - 1)) h1 0 (.slice a2 t.length (c - 1)) (by
    intro j hj
    have : j = 0 := by omega
    subst this
    rfl)
  have hf2 := set_fr w pb 0 (.slice a2 t.length (c - 1))
  have fin : Pik (w.setCell ⟨pb, 0, none⟩ (.slice a2 t.length (c - 1))) O pb t :=
    ⟨⟨a2, t.length, c - 1, hs2, hr2.fr hf2 (fun ad e _ hk => by rw [hbk ad e] at hk; exact h4'.2 hk), rfl, fun ad e _ => by rw [hbk ad e]; exact h4'⟩, Hh.out.nb⟩
  have q0 : ((n : Int) == 0) = false := by simp; omega
  have q0' : ¬ n = 0 := by omega
  have q00 : 0 < n := by omega
  have t1 : -(most : Int) - 1 ≤ p.tmod ((most : Int) + 1) ∧ p.tmod ((most : Int) + 1) ≤ most := by
    split at he <;> omega
  have q5 : ((most : Int) + 1 == 0) = false := by simp; omega
  have q5' : ¬ (most : Int) + 1 = 0 := by omega
  have q6 : IntKind.i64.wrap (p.tmod ((most : Int) + 1)) = p.tmod ((most : Int) + 1) := by rw [IntKind.wrap_i64]; omega
  have q6' : wrap64 (p.tmod ((most : Int) + 1)) = p.tmod ((most : Int) + 1) := IntWalk.wrap64_in _ (by omega)
  have q7 : IntKind.i64.wrap (p.tmod ((most : Int) + 1) + ((most : Int) + 1)) = p.tmod ((most : Int) + 1) + ((most : Int) + 1) := by rw [IntKind.wrap_i64]; omega
  have q7' : wrap64 (p.tmod ((most : Int) + 1) + ((most : Int) + 1)) = p.tmod ((most : Int) + 1) + ((most : Int) + 1) := IntWalk.wrap64_in _ (by omega)
  clear h h1 h2 hcell hr2 hbk hs2 ha2 h4 h3
  by_cases hneg : p.tmod ((most : Int) + 1) < 0
  · rw [if_pos hneg] at he
    rw [← he]
    have q8 : decide (p.tmod ((most : Int) + 1) < 0) = true := by simpa using hneg
    clear he l1 l2
    go_enter Try.func58, Try.ntmps58
    go_wp2
    go_ret
    exact ⟨rfl, fin, hf2⟩
  · rw [if_neg hneg] at he
    rw [← he]
    have q8 : decide (p.tmod ((most : Int) + 1) < 0) = false := by simpa using hneg
    clear he l1 l2
    go_enter Try.func58, Try.ntmps58
    go_wp2
    go_ret
    exact ⟨rfl, fin, hf2⟩

/-- The next pick, whatever there is. -/
theorem pick_any (O : Nat → Prop) (pb : Nat) (ps : List Int) (most : Nat) (w : World) (h : Pik w O pb ps) (hm : most ≤ 140737488351232) :
    Calls Try.prog 58 #[.int .i64 most, .pointer (some ⟨pb, 0, none⟩)] w fun e w' => e = .returned (.int .i64 (pick1 ps most).1) ∧ Pik w' O pb (pick1 ps most).2 ∧ Fr (fun k => k = pb) w w' := by
  cases ps with
  | nil =>
    refine (pick_none O pb most w h).mono ?_
    rintro e w' ⟨rfl, rfl⟩
    exact ⟨rfl, h, Fr.refl _ _⟩
  | cons p t =>
    refine (pick_some O pb p t most w h hm).mono ?_
    rintro e w' ⟨rfl, h1, h2⟩
    refine ⟨?_, h1, h2⟩
    have l1 := Int.emod_nonneg p (show ((most : Int) + 1) ≠ 0 by omega)
    show Ending.returned (.int .i64 (p % ((most : Int) + 1))) = .returned (.int .i64 ((p % ((most : Int) + 1)).toNat : Int))
    rw [Int.toNat_of_nonneg l1]

end Go.Proofs.Ytmpfbemdljfamaa
