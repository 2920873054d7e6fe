/- bytes.Clone. -/
import Derived.Test.YthaibdflehnbbaaWRoom
namespace Go.Proofs.Ythaibdflehnbbaa
open Go.RowKit

set_option maxHeartbeats 400000 in
theorem clone_any (ao : Option Addr) (n c : Nat) (xs : List Int) (w : World) (h : Rd w ao n c xs) (hn : n ≤ 140737488351232) :
    Calls Try.prog 52 #[.slice ao n c] w fun e w' => ∃ ao' c', e = .returned (.slice ao' n c') ∧ Rd w' ao' n c' xs ∧ (∀ ad, ao' = some ad → w.heap.size ≤ ad.block) ∧ Below w.heap.size w w' := by
  obtain ⟨i0, hi, hz0, hz1, hz2⟩ := info_parts Try.info5
  cases ao with
  | none =>
    obtain ⟨rfl, rfl⟩ := h.nul rfl
    have hq := fun w => Lib.run_eql_slice_nil (P := Try.prog) w 22 5 none 0 0 0 0 Try.underlying22
    go_enter Try.func52, Try.ntmps52
    go_wp2
    go_ret
    exact ⟨none, 0, rfl, h, (fun ad had => by cases had), Below.refl _ _⟩
  | some ad =>
    have hcells := h.cellsOf ad rfl
    have hl := h.len
    have hbyt := h.byt
    clear h
    have hq := fun w => Lib.run_eql_slice_nil (P := Try.prog) w 22 5 (some ad) n c 0 0 Try.underlying22
    go_enter Try.func52, Try.ntmps52
    go_wp2_with (at_builtin; refine wpList_append_own _ rfl _ _ 22 rfl w.heap.size 5 i0 (.int .u8 0) 1 1 Try.underlying22 hi hz0 hz1 hz2 rfl (by decide) _ 0 [] rfl ?_ ad n c (xs.map (Value.int .u8)) rfl ?_ ?_ (ints_oneCell _ _) ?_ ?_ ?_ ?_)
    · exact World.ownsRow_lit (base := w.heap.size) (e := 5) (size := 1) w #[] 0 (Nat.le_refl _) (by unfold maxLen; omega) rfl
    · simpa using hl
    · intro j u hu
      have hc := hcells j u hu
      rw [((Below.refl _ _).alloc (Nat.le_refl _) _ : Below w.heap.size w (w.alloc (.cells #[] 5))).cell (World.block_lt_of_cell? w _ hc)]
      exact hc
    · unfold maxLen; omega
    · omega
    · simp
    · intro v' w2 hown2 hgrow2 hv'
      have hb2 : Below w.heap.size w w2 := ((Below.refl _ _).alloc (Nat.le_refl _) _).grown hgrow2 (by simp) (fun q hq => by cases hq; exact Nat.le_refl _)
      obtain ⟨g, cap, rfl, hg⟩ : ∃ g cap, v' = .slice (some ⟨g, 0, none⟩) n cap ∧ w.heap.size ≤ g := by
        rcases hown2.2 with ⟨h', _⟩ | ⟨g, cap, cur, h', hb, _⟩
        · exact absurd h' hv'
        · exact ⟨g, cap, h', hb⟩
      have hr := Rd.ofOwn hown2 hbyt
      clear hown2 hgrow2 hcells hv'
      go_wp2
      go_ret
      exact ⟨_, _, rfl, hr, (fun a ha => by cases ha; exact hg), hb2⟩

end Go.Proofs.Ythaibdflehnbbaa
