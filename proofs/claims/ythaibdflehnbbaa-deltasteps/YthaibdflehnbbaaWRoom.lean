/- withRoom: what it hands back. -/
import Derived.Test.YthaibdflehnbbaaHelp
namespace Go.Proofs.Ythaibdflehnbbaa
open Go.RowKit

set_option maxHeartbeats 400000 in
theorem withRoom_any (ao : Option Addr) (n c m : Nat) (xs : List Int) (w : World) (h : Rd w ao n c xs) (hn : n ≤ 140737488351232) (hm : m ≤ 1000) :
    Calls Try.prog 39 #[.slice ao n c, .int .i64 m] w fun e w' => e = .returned (.slice (some ⟨w.heap.size, 0, none⟩) n (n + m)) ∧
      w'.ownsRow w.heap.size 5 1 (.slice (some ⟨w.heap.size, 0, none⟩) n (n + m)) n (xs.map (Value.int .u8)) ∧ Below w.heap.size w w' := by
  obtain ⟨i0, hi, hz0, hz1, hz2⟩ := info_parts Try.info5
  have hcells := h.cellsOf
  have hnone := h.nul
  have hlen := h.len
  clear h
  go_enter Try.func39, Try.ntmps39
  go_wp2_with (first
    | (at_make; refine wpList_make_own _ rfl _ _ 22 rfl w.heap.size 5 i0 (.int .u8 0) 1 Try.underlying22 hi hz0 hz1 _ _ _ (n + m) rfl rfl (by omega) (by rw [hz2]; omega) (by unfold maxLen; omega) (Nat.le_refl _) ?_; intro w1 hown hgrow)
    | (at_builtin; refine wpList_append_fits_any _ rfl _ _ 22 rfl w.heap.size 5 i0 1 Try.underlying22 hi hz1 w.heap.size 0 (n + m) [] rfl hown ao n c (xs.map (Value.int .u8)) rfl (by simpa using hlen) hnone ?_ (ints_oneCell _ _) (by omega) ?_))
  · have hb : Below w.heap.size w w1 := (Below.refl _ _).grown hgrow (Nat.le_refl _) (fun k hk => by cases hk)
    intro ad had j u hu
    have hc := hcells ad had j u hu
    rw [hb.cell (World.block_lt_of_cell? w _ hc)]
    exact hc
  · intro w2 hown2 hgrow2
    have hb : Below w.heap.size w w1 := (Below.refl _ _).grown hgrow (Nat.le_refl _) (fun k hk => by cases hk)
    have hb2 : Below w.heap.size w w2 := hb.grown hgrow2 hb.size (fun k hk => by cases hk; exact Nat.le_refl _)
    clear hown hgrow hgrow2 hb hcells hnone
    go_wp2
    go_ret
    exact ⟨rfl, hown2, hb2⟩

end Go.Proofs.Ythaibdflehnbbaa
