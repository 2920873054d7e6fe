/- Parse. -/
import Derived.Test.YtmjcikomcnokkaaDoorWParse
namespace Go.Proofs.YtmjcikomcnokkaaDoor
open Go.RowKit Go.Shelf

theorem full_self (s : List Int) (f : Int) (h : s.length = 40) : full s f = s := by unfold full; rw [h]; simp

set_option maxRecDepth 100000 in
set_option maxHeartbeats 4000000 in
theorem parse_any (s : ByteArray) (w : World) (hs : s.size ≤ 9223372036854775807) : Calls Tryd.prog 9 #[.string s] w fun e w' => e = .returned (.tuple #[idv (par (ns s)).1, .int .i64 (par (ns s)).2]) ∧ Below w.heap.size w w' := by
  have r1 := z_row w 23
  have HB : Hid (Below w.heap.size w (w.alloc (Obj.cells zcs 23))) := new_below _ _
  by_cases hl : s.size = 40
  · have has := allSigns_any s (w.alloc (Obj.cells zcs 23)) hs
    by_cases hS : ∀ c ∈ ns s, isS c
    · have e : par (ns s) = (pr (ns s), 0) := if_pos ⟨by rw [ns_len]; exact hl, hS⟩
      have hp := fun W => padded_any s 48 W (by omega) hS (by unfold isS; omega)
      rw [full_self _ _ (by rw [ns_len]; exact hl)] at hp
      have hi0 := fun W => sgs_at .i64 0 (by omega) (by omega) W
      rw [show sg 0 = 48 from rfl] at hi0
      rw [decide_eq_true hS] at has
      rw [e]
      clear e hS
      go_enter Tryd.func9, Tryd.ntmps9
      go_wp2_with (first
        | (go_at_call 26; refine has.mono ?_; rintro e w1 ⟨rfl, b1⟩; have q1 := rowIs_fr r1 (Fr.ofBelow (P := fun _ => False) b1) (fun h => h); have B1 : Hid (Below w.heap.size w w1) := HB.out.trans (b1.mono (by simp)); clear b1 r1)
        | (go_at_call 27; refine (hp _).mono ?_; rintro e w2 ⟨rfl, b2⟩; have q2 := rowIs_fr q1 (Fr.ofBelow (P := fun _ => False) b2) (fun h => h); have B2 : Hid (Below w.heap.size w w2) := B1.out.trans (b2.mono B1.out.size); clear b2 q1)
        | (refine wpList_st rfl 23 _ _ rfl w.heap.size rfl (cl (pr (ns s))) rfl q2 size23 (fun j => rfl) ?_; intro w4 h4 f4; clear q2))
      refine bodyPost_ret (results_two rfl _ rfl h4 Tryd.underlying23 rfl size23) rfl ⟨rfl, ?_⟩
      exact st_below B2.out f4
    · have e : par (ns s) = (z20, 2) := if_neg (fun h => hS h.2)
      rw [decide_eq_false hS] at has
      rw [e]
      clear e hS
      go_enter Tryd.func9, Tryd.ntmps9
      go_wp2_with (first
        | (go_at_call 26; refine has.mono ?_; rintro e w1 ⟨rfl, b1⟩; have q1 := rowIs_fr r1 (Fr.ofBelow (P := fun _ => False) b1) (fun h => h); have B1 : Hid (Below w.heap.size w w1) := HB.out.trans (b1.mono (by simp)); clear b1 r1)
        | (refine wpList_st rfl 23 _ _ rfl w.heap.size rfl (cl z20) rfl q1 size23 (fun j => rfl) ?_; intro w4 h4 f4; clear q1))
      refine bodyPost_ret (results_two rfl _ rfl h4 Tryd.underlying23 rfl size23) rfl ⟨rfl, ?_⟩
      exact st_below B1.out f4
  · have e : par (ns s) = (z20, 2) := if_neg (fun h => hl (by rw [← ns_len]; exact h.1))
    rw [e]
    clear e
    go_enter Tryd.func9, Tryd.ntmps9
    go_wp2_with (first
      | (refine wpList_st rfl 23 _ _ rfl w.heap.size rfl (cl z20) rfl r1 size23 (fun j => rfl) ?_; intro w4 h4 f4; clear r1))
    refine bodyPost_ret (results_two rfl _ rfl h4 Tryd.underlying23 rfl size23) rfl ⟨rfl, ?_⟩
    exact st_below HB.out f4

end Go.Proofs.YtmjcikomcnokkaaDoor
