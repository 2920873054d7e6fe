/- New of any lengths. -/
import Derived.Test.YtjkfmnahmbnbnaaDoorWNew
namespace Go.Proofs.YtjkfmnahmbnbnaaDoor
open Go.RowKit

set_option maxRecDepth 100000 in
set_option maxHeartbeats 1000000 in
theorem new_err (ao : Option Addr) (n c : Nat) (L : Nat → Int) (half : Bool) (w : World) (h : Ri w ao n c L) (he : er L n ≠ 0) :
    Calls Tryd.prog 39 #[.slice ao n c, .bool half] w fun e w' => e = .returned (.tuple #[.pointer none, .int .i64 (er L n)]) ∧ Below w.heap.size w w' := by
  have z64 := zero64
  have q1 : (er L n == 0) = false := by simp [he]
  have hc := checked_all ao n c L w h
  generalize er L n = x at *
  clear he
  go_enter Tryd.func39, Tryd.ntmps39
  go_wp2_with (first
    | (go_at_call 48; refine hc.mono ?_; rintro e w1 ⟨cc, rfl, _, hb⟩)
    | (refine wpList_st rfl 93 _ _ rfl w1.heap.size rfl (fun j => .int .i64 (cc j)) rfl (box_row w1 (fun _ => 0)) size64 (fun j => rfl) ?_; intro w3 h3 f3))
  go_ret2
  exact ⟨rfl, (hb.alloc hb.size _).trans (f3.below _ (by have := hb.size; simp; omega) (fun i hi e => by have := hb.size; omega))⟩

set_option maxRecDepth 100000 in
set_option maxHeartbeats 1000000 in
theorem new_part (ao : Option Addr) (n c : Nat) (L : Nat → Int) (half : Bool) (w : World) (h : Ri w ao n c L) (he : er L n = 0) (hfu : fu L n = false) (hh : half = false ∨ (half = true ∧ hv (C L n) = false)) :
    Calls Tryd.prog 39 #[.slice ao n c, .bool half] w fun e w' => e = .returned (.tuple #[.pointer none, .int .i64 2]) ∧ Below w.heap.size w w' := by
  have z64 := zero64
  have hc := checked_all ao n c L w h
  rw [he, hfu] at hc
  rcases hh with rfl | ⟨rfl, hhv⟩
  · go_enter Tryd.func39, Tryd.ntmps39
    go_wp2_with (first
      | (go_at_call 48; refine hc.mono ?_; rintro e w1 ⟨cc, rfl, hcc, hb⟩; obtain rfl := hcc rfl)
      | (refine wpList_st rfl 93 _ _ rfl w1.heap.size rfl (fun j => .int .i64 (C L n j)) rfl (box_row w1 (fun _ => 0)) size64 (fun j => rfl) ?_; intro w3 h3 f3))
    go_ret2
    exact ⟨rfl, (hb.alloc hb.size _).trans (f3.below _ (by have := hb.size; simp; omega) (fun i hi e => by have := hb.size; omega))⟩
  · go_enter Tryd.func39, Tryd.ntmps39
    go_wp2_with (first
      | (go_at_call 48; refine hc.mono ?_; rintro e w1 ⟨cc, rfl, hcc, hb⟩; obtain rfl := hcc rfl)
      | (refine wpList_st rfl 93 _ _ rfl w1.heap.size rfl (fun j => .int .i64 (C L n j)) rfl (box_row w1 (fun _ => 0)) size64 (fun j => rfl) ?_; intro w3 h3 f3; have B3 : Below w.heap.size w w3 := (hb.alloc hb.size _).trans (f3.below _ (by have := hb.size; simp; omega) (fun i hi e => by have := hb.size; omega)))
      | (refine wpList_ldW (by rfl) 93 _ rfl w1.heap.size rfl _ h3 16 (by omega) Tryd.underlying93 rfl size64 ?_)
      | (go_at_call 49; refine (half_any (C L n) _).mono ?_; rintro e w3' ⟨rfl, b3'⟩; rw [hhv]; have B3' := B3.trans (b3'.mono B3.size)))
    go_ret2
    exact ⟨rfl, B3'⟩

/-- The code of these lengths, somewhere below K. -/
def Cod (w : World) (R K : Nat) (L : Nat → Int) (n : Nat) : Prop := ∃ la lc cg sg sy M dp, IsC w R K L n la lc cg sg sy M dp

theorem Cod.keep {w w' : World} {R K : Nat} {L : Nat → Int} {n : Nat} (h : Cod w R K L n) (hb : Below K w w') : Cod w' R K L n := by
  obtain ⟨la, lc, cg, sg, sy, M, dp, h⟩ := h
  exact ⟨la, lc, cg, sg, sy, M, dp, h.keep hb⟩

theorem Cod.kw {w : World} {R K : Nat} {L : Nat → Int} {n : Nat} (h : Cod w R K L n) : K ≤ w.heap.size := by
  obtain ⟨la, lc, cg, sg, sy, M, dp, h⟩ := h
  exact h.kw

theorem Cod.ok {w : World} {R K : Nat} {L : Nat → Int} {n : Nat} (h : Cod w R K L n) : er L n = 0 := by
  obtain ⟨la, lc, cg, sg, sy, M, dp, h⟩ := h
  exact h.ok

theorem half_sum (L : Nat → Int) (n : Nat) (he : er L n = 0) : hv (C L n) = true ↔ SM L n ≤ 1 := by
  obtain ⟨_, hL, _⟩ := er_zero L n he
  rw [hv_iff, half_iff L n hL]

theorem nw_zero (L : Nat → Int) (n : Nat) (half : Bool) (h : nw L n half = 0) : er L n = 0 ∧ (fu L n = true ∨ (fu L n = false ∧ half = true ∧ SM L n ≤ 1)) := by
  unfold nw at h
  by_cases he : er L n = 0
  · rw [if_pos he] at h
    refine ⟨he, ?_⟩
    by_cases hc : fu L n = true ∨ (half = true ∧ SM L n ≤ 1)
    · rcases hc with h1 | h1
      · exact .inl h1
      · by_cases hf : fu L n = true
        · exact .inl hf
        · exact .inr ⟨by simpa using hf, h1⟩
    · rw [if_neg hc] at h; omega
  · rw [if_neg he] at h; exact absurd h he

theorem nw_other (L : Nat → Int) (n : Nat) (half : Bool) (h : nw L n half ≠ 0) : (er L n ≠ 0 ∧ nw L n half = er L n) ∨ (er L n = 0 ∧ nw L n half = 2 ∧ fu L n = false ∧ (half = false ∨ (half = true ∧ ¬ SM L n ≤ 1))) := by
  unfold nw at h ⊢
  by_cases he : er L n = 0
  · rw [if_pos he] at h ⊢
    right
    by_cases hc : fu L n = true ∨ (half = true ∧ SM L n ≤ 1)
    · rw [if_pos hc] at h; exact absurd rfl h
    · rw [if_neg hc]
      refine ⟨he, rfl, ?_, ?_⟩
      · cases hf : fu L n
        · rfl
        · exact absurd (.inl hf) hc
      · cases half
        · exact .inl rfl
        · exact .inr ⟨rfl, fun h' => hc (.inr ⟨rfl, h'⟩)⟩
  · rw [if_neg he] at h ⊢
    exact .inl ⟨he, rfl⟩

theorem new_yes (ao : Option Addr) (n c : Nat) (L : Nat → Int) (half : Bool) (w : World) (h : Ri w ao n c L) (hn : nw L n half = 0) :
    Calls Tryd.prog 39 #[.slice ao n c, .bool half] w fun e w' => ∃ R K, e = .returned (.tuple #[.pointer (some ⟨R, 0, none⟩), .int .i64 0]) ∧ Cod w' R K L n ∧ Below w.heap.size w w' := by
  obtain ⟨he, hc⟩ := nw_zero L n half hn
  obtain ⟨M, hM⟩ := Int.eq_ofNat_of_zero_le (pl_nn L n 16).1
  refine (new_go ao n c L half w h he ?_ M hM).mono ?_
  · rcases hc with h1 | ⟨h1, h2, h3⟩
    · exact .inl h1
    · exact .inr ⟨h1, h2, (half_sum L n he).2 h3⟩
  · rintro e w' ⟨R, rfl, ⟨K, la, lc, cg, sg, sy, dp, hC⟩, hb⟩
    exact ⟨R, K, rfl, ⟨la, lc, cg, sg, sy, M, dp, hC⟩, hb⟩

theorem new_no (ao : Option Addr) (n c : Nat) (L : Nat → Int) (half : Bool) (w : World) (h : Ri w ao n c L) (hn : nw L n half ≠ 0) :
    Calls Tryd.prog 39 #[.slice ao n c, .bool half] w fun e w' => e = .returned (.tuple #[.pointer none, .int .i64 (nw L n half)]) ∧ Below w.heap.size w w' := by
  rcases nw_other L n half hn with ⟨he, hx⟩ | ⟨he, hx, hfu, hh⟩
  · rw [hx]
    exact new_err ao n c L half w h he
  · rw [hx]
    refine new_part ao n c L half w h he hfu ?_
    rcases hh with h1 | ⟨h1, h2⟩
    · exact .inl h1
    · refine .inr ⟨h1, ?_⟩
      cases hq : hv (C L n)
      · rfl
      · exact absurd ((half_sum L n he).1 hq) h2

end Go.Proofs.YtjkfmnahmbnbnaaDoor
