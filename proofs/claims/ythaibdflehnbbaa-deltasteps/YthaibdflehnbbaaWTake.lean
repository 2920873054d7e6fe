/- Left, At, Err, take. -/
import Derived.Test.YthaibdflehnbbaaWNew
import Derived.Test.YthaibdflehnbbaaWRev
namespace Go.Proofs.Ythaibdflehnbbaa
open Go.RowKit

theorem drew_below (w : World) : Below w.heap.size w w.drew := (Below.refl _ _).drew

set_option maxHeartbeats 400000 in
theorem left_ok (R : Nat) (ao : Option Addr) (n c : Nat) (xs : List Int) (p : Nat) (w : World) (h : IsR w R ao n c xs p 0) :
    Calls Try.prog 47 #[.pointer (some ⟨R, 0, none⟩)] w fun e w' => e = .returned (.int .i64 ((n : Int) - p)) ∧ w' = w.drew := by
  have h1 := h.row
  have h2 := h.pos
  have h3 := h.err
  have h4 := h.le
  have h5 := h.lim
  clear h
  go_enter Try.func47, Try.ntmps47
  go_wp2
  go_region
  go_wp2
  go_ret
  exact ⟨rfl, rfl⟩

theorem left_bad (R : Nat) (ao : Option Addr) (n c : Nat) (xs : List Int) (p : Nat) (er : Int) (w : World) (h : IsR w R ao n c xs p er) (he : er ≠ 0) :
    Calls Try.prog 47 #[.pointer (some ⟨R, 0, none⟩)] w fun e w' => e = .returned (.int .i64 0) ∧ w' = w := by
  have h3 := h.err
  have he' : (er != 0) = true := by simp [he]
  clear h
  go_enter Try.func47, Try.ntmps47
  go_wp2
  go_ret
  exact ⟨rfl, rfl⟩

theorem err_any (R : Nat) (ao : Option Addr) (n c : Nat) (xs : List Int) (p : Nat) (er : Int) (w : World) (h : IsR w R ao n c xs p er) :
    Calls Try.prog 51 #[.pointer (some ⟨R, 0, none⟩)] w fun e w' => e = .returned (.int .i64 er) ∧ w' = w := by
  have h2 := h.err
  clear h
  go_enter Try.func51, Try.ntmps51
  go_wp2
  go_ret
  exact ⟨rfl, rfl⟩

theorem take_bad (R : Nat) (ao : Option Addr) (n c : Nat) (xs : List Int) (p : Nat) (er m : Int) (w : World) (h : IsR w R ao n c xs p er) (he : er ≠ 0) :
    Calls Try.prog 61 #[.pointer (some ⟨R, 0, none⟩), .int .i64 m] w fun e w' => e = .returned (.slice none 0 0) ∧ w' = w := by
  have h3 := h.err
  have he' : (er != 0) = true := by simp [he]
  clear h
  go_enter Try.func61, Try.ntmps61
  go_wp2_with fail
  go_ret
  exact ⟨rfl, rfl⟩

set_option maxHeartbeats 400000 in
theorem take_neg (R : Nat) (ao : Option Addr) (n c : Nat) (xs : List Int) (p : Nat) (m : Int) (w : World) (h : IsR w R ao n c xs p 0) (hm : m < 0) :
    Calls Try.prog 61 #[.pointer (some ⟨R, 0, none⟩), .int .i64 m] w fun e w' => e = .returned (.slice none 0 0) ∧ w' = w.setCell ⟨R, 2, none⟩ (.int .i64 3) := by
  have h3 := h.err
  have h2 := h.f2
  clear h
  go_enter Try.func61, Try.ntmps61
  go_wp2_with fail
  go_ret
  exact ⟨rfl, rfl⟩

set_option maxHeartbeats 400000 in
theorem take_short (R : Nat) (ao : Option Addr) (n c : Nat) (xs : List Int) (p : Nat) (m : Int) (w : World) (h : IsR w R ao n c xs p 0) (hm : 0 ≤ m) (hs : (n : Int) - p < m) :
    Calls Try.prog 61 #[.pointer (some ⟨R, 0, none⟩), .int .i64 m] w fun e w' => e = .returned (.slice none 0 0) ∧ w' = w.drew.setCell ⟨R, 2, none⟩ (.int .i64 3) := by
  have h3 := h.err
  have h2 := h.f2
  go_enter Try.func61, Try.ntmps61
  go_wp2_with (go_at_call 47; refine (left_ok R ao n c xs p w h).mono ?_; rintro e w1 ⟨rfl, rfl⟩)
  go_ret
  exact ⟨rfl, rfl⟩

set_option maxHeartbeats 800000 in
theorem take_yes (R : Nat) (ao : Option Addr) (n c : Nat) (xs : List Int) (p m : Nat) (w : World) (h : IsR w R ao n c xs p 0) (hs : p + m ≤ n) :
    Calls Try.prog 61 #[.pointer (some ⟨R, 0, none⟩), .int .i64 m] w fun e w' => e = .returned (.slice (if c = p then ao else Option.map (fun x => x.add p) ao) m (c - p)) ∧
      w' = (w.setCell ⟨R, 1, none⟩ (.int .i64 (p + m : Nat))).drew.drew := by
  have h1 := h.row
  have h2 := h.pos
  have h3 := h.err
  have h4 := h.f1
  have h5 := h.lim
  have h6 := h.rd.le
  by_cases hc : c = p
  · obtain rfl : m = 0 := by omega
    obtain rfl : n = c := by omega
    subst hc
    rw [if_pos rfl]
    go_enter Try.func61, Try.ntmps61
    go_wp2_with (go_at_call 47; refine (left_ok R ao _ _ xs _ w h).mono ?_; rintro e w1 ⟨rfl, rfl⟩)
    go_region
    go_wp2
    go_ret
    exact ⟨by simp, by simp⟩
  · rw [if_neg hc]
    go_enter Try.func61, Try.ntmps61
    go_wp2_with (go_at_call 47; refine (left_ok R ao n c xs p w h).mono ?_; rintro e w1 ⟨rfl, rfl⟩)
    go_region
    go_wp2
    go_ret
    exact ⟨by simp, by simp⟩

/-- What is taken, how many were taken then, and the fault then. -/
def tk (xs : List Int) (p : Nat) (er m : Int) : List Int × Nat × Int :=
  if er ≠ 0 then ([], p, er) else if m < 0 ∨ (xs.length : Int) - p < m then ([], p, 3) else ((xs.drop p).take m.toNat, p + m.toNat, 0)

theorem IsR.setPos {w : World} {R : Nat} {ao : Option Addr} {n c : Nat} {xs : List Int} {p : Nat} {er : Int} (h : IsR w R ao n c xs p er) (q : Nat) (hq : q ≤ n) :
    IsR (w.setCell ⟨R, 1, none⟩ (.int .i64 q)) R ao n c xs q er ∧ w.grownBy (w.setCell ⟨R, 1, none⟩ (.int .i64 q)) (some R) := by
  have hg : w.grownBy (w.setCell ⟨R, 1, none⟩ (.int .i64 q)) (some R) :=
    ⟨rfl, rfl, rfl, by simp [World.setCell], fun k _ hk => Below.heap_setCell _ _ _ _ (by intro e; exact hk (by rw [e]))⟩
  have h1 := h.row
  have h2 := h.pos
  have h3 := h.err
  have h4 := h.f1
  have h5 := h.f2
  exact ⟨⟨(World.cell?_setCell_other _ _ _ _ (by simp)).trans h1, World.cell?_setCell_same _ _ _ h2, (World.cell?_setCell_other _ _ _ _ (by simp)).trans h3, by simp [h4], by simp [h5], h.rd.other hg h.sep, h.sep, hq, h.lim⟩, hg⟩

theorem IsR.setErr {w : World} {R : Nat} {ao : Option Addr} {n c : Nat} {xs : List Int} {p : Nat} {er : Int} (h : IsR w R ao n c xs p er) (er' : Int) :
    IsR (w.setCell ⟨R, 2, none⟩ (.int .i64 er')) R ao n c xs p er' ∧ w.grownBy (w.setCell ⟨R, 2, none⟩ (.int .i64 er')) (some R) := by
  have hg : w.grownBy (w.setCell ⟨R, 2, none⟩ (.int .i64 er')) (some R) :=
    ⟨rfl, rfl, rfl, by simp [World.setCell], fun k _ hk => Below.heap_setCell _ _ _ _ (by intro e; exact hk (by rw [e]))⟩
  have h1 := h.row
  have h2 := h.pos
  have h3 := h.err
  have h4 := h.f1
  have h5 := h.f2
  exact ⟨⟨(World.cell?_setCell_other _ _ _ _ (by simp)).trans h1, (World.cell?_setCell_other _ _ _ _ (by simp)).trans h2, World.cell?_setCell_same _ _ _ h3, by simp [h4], by simp [h5], h.rd.other hg h.sep, h.sep, h.le, h.lim⟩, hg⟩

theorem IsR.drew {w : World} {R : Nat} {ao : Option Addr} {n c : Nat} {xs : List Int} {p : Nat} {er : Int} (h : IsR w R ao n c xs p er) : IsR w.drew R ao n c xs p er := h.keep (drew_below w)

theorem take_any (R : Nat) (ao : Option Addr) (n c : Nat) (xs : List Int) (p : Nat) (er m : Int) (w : World) (h : IsR w R ao n c xs p er) :
    Calls Try.prog 61 #[.pointer (some ⟨R, 0, none⟩), .int .i64 m] w fun e w' => ∃ ao' k c', e = .returned (.slice ao' k c') ∧ Rd w' ao' k c' (tk xs p er m).1 ∧
      IsR w' R ao n c xs (tk xs p er m).2.1 (tk xs p er m).2.2 ∧ w.grownBy w' (some R) := by
  have hl := h.rd.len
  by_cases he : er = 0
  · subst he
    by_cases hm : m < 0
    · refine (take_neg R ao n c xs p m w h hm).mono fun e w' ⟨h1, h2⟩ => ?_
      subst h2
      have e1 : tk xs p 0 m = ([], p, 3) := by simp [tk, hm]
      rw [e1]
      exact ⟨none, 0, 0, h1, Rd.nil _, (h.setErr 3).1, (h.setErr 3).2⟩
    · by_cases hs : (n : Int) - p < m
      · refine (take_short R ao n c xs p m w h (by omega) hs).mono fun e w' ⟨h1, h2⟩ => ?_
        subst h2
        have e1 : tk xs p 0 m = ([], p, 3) := by simp [tk, hl, hs]
        rw [e1]
        have g : w.grownBy w.drew (some R) := ⟨rfl, rfl, rfl, Nat.le_refl _, fun _ _ _ => rfl⟩
        exact ⟨none, 0, 0, h1, Rd.nil _, (h.drew.setErr 3).1, grownBy_trans g (h.drew.setErr 3).2⟩
      · obtain ⟨k, rfl⟩ := Int.eq_ofNat_of_zero_le (show 0 ≤ m by omega)
        refine (take_yes R ao n c xs p k w h (by omega)).mono fun e w' ⟨h1, h2⟩ => ?_
        subst h2
        have e1 : tk xs p 0 k = ((xs.drop p).take k, p + k, 0) := by simp [tk, hl, hs]
        rw [e1]
        have hp := h.setPos (p + k) (by omega)
        exact ⟨_, _, _, h1, hp.1.drew.drew.rd.sub p k (by omega), hp.1.drew.drew, grownBy_drew (grownBy_drew hp.2)⟩
  · refine (take_bad R ao n c xs p er m w h he).mono fun e w' ⟨h1, h2⟩ => ?_
    subst h2
    have e1 : tk xs p er m = ([], p, er) := by simp [tk, he]
    rw [e1]
    exact ⟨none, 0, 0, h1, Rd.nil _, h, World.grownBy.refl _ _⟩

end Go.Proofs.Ythaibdflehnbbaa
