/- A reader of bits: NewReader, Left, Past, Align, Get. -/
import Derived.Test.YtjkfmnahmbnbnaaDoorWMem
namespace Go.Proofs.YtjkfmnahmbnbnaaDoor
open Go.RowKit

/-- A reader's cells. -/
def rcells (sl : Value) (a wd h : Int) : Nat → Value
  | 0 => sl
  | 1 => .int .i64 a
  | 2 => .int .u64 wd
  | _ => .int .i64 h

/-- Block R is a reader of the n bytes of X, of which a were touched and p bits taken; h bits wait in its word. -/
structure RRaw (w : World) (R : Nat) (ao : Option Addr) (n c : Nat) (X : Int) (a p h : Nat) : Prop where
  row : w.rowIs R 70 4 (rcells (.slice ao n c) a (X / 2 ^ p % 2 ^ h) h)
  rd : Rd w ao n c (by8 X n)
  sep : ∀ ad, ao = some ad → ad.block ≠ R
  sum : p + h = 8 * a
  le : a ≤ n
  lim : n ≤ 1000000000

/-- Block R is a reader of the n bytes of X, of which p bits were taken. -/
def IsR (w : World) (R : Nat) (ao : Option Addr) (n c : Nat) (X : Int) (p : Nat) : Prop := RRaw w R ao n c X ((p + 7) / 8) p (8 * ((p + 7) / 8) - p)

theorem RRaw.fr {P : Nat → Prop} {w w' : World} {R : Nat} {ao : Option Addr} {n c : Nat} {X : Int} {a p h : Nat} (r : RRaw w R ao n c X a p h) (hf : Fr P w w') (hR : ¬ P R) (hs : ∀ ad, ao = some ad → 0 < n → ¬ P ad.block) : RRaw w' R ao n c X a p h :=
  ⟨rowIs_fr r.row hf hR, r.rd.fr hf hs, r.sep, r.sum, r.le, r.lim⟩

theorem IsR.fr {P : Nat → Prop} {w w' : World} {R : Nat} {ao : Option Addr} {n c : Nat} {X : Int} {p : Nat} (r : IsR w R ao n c X p) (hf : Fr P w w') (hR : ¬ P R) (hs : ∀ ad, ao = some ad → 0 < n → ¬ P ad.block) : IsR w' R ao n c X p :=
  RRaw.fr r hf hR hs

theorem IsR.keep {w w' : World} {R : Nat} {ao : Option Addr} {n c : Nat} {X : Int} {p : Nat} (r : IsR w R ao n c X p) (hb : Below w.heap.size w w') : IsR w' R ao n c X p :=
  RRaw.fr r (P := fun _ => False) (Fr.ofBelow hb) (fun h => h) (fun _ _ _ h => h)

theorem newR_any (ao : Option Addr) (n c : Nat) (X : Int) (w : World) (h : Rd w ao n c (by8 X n)) (hn : n ≤ 1000000000) :
    Calls Tryd.prog 25 #[.slice ao n c] w fun e w' => ∃ R ao' c', e = .returned (.pointer (some ⟨R, 0, none⟩)) ∧ IsR w' R ao' n c' X 0 ∧ w.heap.size ≤ R ∧ (∀ ad, ao' = some ad → w.heap.size ≤ ad.block) ∧ Below w.heap.size w w' := by
  go_enter Tryd.func25, Tryd.ntmps25
  go_wp2_with (go_at_call 30; refine (clone_any ao n c _ w h (by omega)).mono ?_; rintro e w1 ⟨v1, rfl, o1, b1⟩; obtain ⟨ao', c', rfl, hr, hb⟩ := own_rd o1 (by8_byt _ _))
  go_ret
  have hb1 : Below w1.heap.size w1 (w1.alloc (Obj.cells #[Value.slice ao' n c', Value.int IntKind.i64 0, Value.int IntKind.u64 0, Value.int IntKind.i64 0] 70)) := (Below.refl _ _).alloc (Nat.le_refl _) _
  refine ⟨w1.heap.size, ao', c', rfl, ⟨?_, hr.keep hb1, ?_, rfl, by omega, hn⟩, b1.size, fun ad had => (hb ad had).2, b1.trans (hb1.mono b1.size)⟩
  · exact World.rowIs_alloc w1 _ 70 _ (fun i hi => by
      simp at hi
      rcases i with _ | _ | _ | _ | i <;> first | rfl | omega | simp [rcells])
  · intro ad had e
    have := (o1.lt ad.block (hb ad had).1).2
    omega

theorem left_any (R : Nat) (ao : Option Addr) (n c : Nat) (X : Int) (p : Nat) (w : World) (h : IsR w R ao n c X p) :
    Calls Tryd.prog 46 #[.pointer (some ⟨R, 0, none⟩)] w fun e w' => e = .returned (.int .i64 (8 * (n : Int) - p)) ∧ w' = w.drew := by
  have c0 := h.row.cell (i := 0) (by omega)
  have c1 := h.row.cell (i := 1) (by omega)
  have c3 := h.row.cell (i := 3) (by omega)
  have hs := h.sum
  have hl := h.le
  have hm := h.lim
  simp only [rcells] at c0 c1 c3
  generalize (p + 7) / 8 = a at *
  generalize 8 * a - p = b at *
  clear h
  go_enter Tryd.func46, Tryd.ntmps46
  go_wp2
  go_region
  go_wp2
  go_ret
  exact ⟨by go_num, rfl⟩

theorem past_any (R : Nat) (ao : Option Addr) (n c : Nat) (X : Int) (p : Nat) (w : World) (h : IsR w R ao n c X p) :
    Calls Tryd.prog 27 #[.pointer (some ⟨R, 0, none⟩)] w fun e w' => e = .returned (.int .i64 (((p + 7) / 8 : Nat) : Int)) ∧ w' = w := by
  have c1 := h.row.cell (i := 1) (by omega)
  simp only [rcells] at c1
  generalize (p + 7) / 8 = a at *
  clear h
  go_enter Tryd.func27, Tryd.ntmps27
  go_wp2
  go_ret
  exact ⟨rfl, rfl⟩

theorem ralign_any (R : Nat) (ao : Option Addr) (n c : Nat) (X : Int) (p : Nat) (w : World) (h : IsR w R ao n c X p) :
    Calls Tryd.prog 38 #[.pointer (some ⟨R, 0, none⟩)] w fun e w' => e = .returned (.tuple #[]) ∧ IsR w' R ao n c X (al p) ∧ Fr (fun k => k = R) w w' := by
  have c2 := h.row.cell (i := 2) (by omega)
  have c3 := h.row.cell (i := 3) (by omega)
  have f2 := h.row.frozen 2
  have f3 := h.row.frozen 3
  simp only [rcells] at c2 c3
  have hF : Fr (fun k => k = R) w ((w.setCell ⟨R, 2, none⟩ (.int .u64 0)).setCell ⟨R, 3, none⟩ (.int .i64 0)) := ((Fr.refl (fun k => k = R) w).setCell rfl _).setCell rfl _
  have hR : IsR ((w.setCell ⟨R, 2, none⟩ (.int .u64 0)).setCell ⟨R, 3, none⟩ (.int .i64 0)) R ao n c X (al p) := by
    have e1 : (al p + 7) / 8 = (p + 7) / 8 := by unfold al; omega
    have e2 : 8 * ((p + 7) / 8) - al p = 0 := by unfold al; omega
    unfold IsR
    rw [e1, e2]
    refine ⟨((h.row.set 2 _).set 3 _).congr (fun i hi => ?_), h.rd.fr hF (fun ad had _ => h.sep ad had), h.sep, by unfold al; omega, h.le, h.lim⟩
    rcases i with _ | _ | _ | _ | i
    · rfl
    · rfl
    · simp [rcells]
    · rfl
    · omega
  clear h
  go_enter Tryd.func38, Tryd.ntmps38
  go_wp2
  go_end0
  exact ⟨rfl, hR, hF⟩

theorem get_no (R : Nat) (ao : Option Addr) (n c : Nat) (X : Int) (p : Nat) (m : Int) (w : World) (h : IsR w R ao n c X p) (hm : m < 0 ∨ 24 < m ∨ 8 * (n : Int) - p < m) :
    Calls Tryd.prog 37 #[.pointer (some ⟨R, 0, none⟩), .int .i64 m] w fun e w' => e = .returned (.tuple #[.int .i64 0, .bool false]) ∧ (w' = w ∨ w' = w.drew) := by
  by_cases h0 : m < 0 ∨ 24 < m
  · go_enter Tryd.func37, Tryd.ntmps37
    go_wp2_with (go_at_call 45; refine (mayBe_no m w h0).mono ?_; rintro e w1 ⟨rfl, hw⟩; subst w1)
    go_ret2
    exact ⟨rfl, .inl rfl⟩
  · obtain ⟨k, rfl⟩ := Int.eq_ofNat_of_zero_le (show 0 ≤ m by omega)
    have hk : k ≤ 24 := by omega
    have hlt : 8 * (n : Int) - p < k := by omega
    clear hm h0
    go_enter Tryd.func37, Tryd.ntmps37
    go_wp2_with (first | (go_at_call 45; refine (mayBe_yes k w hk).mono ?_; rintro e w1 ⟨rfl, hw⟩; subst w1) | (go_at_call 46; refine (left_any R ao n c X p w h).mono ?_; rintro e w1 ⟨rfl, hw⟩; subst w1))
    go_ret2
    exact ⟨rfl, .inr rfl⟩

theorem get_word (X : Int) (a p h : Nat) (hs : p + h = 8 * a) (hh : h < 32) : bits .or .u64 (X / 2 ^ p % 2 ^ h) (IntKind.u64.wrap (X / 2 ^ (8 * a) % 256 * 2 ^ h)) = X / 2 ^ p % 2 ^ (h + 8) := by
  rw [u64_put h 8 _ _ (mod_nn _ _) (mod_lt _ _) (by omega) (by omega) (by omega), mod_add, div_div, hs]
  rfl

set_option maxRecDepth 100000 in
set_option maxHeartbeats 2000000 in
theorem get_raw (R : Nat) (ao : Option Addr) (n c : Nat) (X : Int) (a p h m : Nat) (w : World) (hr : RRaw w R ao n c X a p h) (hh : h < 8) (hm : m ≤ 24) (hlt : p + m ≤ 8 * n)
    (hleft : Calls Tryd.prog 46 #[.pointer (some ⟨R, 0, none⟩)] w fun e w' => e = .returned (.int .i64 (8 * (n : Int) - p)) ∧ w' = w.drew) :
    Calls Tryd.prog 37 #[.pointer (some ⟨R, 0, none⟩), .int .i64 m] w fun e w' => e = .returned (.tuple #[.int .i64 (X / 2 ^ p % 2 ^ m), .bool true]) ∧
      (∃ a' h', RRaw w' R ao n c X a' (p + m) h' ∧ h' < 8) ∧ Fr (fun k => k = R) w w' := by
  have hd : decide (8 * (n : Int) - p < m) = false := by simp; omega
  go_enter Tryd.func37, Tryd.ntmps37
  go_wp2_with (first | (go_at_call 45; refine (mayBe_yes m w hm).mono ?_; rintro e w1 ⟨rfl, hw⟩; subst w1) | (go_at_call 46; refine hleft.mono ?_; rintro e w1 ⟨rfl, hw⟩; subst w1))
  go_loopw [] (fun wr => ∃ a' h' : Nat, RRaw wr R ao n c X a' p h' ∧ h' < m + 8 ∧ Fr (fun k => k = R) w wr)
      (fun wr => m + 8 - (intOf ((wr.cell? ⟨R, 3, none⟩).getD (.int .i64 0))).toNat)
  case atStart => exact ⟨a, h, hr.fr (Fr.refl (fun _ => False) _).drew (fun h => h) (fun _ _ _ h => h), by omega, (Fr.refl _ _).drew⟩
  case round =>
    obtain ⟨a', h', r, hlt', fr⟩ := hrel
    clear hr hd hleft
    have c0 := r.row.cell (i := 0) (by omega)
    have c1 := r.row.cell (i := 1) (by omega)
    have c2 := r.row.cell (i := 2) (by omega)
    have c3 := r.row.cell (i := 3) (by omega)
    have f1 := r.row.frozen 1
    have f2 := r.row.frozen 2
    have f3 := r.row.frozen 3
    simp only [rcells] at c0 c1 c2 c3
    by_cases hx : h' < m
    · have han : a' < n := by have := r.sum; omega
      obtain ⟨b, off, rfl, hcell⟩ := r.rd.plain (by omega)
      have hck := hcell a' han
      rw [by8_get _ _ _ han] at hck
      have E := get_word X a' p h' r.sum (by omega)
      have hb0 : 0 ≤ X / 2 ^ (8 * a') % 256 := by omega
      have hb1 : X / 2 ^ (8 * a') % 256 < 256 := by omega
      have hrow := r.row
      obtain ⟨wd2, hwd2⟩ : ∃ z, z = X / 2 ^ p % 2 ^ (h' + 8) := ⟨_, rfl⟩
      rw [← hwd2] at E
      have HW : Hid (wd2 = X / 2 ^ p % 2 ^ (h' + 8)) := hwd2
      clear hwd2 hcell
      generalize X / 2 ^ (8 * a') % 256 = cb at *
      generalize X / 2 ^ p % 2 ^ h' = wd at *
      go_upto_region 5 with fail
      go_cut [] from 16 to 58 (fun wx => wx = (wr.setCell ⟨R, 2, none⟩ (.int .u64 wd2)).drew)
      case first =>
        go_region
        all_goals
          go_wp2_with fail
          go_meet
          rfl
      case rest =>
        subst hcut
        have hF : Fr (fun k => k = R) w (((wr.setCell ⟨R, 2, none⟩ (.int .u64 wd2)).setCell ⟨R, 1, none⟩ (.int .i64 ((a' : Int) + 1))).setCell ⟨R, 3, none⟩ (.int .i64 ((h' : Int) + 8))).drew :=
          (((fr.setCell rfl _).setCell rfl _).setCell rfl _).drew
        have hF2 : Fr (fun k => k = R) wr (((wr.setCell ⟨R, 2, none⟩ (.int .u64 wd2)).setCell ⟨R, 1, none⟩ (.int .i64 ((a' : Int) + 1))).setCell ⟨R, 3, none⟩ (.int .i64 ((h' : Int) + 8))).drew :=
          ((((Fr.refl (fun k => k = R) wr).setCell rfl _).setCell rfl _).setCell rfl _).drew
        have hR2 : RRaw (((wr.setCell ⟨R, 2, none⟩ (.int .u64 wd2)).setCell ⟨R, 1, none⟩ (.int .i64 ((a' : Int) + 1))).setCell ⟨R, 3, none⟩ (.int .i64 ((h' : Int) + 8))).drew R (some ⟨b, off, none⟩) n c X (a' + 1) p (h' + 8) := by
          refine ⟨(((hrow.set 2 _).set 1 _).set 3 _).drew.congr (fun i hi => ?_), r.rd.fr hF2 (fun ad had _ => r.sep ad had), r.sep, by have := r.sum; omega, by omega, r.lim⟩
          rcases i with _ | _ | _ | _ | i
          · rfl
          · simp [rcells]
          · simp [rcells, HW.out]
          · simp [rcells]
          · omega
        have m1 := hR2.row.cell (i := 3) (by omega)
        have m0 := r.row.cell (i := 3) (by omega)
        simp only [rcells] at m0 m1
        have M0 : Hid (wr.cell? ⟨R, 3, none⟩ = some (.int .i64 (h' : Int))) := m0
        have M1 : Hid ((((wr.setCell ⟨R, 2, none⟩ (.int .u64 wd2)).setCell ⟨R, 1, none⟩ (.int .i64 ((a' : Int) + 1))).setCell ⟨R, 3, none⟩ (.int .i64 ((h' : Int) + 8))).drew.cell? ⟨R, 3, none⟩ = some (.int .i64 ((h' + 8 : Nat) : Int))) := m1
        have ha0 : a' ≤ 1000000000 := by have := r.lim; omega
        clear r hrow E hck hF2 m0 m1
        go_wp2
        go_roundw
        case rel => exact ⟨a' + 1, h' + 8, hR2, by omega, hF⟩
        case measure => rw [M0.out, M1.out]; simp [intOf]; omega
    · have hrow := r.row
      have e1 := mod_mod (X / 2 ^ p) m h' (by omega)
      have w0 := mod_nn (X / 2 ^ p) h'
      have w1 := mod_lt (X / 2 ^ p) h'
      have wle := p2_le h' 32 (by omega)
      have e2 : X / 2 ^ p % 2 ^ h' / 2 ^ m = X / 2 ^ (p + m) % 2 ^ (h' - m) := by
        have := mod_add (X / 2 ^ p) m (h' - m)
        rw [show m + (h' - m) = h' by omega] at this
        rw [this, put_high _ _ _ (mod_nn _ _) (mod_lt _ _), div_div]
      have l0 := mod_nn (X / 2 ^ p) m
      have l1 := mod_lt (X / 2 ^ p) m
      have lle := p2_le m 24 hm
      have hwr : wrap64 (X / 2 ^ p % 2 ^ m) = X / 2 ^ p % 2 ^ m := IntWalk.wrap64_in _ (by omega)
      obtain ⟨wd2, hwd2⟩ : ∃ z, z = X / 2 ^ (p + m) % 2 ^ (h' - m) := ⟨_, rfl⟩
      rw [← hwd2] at e2
      obtain ⟨lo, hlo⟩ : ∃ z, z = X / 2 ^ p % 2 ^ m := ⟨_, rfl⟩
      rw [← hlo] at hwr e1
      have HL : Hid (lo = X / 2 ^ p % 2 ^ m) := hlo
      have HW : Hid (wd2 = X / 2 ^ (p + m) % 2 ^ (h' - m)) := hwd2
      have hx0 : 0 ≤ X / 2 ^ p % 2 ^ h' := w0
      have hx1 : X / 2 ^ p % 2 ^ h' < 18446744073709551616 := by omega
      have hF2 : Fr (fun k => k = R) wr ((wr.setCell ⟨R, 2, none⟩ (.int .u64 wd2)).setCell ⟨R, 3, none⟩ (.int .i64 ((h' : Int) - m))) := ((Fr.refl (fun k => k = R) wr).setCell rfl _).setCell rfl _
      have hF : Fr (fun k => k = R) w ((wr.setCell ⟨R, 2, none⟩ (.int .u64 wd2)).setCell ⟨R, 3, none⟩ (.int .i64 ((h' : Int) - m))) := (fr.setCell rfl _).setCell rfl _
      have hR2 : RRaw ((wr.setCell ⟨R, 2, none⟩ (.int .u64 wd2)).setCell ⟨R, 3, none⟩ (.int .i64 ((h' : Int) - m))) R ao n c X a' (p + m) (h' - m) := by
        refine ⟨((hrow.set 2 _).set 3 _).congr (fun i hi => ?_), r.rd.fr hF2 (fun ad had _ => r.sep ad had), r.sep, by have := r.sum; omega, r.le, r.lim⟩
        rcases i with _ | _ | _ | _ | i
        · rfl
        · simp [rcells]
        · simp [rcells, HW.out]
        · simp [rcells]; omega
        · omega
      clear r hrow hwd2 hlo w0 w1 wle l0 l1 lle hF2
      generalize X / 2 ^ p % 2 ^ h' = wd at *
      go_wp2_with (go_at_call 47; refine (lowest_any wd m _ hm hx0 hx1).mono ?_; rintro e w1 ⟨rfl, hw⟩; subst w1; rw [e1])
      go_ret2
      exact ⟨by rw [← HL.out]; exact congrArg (fun z => Ending.returned (Value.tuple #[Value.int IntKind.i64 z, Value.bool true])) hwr, ⟨a', h' - m, hR2, by omega⟩, hF⟩

theorem RRaw.isR {w : World} {R : Nat} {ao : Option Addr} {n c : Nat} {X : Int} {a p h : Nat} (r : RRaw w R ao n c X a p h) (hh : h < 8) : IsR w R ao n c X p := by
  have hs := r.sum
  have e1 : (p + 7) / 8 = a := by omega
  have e2 : 8 * ((p + 7) / 8) - p = h := by omega
  unfold IsR
  rw [e2, e1]
  exact r

/-- What Get answers: how many bits, and whether. -/
def gtOk (n p : Nat) (m : Int) : Bool := decide (0 ≤ m ∧ m ≤ 24 ∧ m ≤ 8 * (n : Int) - p)
def gtV (n : Nat) (X : Int) (p : Nat) (m : Int) : Int := if gtOk n p m = true then X / 2 ^ p % 2 ^ m.toNat else 0
def gtP (n p : Nat) (m : Int) : Nat := if gtOk n p m = true then p + m.toNat else p

theorem get_any (R : Nat) (ao : Option Addr) (n c : Nat) (X : Int) (p : Nat) (m : Int) (w : World) (h : IsR w R ao n c X p) :
    Calls Tryd.prog 37 #[.pointer (some ⟨R, 0, none⟩), .int .i64 m] w fun e w' => e = .returned (.tuple #[.int .i64 (gtV n X p m), .bool (gtOk n p m)]) ∧
      IsR w' R ao n c X (gtP n p m) ∧ Fr (fun k => k = R) w w' := by
  by_cases hm : 0 ≤ m ∧ m ≤ 24 ∧ m ≤ 8 * (n : Int) - p
  · obtain ⟨k, rfl⟩ := Int.eq_ofNat_of_zero_le hm.1
    have e : gtOk n p k = true := by simp only [gtOk, decide_eq_true_eq]; exact hm
    rw [gtV, gtP, if_pos e, if_pos e, e, Int.toNat_natCast]
    refine (get_raw R ao n c X _ p _ k w h (by omega) (by omega) (by omega) (left_any R ao n c X p w h)).mono ?_
    rintro e w' ⟨rfl, ⟨a', h', r, hh⟩, hf⟩
    exact ⟨rfl, r.isR hh, hf⟩
  · have e : gtOk n p m = false := by simp only [gtOk, decide_eq_false_iff_not]; exact hm
    rw [gtV, gtP, e, if_neg (by decide), if_neg (by decide)]
    refine (get_no R ao n c X p m w h (by omega)).mono ?_
    rintro e w' ⟨rfl, hw⟩
    rcases hw with hw | hw
    · subst w'
      exact ⟨rfl, h, Fr.refl _ _⟩
    · subst w'
      exact ⟨rfl, h.fr (Fr.refl (fun _ => False) _).drew (fun h => h) (fun _ _ _ h => h), (Fr.refl _ _).drew⟩

end Go.Proofs.YtjkfmnahmbnbnaaDoor
