/- Rename to itself. -/
import Derived.Test.YtmpfbemdljfamaaWDown
namespace Go.Proofs.Ytmpfbemdljfamaa
open Go.RowKit Go.Maps Go.Sort

set_option maxRecDepth 100000 in
set_option maxHeartbeats 2000000 in
/-- Rename of a file to its own name, as far as call. -/
theorem rename_same (d : Nat) (O : Nat → Prop) (S : St) (s a b : ByteArray) (f : Nat) (w : World) (R : World → Prop) (z : Int) (h : Dk w O d S) (hN : Nm s a b) (ho : S.off = false) (hl : look S.now s = some f)
    (hcall : ∀ w1 b1 b2 b3, RowKit.Below w.heap.size w w1 → Dk w1 O d S → Caught3 w1 O d s s b1 b2 b3 → Calls Try.prog 24 #[.pointer (some ⟨d, 0, none⟩), .func (.func 33) #[] #[.pointer (some ⟨b2, 0, none⟩), .pointer (some ⟨b3, 0, none⟩), .pointer (some ⟨b1, 0, none⟩)]] w1 fun e w' => e = .returned (.int .i64 z) ∧ R w') :
    Calls Try.prog 11 #[.pointer (some ⟨d, 0, none⟩), .string s, .string s] w fun e w' => e = .returned (.int .i64 z) ∧ R w' := by
  obtain ⟨W, hW⟩ : ∃ W, W = (((w.alloc (.cells #[.pointer (some ⟨d, 0, none⟩)] 25)).alloc (.cells #[.string s] 9)).alloc (.cells #[.string s] 9)) := ⟨_, rfl⟩
  have hb : RowKit.Below w.heap.size w W := by rw [hW]; exact ((new_below w _).alloc (by simp) _).alloc (by simp; omega) _
  have C : Caught3 W O d s s w.heap.size (w.heap.size + 1) (w.heap.size + 1 + 1) := by rw [hW]; exact caught3n w O d s s h.lim
  have h3 := h.keep hb
  have HW : Hid (W = (((w.alloc (.cells #[.pointer (some ⟨d, 0, none⟩)] 25)).alloc (.cells #[.string s] 9)).alloc (.cells #[.string s] 9))) := hW
  have HC : Hid (Caught3 W O d s s w.heap.size (w.heap.size + 1) (w.heap.size + 1 + 1)) := C
  have H3 : Hid (Dk W O d S) := h3
  have HB : Hid (RowKit.Below w.heap.size w W) := hb
  have c4 : W.cell? ⟨d, 4, none⟩ = some (.bool false) := by have := h3.row.cell (i := 4) (by omega); simp only [dc, ho] at this; exact this
  rw [hW] at c4
  have hnm := fun w => name_yes s a b w hN
  have hdir := fun w => dirOf_any s a b w hN
  have hfind := fun W (hW : Dk W O d S) => find_yes d S s f W hW.row hW.now hN.le ho hl
  clear hW hb C h3 h
  go_enter Try.func11, Try.ntmps11
  go_upto_region 3 with fail
  rw [← HW.out]
  go_cut [27] (fun v27 wx => v27 = .bool false ∧ RowKit.Below W.heap.size W wx)
  case first =>
    have B0 : RowKit.Below W.heap.size W W.drew := drew_keep W
    have C0 := HC.out.keep B0
    have k2 := C0.r2.cell (i := 0) (by omega)
    have k3 := C0.r3.cell (i := 0) (by omega)
    go_region_with (first
      | (go_at_call 27; refine (hdir w4).mono ?_; rintro e w5 ⟨rfl, hb5⟩; have B5 := B4.trans (hb5.mono B4.size))
      | (go_at_call 27; refine (hdir w3).mono ?_; rintro e w4 ⟨rfl, hb4⟩; have B4 := B3.trans (hb4.mono B3.size); have C4 := HC.out.keep B4; have k24 := C4.r2.cell (i := 0) (by omega); have k34 := C4.r3.cell (i := 0) (by omega))
      | (go_at_call 22; refine (hnm w2).mono ?_; rintro e w3 ⟨rfl, hb3⟩; have B3 := B2.trans (hb3.mono B2.size); have C3 := HC.out.keep B3; have k23 := C3.r2.cell (i := 0) (by omega); have k33 := C3.r3.cell (i := 0) (by omega))
      | (go_at_call 22; refine (hnm W.drew).mono ?_; rintro e w2 ⟨rfl, hb2⟩; have B2 := B0.trans (hb2.mono B0.size); have C2 := HC.out.keep B2; have k22 := C2.r2.cell (i := 0) (by omega); have k32 := C2.r3.cell (i := 0) (by omega)))
    all_goals (
      go_wp2_with fail
      go_meet
      exact ⟨by simp, B5⟩)
  case rest =>
    obtain ⟨rfl, B1⟩ := hcut
    have C1 := HC.out.keep B1
    have D1 := H3.out.keep B1
    have k1 := C1.r1.cell (i := 0) (by omega)
    have k2 := C1.r2.cell (i := 0) (by omega)
    have hf1 := hfind _ D1
    have hc1 := hcall _ _ _ _ (HB.out.trans (B1.mono HB.out.size)) D1 C1
    clear hfind hcall
    go_wp2_with (first
      | (go_at_call 31; refine hf1.mono ?_; rintro e w8 ⟨rfl, hw⟩; subst w8)
      | (go_at_call 24; refine hc1.mono ?_; rintro e w9 ⟨rfl, hR⟩))
    go_ret
    exact ⟨rfl, hR⟩

end Go.Proofs.Ytmpfbemdljfamaa
