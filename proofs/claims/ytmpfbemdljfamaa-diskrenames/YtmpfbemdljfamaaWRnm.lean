/- Rename to another name. -/
import Derived.Test.YtmpfbemdljfamaaWRem
import Derived.Test.YtmpfbemdljfamaaWRen
namespace Go.Proofs.Ytmpfbemdljfamaa
open Go.RowKit Go.Maps Go.Sort

theorem rowOf.ren {w w3 w4 : World} {O : Nat → Prop} {d : Nat} {S : St} {s t a : ByteArray} {r b4 b5 : Nat} {S1 : St} {x1 : Rw} (h : rowOf S a r S1 x1) (h1 : w.heap.size ≤ w3.heap.size) (hD : Dk w4 (Ow O w w4) d S1) (hch : IsChg w4 (fun k => w3.heap.size ≤ k ∧ k < w4.heap.size) x1.fs.length (.func (.func 54) #[] #[.pointer (some ⟨b4, 0, none⟩), .pointer (some ⟨b5, 0, none⟩)]) (.renamed s t)) (hn : Maps.size S.now < maxLen) (hl : x1.cs.length < 1000000) :
    Calls Try.prog 28 #[.pointer (some ⟨r, 0, none⟩), .map (some S.nb), .func (.func 54) #[] #[.pointer (some ⟨b4, 0, none⟩), .pointer (some ⟨b5, 0, none⟩)]] w4 fun e w' => e = .returned (.tuple #[]) ∧ Added w4 w' (Ow O w w4) r x1 (.renamed s t) S1.nb S1.now := by
  have := add_renamed r (Ow O w w4) x1 s t b4 b5 S1.nb S1.now w4 (hD.rs.is r _ h.at) (hch.wide h1) hD.now (by rw [h.now.1]; exact hn) hl
  rw [h.now.2.2] at this ⊢
  exact this

set_option maxRecDepth 100000 in
set_option maxHeartbeats 1000000 in
theorem rn_yes (d : Nat) (O : Nat → Prop) (S : St) (s t a b : ByteArray) (b1 b2 b3 : Nat) (w : World) (h : Dk w O d S) (hc : Caught3 w O d s t b1 b2 b3) (hN : Nm s a b) (ht : t.size ≤ maxLen) (hne : (s.toList == t.toList) = false)
    (hR : ∀ r, look S.rws a = some r → ∃ x, S.R r = some x ∧ x.cs.length < 1000000) (hz : Maps.size S.rws < maxLen) (hz2 : Maps.size S.now < maxLen) :
    Calls Try.prog 33 #[.pointer (some ⟨b2, 0, none⟩), .pointer (some ⟨b3, 0, none⟩), .pointer (some ⟨b1, 0, none⟩)] w fun e w' => e = .returned (.tuple #[]) ∧ ∃ r S1 x1 cv, rowOf S a r S1 x1 ∧ Dk w' (Ow O w w') d (changed S1 r x1 (.renamed s t) cv) ∧ Fr O w w' := by
  have Hh : Hid (Dk w O d S) := h
  have Hc : Hid (Caught3 w O d s t b1 b2 b3) := hc
  have k1 := hc.r1.cell (i := 0) (by omega)
  have k2 := hc.r2.cell (i := 0) (by omega)
  have k3 := hc.r3.cell (i := 0) (by omega)
  have c1 := h.row.cell (i := 1) (by omega)
  simp only [dc] at c1
  have hdir := fun W => dirOf_any s a b W hN
  have hrow := fun W (hW : Dk W O d S) => row_any d O S a W hW hN.pa.le (fun r e => by obtain ⟨x, h1, _⟩ := hR r e; exact ⟨x, h1⟩) hz
  have hlimO := h.lim
  have hcs : ∀ r S1 x1, rowOf S a r S1 x1 → x1.cs.length < 1000000 := by
    intro r S1 x1 hro
    rcases hro with ⟨e1, rfl, e2⟩ | ⟨_, rfl, rfl⟩
    · obtain ⟨x, h1, h2⟩ := hR r e1
      rw [e2] at h1
      cases h1
      exact h2
    · simp
  have Hcs : Hid (∀ r S1 x1, rowOf S a r S1 x1 → x1.cs.length < 1000000) := hcs
  have hnle := hN.le
  clear h hc hR hcs hN
  go_enter Try.func33, Try.ntmps33
  go_wp2_with fail
  go_region_held3 (fun w' => w'.cell? ⟨b1, 0, none⟩ = some (.pointer (some ⟨d, 0, none⟩)) ∧ w'.cell? ⟨b2, 0, none⟩ = some (.string s) ∧ w'.cell? ⟨b3, 0, none⟩ = some (.string t) ∧ w'.cell? ⟨d, 1, none⟩ = some (.map (some S.nb))) (go_keep) (first
    | (go_at_call 27; refine (hdir _).mono ?_; rintro e w2 ⟨rfl, hb2⟩; have B2 : RowKit.Below w.heap.size w w2 := (drew_keep w).trans hb2; have D2 := Hh.out.keep B2; have C2 := Hc.out.keep B2; have k12 := C2.r1.cell (i := 0) (by omega); have k22 := C2.r2.cell (i := 0) (by omega); have k32 := C2.r3.cell (i := 0) (by omega); have c12 : w2.cell? ⟨d, 1, none⟩ = some (.map (some S.nb)) := D2.row.cell (i := 1) (by omega))
    | (go_at_call 26; refine (hrow _ D2).mono ?_; rintro e w3 ⟨r, S1, x1, rfl, hro, hD, hf⟩; have F3 : Fr O w w3 := (Fr.ofBelow B2).trans hf (fun _ _ e => e); have C3 := Hc.out.fr F3 (O' := O) (fun b hb => .inl hb); have k13 := C3.r1.cell (i := 0) (by omega); have k23 := C3.r2.cell (i := 0) (by omega); have k33 := C3.r3.cell (i := 0) (by omega); have c13 := hro.cell hD.row)
    | (go_at_call 34; refine (renamed_any s t w3 hnle ht x1.fs.length).mono ?_; rintro e w4 ⟨b4, b5, rfl, hch, hb4⟩; (have C4 := C3.keep hb4; have k14 := C4.r1.cell (i := 0) (by omega); have k24 := C4.r2.cell (i := 0) (by omega); have k34 := C4.r3.cell (i := 0) (by omega); have D4 := hD.wide2 hlimO B2.size F3.size hb4; have c14 := hro.cell D4.row; have hadd := hro.ren F3.size D4 hch hz2 (Hcs.out _ _ _ hro)))
    | (go_at_call 28; refine hadd.mono ?_; rintro e w5 ⟨rfl, ha⟩; obtain ⟨cv, hD5, hF5⟩ := added_end hlimO F3 hb4 D4 hro.at ha; have C5 := Hc.out.fr hF5 (O' := O) (fun b hb => .inl hb); have k15 := C5.r1.cell (i := 0) (by omega); have k25 := C5.r2.cell (i := 0) (by omega); have k35 := C5.r3.cell (i := 0) (by omega); have c15 := hro.cell2 hD5.row))
  go_wp2_with fail
  go_end0
  exact ⟨rfl, r, S1, x1, cv, hro, hD5, hF5⟩

set_option maxRecDepth 100000 in
set_option maxHeartbeats 2000000 in
/-- Rename of a file to another name of its directory, as far as call. -/
theorem rename_walk (d : Nat) (O : Nat → Prop) (S : St) (s t a b b' : ByteArray) (f : Nat) (w : World) (R : World → Prop) (z : Int) (h : Dk w O d S) (hN : Nm s a b) (hN' : Nm t a b') (ho : S.off = false) (hl : look S.now s = some f)
    (hcall : ∀ w1 b1 b2 b3, RowKit.Below w.heap.size w w1 → Dk w1 O d S → Caught3 w1 O d s t b1 b2 b3 → Calls Try.prog 24 #[.pointer (some ⟨d, 0, none⟩), .func (.func 33) #[] #[.pointer (some ⟨b2, 0, none⟩), .pointer (some ⟨b3, 0, none⟩), .pointer (some ⟨b1, 0, none⟩)]] w1 fun e w' => e = .returned (.int .i64 z) ∧ R w') :
    Calls Try.prog 11 #[.pointer (some ⟨d, 0, none⟩), .string s, .string t] w fun e w' => e = .returned (.int .i64 z) ∧ R w' := by
  obtain ⟨W, hW⟩ : ∃ W, W = (((w.alloc (.cells #[.pointer (some ⟨d, 0, none⟩)] 25)).alloc (.cells #[.string s] 9)).alloc (.cells #[.string t] 9)) := ⟨_, rfl⟩
  have hb : RowKit.Below w.heap.size w W := by rw [hW]; exact ((new_below w _).alloc (by simp) _).alloc (by simp; omega) _
  have C : Caught3 W O d s t w.heap.size (w.heap.size + 1) (w.heap.size + 1 + 1) := by rw [hW]; exact caught3n w O d s t h.lim
  have h3 := h.keep hb
  have HW : Hid (W = (((w.alloc (.cells #[.pointer (some ⟨d, 0, none⟩)] 25)).alloc (.cells #[.string s] 9)).alloc (.cells #[.string t] 9))) := hW
  have HC : Hid (Caught3 W O d s t w.heap.size (w.heap.size + 1) (w.heap.size + 1 + 1)) := C
  have H3 : Hid (Dk W O d S) := h3
  have HB : Hid (RowKit.Below w.heap.size w W) := hb
  have c4 : W.cell? ⟨d, 4, none⟩ = some (.bool false) := by have := h3.row.cell (i := 4) (by omega); simp only [dc, ho] at this; exact this
  rw [hW] at c4
  have hnm := fun w => name_yes s a b w hN
  have hnm' := fun w => name_yes t a b' w hN'
  have hdir := fun w => dirOf_any s a b w hN
  have hdir' := fun w => dirOf_any t a b' w hN'
  have hfind := fun W (hW : Dk W O d S) => find_yes d S s f W hW.row hW.now hN.le ho hl
  clear hW hb C h3 h
  go_enter Try.func11, Try.ntmps11
  go_upto_region 3 with fail
  rw [← HW.out]
  go_cut [27] (fun v27 wx => v27 = .bool false ∧ RowKit.Below W.heap.size W wx)
  case first =>
    have B0 : RowKit.Below W.heap.size W W.drew := drew_keep W
    have C0 := HC.out.keep B0
    have k2 := C0.r2.cell (i := 0) (by omega)
    have k3 := C0.r3.cell (i := 0) (by omega)
    go_region_with (first
      | (go_at_call 27; refine (hdir' w4).mono ?_; rintro e w5 ⟨rfl, hb5⟩; have B5 := B4.trans (hb5.mono B4.size))
      | (go_at_call 27; refine (hdir w3).mono ?_; rintro e w4 ⟨rfl, hb4⟩; have B4 := B3.trans (hb4.mono B3.size); have C4 := HC.out.keep B4; have k24 := C4.r2.cell (i := 0) (by omega); have k34 := C4.r3.cell (i := 0) (by omega))
      | (go_at_call 22; refine (hnm' w2).mono ?_; rintro e w3 ⟨rfl, hb3⟩; have B3 := B2.trans (hb3.mono B2.size); have C3 := HC.out.keep B3; have k23 := C3.r2.cell (i := 0) (by omega); have k33 := C3.r3.cell (i := 0) (by omega))
      | (go_at_call 22; refine (hnm W.drew).mono ?_; rintro e w2 ⟨rfl, hb2⟩; have B2 := B0.trans (hb2.mono B0.size); have C2 := HC.out.keep B2; have k22 := C2.r2.cell (i := 0) (by omega); have k32 := C2.r3.cell (i := 0) (by omega)))
    all_goals (
      go_wp2_with fail
      go_meet
      exact ⟨by simp, B5⟩)
  case rest =>
    obtain ⟨rfl, B1⟩ := hcut
    have C1 := HC.out.keep B1
    have D1 := H3.out.keep B1
    have k1 := C1.r1.cell (i := 0) (by omega)
    have k2 := C1.r2.cell (i := 0) (by omega)
    have hf1 := hfind _ D1
    have hc1 := hcall _ _ _ _ (HB.out.trans (B1.mono HB.out.size)) D1 C1
    clear hfind hcall
    go_wp2_with (first
      | (go_at_call 31; refine hf1.mono ?_; rintro e w8 ⟨rfl, hw⟩; subst w8)
      | (go_at_call 24; refine hc1.mono ?_; rintro e w9 ⟨rfl, hR⟩))
    go_ret
    exact ⟨rfl, hR⟩

/-- Rename of a file to another name of its directory. -/
theorem rename_yes (d : Nat) (O : Nat → Prop) (S : St) (s t a b b' : ByteArray) (f : Nat) (w : World) (h : Dk w O d S) (hN : Nm s a b) (hN' : Nm t a b') (hne : (s.toList == t.toList) = false) (ho : S.off = false) (hl : look S.now s = some f) (hleft : S.left ≠ 1) (hl2 : -1000000000 ≤ S.left ∧ S.left ≤ 9223372036854775807) (hcl : 0 ≤ S.calls ∧ S.calls ≤ 1000000000)
    (hR : ∀ r, look S.rws a = some r → ∃ x, S.R r = some x ∧ x.cs.length < 1000000) (hz : Maps.size S.rws < maxLen) (hz2 : Maps.size S.now < maxLen) :
    Calls Try.prog 11 #[.pointer (some ⟨d, 0, none⟩), .string s, .string t] w fun e w' => e = .returned (.int .i64 0) ∧ ∃ r S1 x1 cv, rowOf (ticked S) a r S1 x1 ∧ Dk w' (Ow O w w') d (changed S1 r x1 (.renamed s t) cv) ∧ Fr O w w' := by
  have hO := h.lim
  have hdO := h.own.1
  refine rename_walk d O S s t a b b' f w (fun w' => ∃ r S1 x1 cv, rowOf (ticked S) a r S1 x1 ∧ Dk w' (Ow O w w') d (changed S1 r x1 (.renamed s t) cv) ∧ Fr O w w') 0 h hN hN' ho hl ?_
  intro w1 b1 b2 b3 hb D1 C
  refine call_33 d O S _ _ _ w1 (fun w' => ∃ r S1 x1 cv, rowOf (ticked S) a r S1 x1 ∧ Dk w' (Ow O w w') d (changed S1 r x1 (.renamed s t) cv) ∧ Fr O w w') D1 hleft hl2 hcl ?_
  intro W hW hf
  refine (rn_yes d O (ticked S) s t a b _ _ _ W hW (C.fr (hf.weak (fun i e => by subst e; exact hdO)) (fun _ e => .inl e)) hN hN'.le hne hR hz hz2).mono ?_
  rintro e w2 ⟨rfl, r, S1, x1, cv, p1, p3, p4⟩
  have z1 : w.heap.size ≤ W.heap.size := Nat.le_trans hb.size hf.size
  have z2 := p4.size
  refine ⟨rfl, r, S1, x1, cv, p1, p3.mono ?_ ?_, (Fr.ofBelow hb).trans ((hf.weak (fun i e => by subst e; exact hdO)).trans p4 (fun _ _ e => e)) (fun _ _ e => e)⟩
  · rintro b (e | e)
    · exact .inl e
    · exact .inr ⟨by omega, e.2⟩
  · rintro b (e | e)
    · have := hO b e; omega
    · exact e.2

end Go.Proofs.Ytmpfbemdljfamaa
