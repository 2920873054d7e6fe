/- Remove of a file that is there; Rename to another name. -/
import Derived.Test.YtmpfbemdljfamaaWDown
import Derived.Deep.RegionHeld3
namespace Go.Proofs.Ytmpfbemdljfamaa
open Go.RowKit Go.Maps Go.Sort

theorem Dk.wide {w w3 w4 : World} {O : Nat → Prop} {d : Nat} {S : St} (h : Dk w3 (Ow O w w3) d S) (hO : ∀ b, O b → b < w.heap.size) (h1 : w.heap.size ≤ w3.heap.size) (hb : RowKit.Below w3.heap.size w3 w4) : Dk w4 (Ow O w w4) d S := by
  have h2 : w3.heap.size ≤ w4.heap.size := hb.size
  refine (h.keep hb).mono ?_ ?_
  · rintro b (e | e)
    · exact .inl e
    · exact .inr ⟨e.1, by omega⟩
  · rintro b (e | e)
    · have := hO b e; omega
    · exact e.2

theorem IsChg.wide {w w3 w4 : World} {O : Nat → Prop} {m : Nat} {v : Value} {c : Chg} (h : IsChg w4 (fun k => w3.heap.size ≤ k ∧ k < w4.heap.size) m v c) (h1 : w.heap.size ≤ w3.heap.size) : IsChg w4 (Ow O w w4) m v c :=
  h.mono (fun _ e => .inr ⟨Nat.le_trans h1 e.1, e.2⟩) (Nat.le_refl _)

/-- Behind the row, the change and its adding. -/
theorem added_end {w w3 w4 w5 : World} {O : Nat → Prop} {d : Nat} {S1 : St} {r : Nat} {x1 : Rw} {c : Chg} (hO : ∀ b, O b → b < w.heap.size) (hF : Fr O w w3) (hb : RowKit.Below w3.heap.size w3 w4) (hD : Dk w4 (Ow O w w4) d S1) (hx : S1.R r = some x1) (ha : Added w4 w5 (Ow O w w4) r x1 c S1.nb S1.now) :
    ∃ cv, Dk w5 (Ow O w w5) d (changed S1 r x1 c cv) ∧ Fr O w w5 := by
  obtain ⟨cv, hD5, hF5⟩ := added_dk hD hx ha
  have z1 : w.heap.size ≤ w3.heap.size := hF.size
  have z2 : w3.heap.size ≤ w4.heap.size := hb.size
  have z3 : w4.heap.size ≤ w5.heap.size := hF5.size
  refine ⟨cv, hD5.mono ?_ ?_, ?_⟩
  · rintro b ((e | e) | e)
    · exact .inl e
    · exact .inr ⟨e.1, by omega⟩
    · exact .inr ⟨by omega, e.2⟩
  · rintro b (e | e)
    · have := hO b e; omega
    · exact e.2
  · have hF4 : Fr O w w4 := hF.trans (Fr.ofBelow hb) (fun _ _ e => e)
    exact hF4.ow hF5

theorem rowOf.cell {w : World} {d : Nat} {S : St} {a : ByteArray} {r : Nat} {S1 : St} {x1 : Rw} (h : rowOf S a r S1 x1) (hr : w.rowIs d 48 8 (dc S1)) : w.cell? ⟨d, 1, none⟩ = some (.map (some S.nb)) := by
  have := hr.cell (i := 1) (by omega)
  rw [← h.now.2.2]
  exact this

theorem rowOf.cell2 {w : World} {d : Nat} {S : St} {a : ByteArray} {r : Nat} {S1 : St} {x1 : Rw} {c : Chg} {cv : Value} (h : rowOf S a r S1 x1) (hr : w.rowIs d 48 8 (dc (changed S1 r x1 c cv))) : w.cell? ⟨d, 1, none⟩ = some (.map (some S.nb)) := by
  have := hr.cell (i := 1) (by omega)
  rw [← h.now.2.2]
  exact this

theorem rowOf.rem {w w3 w4 : World} {O : Nat → Prop} {d : Nat} {S : St} {s a : ByteArray} {r b4 : Nat} {S1 : St} {x1 : Rw} (h : rowOf S a r S1 x1) (h1 : w.heap.size ≤ w3.heap.size) (hD : Dk w4 (Ow O w w4) d S1) (hch : IsChg w4 (fun k => w3.heap.size ≤ k ∧ k < w4.heap.size) x1.fs.length (.func (.func 66) #[] #[.pointer (some ⟨b4, 0, none⟩)]) (.removed s)) (hl : x1.cs.length < 1000000) :
    Calls Try.prog 28 #[.pointer (some ⟨r, 0, none⟩), .map (some S.nb), .func (.func 66) #[] #[.pointer (some ⟨b4, 0, none⟩)]] w4 fun e w' => e = .returned (.tuple #[]) ∧ Added w4 w' (Ow O w w4) r x1 (.removed s) S1.nb S1.now := by
  have := add_removed r (Ow O w w4) x1 s b4 S1.nb S1.now w4 (hD.rs.is r _ h.at) (hch.wide h1) hD.now hl
  rw [h.now.2.2] at this ⊢
  exact this

theorem Dk.wide2 {w w2 w3 w4 : World} {O : Nat → Prop} {d : Nat} {S : St} (hD : Dk w3 (Ow O w2 w3) d S) (hO : ∀ b, O b → b < w.heap.size) (h2 : w.heap.size ≤ w2.heap.size) (h1 : w.heap.size ≤ w3.heap.size) (hb : RowKit.Below w3.heap.size w3 w4) : Dk w4 (Ow O w w4) d S :=
  Dk.wide (w3 := w3) (hD.mono (fun _ hb => hb.elim .inl fun e => .inr ⟨Nat.le_trans h2 e.1, e.2⟩) (fun b hb => hb.elim (fun e => Nat.lt_of_lt_of_le (hO b e) h1) fun e => e.2)) hO h1 hb

set_option maxRecDepth 100000 in
set_option maxHeartbeats 4000000 in
theorem rem_yes (d : Nat) (O : Nat → Prop) (S : St) (s a b : ByteArray) (b1 b2 : Nat) (w : World) (h : Dk w O d S) (hc : Caught2 w O d s b1 b2) (hN : Nm s a b)
    (hR : ∀ r, look S.rws a = some r → ∃ x, S.R r = some x ∧ x.cs.length < 1000000) (hz : Maps.size S.rws < maxLen) :
    Calls Try.prog 48 #[.pointer (some ⟨b1, 0, none⟩), .pointer (some ⟨b2, 0, none⟩)] w fun e w' => e = .returned (.tuple #[]) ∧ ∃ r S1 x1 cv, rowOf S a r S1 x1 ∧ Dk w' (Ow O w w') d (changed S1 r x1 (.removed s) cv) ∧ Fr O w w' := by
  have Hh : Hid (Dk w O d S) := h
  have Hc : Hid (Caught2 w O d s b1 b2) := hc
  have HR : Hid (∀ r, look S.rws a = some r → ∃ x, S.R r = some x ∧ x.cs.length < 1000000) := hR
  have k1 := hc.r1.cell (i := 0) (by omega)
  have k2 := hc.r2.cell (i := 0) (by omega)
  have c1 := h.row.cell (i := 1) (by omega)
  simp only [dc] at c1
  have hdir := fun W => dirOf_any s a b W hN
  have hrow := fun W (hW : Dk W O d S) => row_any d O S a W hW hN.pa.le (fun r e => by obtain ⟨x, h1, _⟩ := hR r e; exact ⟨x, h1⟩) hz
  have hlimO := h.lim
  have hcs : ∀ r S1 x1, rowOf S a r S1 x1 → x1.cs.length < 1000000 := by
    intro r S1 x1 hro
    rcases hro with ⟨e1, rfl, e2⟩ | ⟨_, rfl, rfl⟩
    · obtain ⟨x, h1, h2⟩ := hR r e1
      rw [e2] at h1
      cases h1
      exact h2
    · simp
  have Hcs : Hid (∀ r S1 x1, rowOf S a r S1 x1 → x1.cs.length < 1000000) := hcs
  have hnle := hN.le
  clear h hc hR hcs hN
  go_enter Try.func48, Try.ntmps48
  go_region_held3 (fun w' => w'.cell? ⟨b1, 0, none⟩ = some (.pointer (some ⟨d, 0, none⟩)) ∧ w'.cell? ⟨b2, 0, none⟩ = some (.string s) ∧ w'.cell? ⟨d, 1, none⟩ = some (.map (some S.nb))) (go_keep) (first
    | (go_at_call 27; refine (hdir _).mono ?_; rintro e w2 ⟨rfl, hb2⟩; have B2 : RowKit.Below w.heap.size w w2 := (drew_keep w).trans hb2; have D2 := Hh.out.keep B2; have C2 := Hc.out.keep B2; have k12 := C2.r1.cell (i := 0) (by omega); have k22 := C2.r2.cell (i := 0) (by omega); have c12 : w2.cell? ⟨d, 1, none⟩ = some (.map (some S.nb)) := D2.row.cell (i := 1) (by omega))
    | (go_at_call 26; refine (hrow _ D2).mono ?_; rintro e w3 ⟨r, S1, x1, rfl, hro, hD, hf⟩; have F3 : Fr O w w3 := (Fr.ofBelow B2).trans hf (fun _ _ e => e); have C3 := Hc.out.fr F3 (O' := O) (fun b hb => .inl hb); have k13 := C3.r1.cell (i := 0) (by omega); have k23 := C3.r2.cell (i := 0) (by omega); have c13 := hro.cell hD.row)
    | (go_at_call 49; refine (removed_any s w3 hnle x1.fs.length).mono ?_; rintro e w4 ⟨b4, rfl, hch, hb4⟩; (have C4 := C3.keep hb4; have k14 := C4.r1.cell (i := 0) (by omega); have k24 := C4.r2.cell (i := 0) (by omega); have D4 := hD.wide2 hlimO B2.size F3.size hb4; have c14 := hro.cell D4.row; have hadd := hro.rem F3.size D4 hch (Hcs.out _ _ _ hro)))
    | (go_at_call 28; refine hadd.mono ?_; rintro e w5 ⟨rfl, ha⟩; obtain ⟨cv, hD5, hF5⟩ := added_end hlimO F3 hb4 D4 hro.at ha; have C5 := Hc.out.fr hF5 (O' := O) (fun b hb => .inl hb); have k15 := C5.r1.cell (i := 0) (by omega); have k25 := C5.r2.cell (i := 0) (by omega); have c15 := hro.cell2 hD5.row))
  go_wp2_with fail
  go_end0
  exact ⟨rfl, r, S1, x1, cv, hro, hD5, hF5⟩

set_option maxRecDepth 100000 in
set_option maxHeartbeats 1000000 in
theorem remove_yes (d : Nat) (O : Nat → Prop) (S : St) (s a b : ByteArray) (f : Nat) (w : World) (h : Dk w O d S) (hN : Nm s a b) (ho : S.off = false) (hl : look S.now s = some f) (hleft : S.left ≠ 1) (hl2 : -1000000000 ≤ S.left ∧ S.left ≤ 9223372036854775807) (hcl : 0 ≤ S.calls ∧ S.calls ≤ 1000000000)
    (hR : ∀ r, look S.rws a = some r → ∃ x, S.R r = some x ∧ x.cs.length < 1000000) (hz : Maps.size S.rws < maxLen) :
    Calls Try.prog 17 #[.pointer (some ⟨d, 0, none⟩), .string s] w fun e w' => e = .returned (.int .i64 0) ∧ ∃ r S1 x1 cv, rowOf (ticked S) a r S1 x1 ∧ Dk w' (Ow O w w') d (changed S1 r x1 (.removed s) cv) ∧ Fr O w w' := by
  have hb := two_below w (.cells #[.pointer (some ⟨d, 0, none⟩)] 25) (.cells #[.string s] 9)
  have C := caught2 w O d s h.lim
  have h3 := h.keep hb
  have hO := h.lim
  have hdO := h.own.1
  have HB : Hid (RowKit.Below w.heap.size w ((w.alloc (.cells #[.pointer (some ⟨d, 0, none⟩)] 25)).alloc (.cells #[.string s] 9))) := hb
  have hfind := find_yes d S s f _ h3.row h3.now hN.le ho hl
  have hcall : Calls Try.prog 24 #[.pointer (some ⟨d, 0, none⟩), .func (.func 48) #[] #[.pointer (some ⟨w.heap.size, 0, none⟩), .pointer (some ⟨w.heap.size + 1, 0, none⟩)]] ((w.alloc (.cells #[.pointer (some ⟨d, 0, none⟩)] 25)).alloc (.cells #[.string s] 9)) fun e w' => e = .returned (.int .i64 0) ∧ (fun w' => ∃ r S1 x1 cv, rowOf (ticked S) a r S1 x1 ∧ Dk w' (Ow O w w') d (changed S1 r x1 (.removed s) cv) ∧ Fr O w w') w' := by
    refine call_48 d O S _ _ _ (fun w' => ∃ r S1 x1 cv, rowOf (ticked S) a r S1 x1 ∧ Dk w' (Ow O w w') d (changed S1 r x1 (.removed s) cv) ∧ Fr O w w') h3 hleft hl2 hcl ?_
    intro W hW hf
    refine (rem_yes d O (ticked S) s a b _ _ W hW (C.fr (hf.weak (fun i e => by subst e; exact hdO)) (fun _ e => .inl e)) hN hR hz).mono ?_
    rintro e w2 ⟨rfl, r, S1, x1, cv, p1, p3, p4⟩
    have z1 : w.heap.size ≤ W.heap.size := Nat.le_trans hb.size hf.size
    have z2 := p4.size
    refine ⟨rfl, r, S1, x1, cv, p1, p3.mono ?_ ?_, (Fr.ofBelow hb).trans ((hf.weak (fun i e => by subst e; exact hdO)).trans p4 (fun _ _ e => e)) (fun _ _ e => e)⟩
    · rintro b (e | e)
      · exact .inl e
      · exact .inr ⟨by omega, e.2⟩
    · rintro b (e | e)
      · have := hO b e; omega
      · exact e.2
  clear h h3 C hb
  go_enter Try.func17, Try.ntmps17
  go_wp2_with (first
    | (go_at_call 31; refine hfind.mono ?_; rintro e w1 ⟨rfl, hw⟩; subst w1)
    | (go_at_call 24; refine hcall.mono ?_; rintro e w2 ⟨rfl, hRR⟩))
  go_ret
  exact ⟨rfl, hRR⟩

end Go.Proofs.Ytmpfbemdljfamaa
