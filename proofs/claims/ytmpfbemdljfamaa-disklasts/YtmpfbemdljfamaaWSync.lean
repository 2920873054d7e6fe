/- SyncDir, Sync. -/
import Derived.Test.YtmpfbemdljfamaaWSettle
namespace Go.Proofs.Ytmpfbemdljfamaa
open Go.RowKit Go.Maps

/-- The two boxes' world. -/
theorem two_below (w : World) (o o' : Obj) : Below w.heap.size w ((w.alloc o).alloc o') := (new_below w _).alloc (by simp) _

set_option maxRecDepth 100000 in
set_option maxHeartbeats 1000000 in
theorem syncDir_none (d : Nat) (O : Nat → Prop) (S : St) (a : ByteArray) (w : World) (h : Dk w O d S) (ha : Part a) (ho : S.off = false) (hl : look S.rws a = none) (hleft : S.left ≠ 1) (hl2 : -1000000000 ≤ S.left ∧ S.left ≤ 9223372036854775807) (hcl : 0 ≤ S.calls ∧ S.calls ≤ 1000000000) :
    Calls Try.prog 12 #[.pointer (some ⟨d, 0, none⟩), .string a] w fun e w' => e = .returned (.int .i64 0) ∧ Dk w' O d (ticked S) ∧ Fr O w w' := by
  have hb := two_below w (.cells #[.pointer (some ⟨d, 0, none⟩)] 25) (.cells #[.string a] 9)
  have C := caught2 w O d a h.lim
  have h3 := h.keep hb
  have hdO := h.own.1
  have c4 := h3.row.cell (i := 4) (by omega)
  simp only [dc, ho] at c4
  have HC : Hid (Caught2 ((w.alloc (.cells #[.pointer (some ⟨d, 0, none⟩)] 25)).alloc (.cells #[.string a] 9)) O d a w.heap.size (w.heap.size + 1)) := C
  have H3 : Hid (Dk ((w.alloc (.cells #[.pointer (some ⟨d, 0, none⟩)] 25)).alloc (.cells #[.string a] 9)) O d S) := h3
  have HB : Hid (Below w.heap.size w ((w.alloc (.cells #[.pointer (some ⟨d, 0, none⟩)] 25)).alloc (.cells #[.string a] 9))) := hb
  have hcall : ∀ w1, Dk w1 O d S → Caught2 w1 O d a w.heap.size (w.heap.size + 1) →
      Calls Try.prog 24 #[.pointer (some ⟨d, 0, none⟩), .func (.func 36) #[] #[.pointer (some ⟨w.heap.size, 0, none⟩), .pointer (some ⟨w.heap.size + 1, 0, none⟩)]] w1 fun e w' => e = .returned (.int .i64 0) ∧ (fun w' => Dk w' O d (ticked S) ∧ Fr O w1 w') w' := by
    intro w1 h1 C1
    refine call_36 d O S _ _ w1 (fun w' => Dk w' O d (ticked S) ∧ Fr O w1 w') h1 hleft hl2 hcl ?_
    intro W hW hf
    have hf' : Fr O w1 W := hf.weak (fun i e => by subst e; exact hdO)
    refine (sd_none d O (ticked S) a _ _ W hW (C1.fr hf' (fun _ e => .inl e)) ha.le hl).mono ?_
    rintro e w2 ⟨rfl, p⟩
    exact ⟨rfl, hW.keep p, hf'.trans (Fr.ofBelow p) (fun _ _ e => e)⟩
  have hpart := fun w => isPart_yes a w ha
  have k2 := C.r2.cell (i := 0) (by omega)
  clear h h3 C hb
  go_enter Try.func12, Try.ntmps12
  go_wp2_with (first
    | (go_at_call 35; refine (hpart _).mono ?_; rintro e w1 ⟨rfl, hb1⟩; have C1 := HC.out.keep hb1; have h1 := H3.out.keep hb1; have k1 := C1.r1.cell (i := 0) (by omega); have hc1 := hcall w1 h1 C1; have B1 := HB.out.trans (hb1.mono HB.out.size))
    | (go_at_call 24; refine hc1.mono ?_; rintro e w2 ⟨rfl, hD, hF⟩))
  go_ret
  exact ⟨rfl, hD, (Fr.ofBelow B1).trans hF (fun _ _ e => e)⟩

set_option maxRecDepth 100000 in
set_option maxHeartbeats 1000000 in
theorem syncDir_yes (d : Nat) (O : Nat → Prop) (S : St) (a : ByteArray) (r : Nat) (x : Rw) (w : World) (h : Dk w O d S) (ha : Part a) (ho : S.off = false) (hl : look S.rws a = some r) (hx : S.R r = some x) (hs : Maps.size S.last + x.cs.length < 1000000000) (hleft : S.left ≠ 1) (hl2 : -1000000000 ≤ S.left ∧ S.left ≤ 9223372036854775807) (hcl : 0 ≤ S.calls ∧ S.calls ≤ 1000000000) :
    Calls Try.prog 12 #[.pointer (some ⟨d, 0, none⟩), .string a] w fun e w' => e = .returned (.int .i64 0) ∧ Dk w' O d (settled (ticked S) a x x.cs.length) ∧ Fr O w w' := by
  have hb := two_below w (.cells #[.pointer (some ⟨d, 0, none⟩)] 25) (.cells #[.string a] 9)
  have C := caught2 w O d a h.lim
  have h3 := h.keep hb
  have hdO := h.own.1
  have c4 := h3.row.cell (i := 4) (by omega)
  simp only [dc, ho] at c4
  have HC : Hid (Caught2 ((w.alloc (.cells #[.pointer (some ⟨d, 0, none⟩)] 25)).alloc (.cells #[.string a] 9)) O d a w.heap.size (w.heap.size + 1)) := C
  have H3 : Hid (Dk ((w.alloc (.cells #[.pointer (some ⟨d, 0, none⟩)] 25)).alloc (.cells #[.string a] 9)) O d S) := h3
  have HB : Hid (Below w.heap.size w ((w.alloc (.cells #[.pointer (some ⟨d, 0, none⟩)] 25)).alloc (.cells #[.string a] 9))) := hb
  have hcall : ∀ w1, Dk w1 O d S → Caught2 w1 O d a w.heap.size (w.heap.size + 1) →
      Calls Try.prog 24 #[.pointer (some ⟨d, 0, none⟩), .func (.func 36) #[] #[.pointer (some ⟨w.heap.size, 0, none⟩), .pointer (some ⟨w.heap.size + 1, 0, none⟩)]] w1 fun e w' => e = .returned (.int .i64 0) ∧ (fun w' => Dk w' O d (settled (ticked S) a x x.cs.length) ∧ Fr O w1 w') w' := by
    intro w1 h1 C1
    refine call_36 d O S _ _ w1 (fun w' => Dk w' O d (settled (ticked S) a x x.cs.length) ∧ Fr O w1 w') h1 hleft hl2 hcl ?_
    intro W hW hf
    have hf' : Fr O w1 W := hf.weak (fun i e => by subst e; exact hdO)
    refine (sd_yes d O (ticked S) a _ _ r x W hW (C1.fr hf' (fun _ e => .inl e)) ha.le hl hx hs).mono ?_
    rintro e w2 ⟨rfl, p1, p2⟩
    exact ⟨rfl, p1, hf'.trans p2 (fun _ _ e => e)⟩
  have hpart := fun w => isPart_yes a w ha
  have k2 := C.r2.cell (i := 0) (by omega)
  clear h h3 C hb
  go_enter Try.func12, Try.ntmps12
  go_wp2_with (first
    | (go_at_call 35; refine (hpart _).mono ?_; rintro e w1 ⟨rfl, hb1⟩; have C1 := HC.out.keep hb1; have h1 := H3.out.keep hb1; have k1 := C1.r1.cell (i := 0) (by omega); have hc1 := hcall w1 h1 C1; have B1 := HB.out.trans (hb1.mono HB.out.size))
    | (go_at_call 24; refine hc1.mono ?_; rintro e w2 ⟨rfl, hD, hF⟩))
  go_ret
  exact ⟨rfl, hD, (Fr.ofBelow B1).trans hF (fun _ _ e => e)⟩

theorem sync_dk {w w' : World} {O : Nat → Prop} {d : Nat} {S : St} {f : Nat} {x : Fl} (h : Dk w O d S) (hx : S.F f = some x) (hr : w'.rowIs f 79 2 (fc ⟨x.v, x.xs, x.xs.length⟩)) (hf : Fr (fun k => k = f) w w') : Dk w' O d (filed S f ⟨x.v, x.xs, x.xs.length⟩) ∧ Fr O w w' := by
  have hF := h.fs.is f x hx
  have hd : w'.ownsRow 0 5 1 x.v x.xs.length (x.xs.map (Value.int .u8)) := ownsRow_fr hF.dat hf (fun g e hk => by
    have := kd_own hF.dat e
    rw [hk, kd_row hF.row] at this; cases this)
  refine ⟨h.setF (More.refl h.lim hf.size) hx ⟨hr, hd, hF.byt, ⟨Int.natCast_nonneg _, Int.le_refl _⟩, hF.own⟩ (hf.weak (fun i e => .inl e)) (fun g e => .inl e), hf.weak (fun i e => by subst e; exact hF.own.1)⟩

set_option maxRecDepth 100000 in
set_option maxHeartbeats 1000000 in
theorem syncF_yes (d : Nat) (O : Nat → Prop) (S : St) (s : ByteArray) (f : Nat) (x : Fl) (w : World) (h : Dk w O d S) (hs : s.size ≤ maxLen) (ho : S.off = false) (hl : look S.now s = some f) (hx : S.F f = some x) (hleft : S.left ≠ 1) (hl2 : -1000000000 ≤ S.left ∧ S.left ≤ 9223372036854775807) (hcl : 0 ≤ S.calls ∧ S.calls ≤ 1000000000) :
    Calls Try.prog 10 #[.pointer (some ⟨d, 0, none⟩), .string s] w fun e w' => e = .returned (.int .i64 0) ∧ Dk w' O d (filed (ticked S) f ⟨x.v, x.xs, x.xs.length⟩) ∧ Fr O w w' := by
  have hfind := find_yes d S s f w h.row h.now hs ho hl
  have hdO := h.own.1
  have hcall : Calls Try.prog 24 #[.pointer (some ⟨d, 0, none⟩), .func (.func 32) #[.pointer (some ⟨f, 0, none⟩)] #[]] w fun e w' => e = .returned (.int .i64 0) ∧ (fun w' => Dk w' O d (filed (ticked S) f ⟨x.v, x.xs, x.xs.length⟩) ∧ Fr O w w') w' := by
    refine call_32 d O S f w (fun w' => Dk w' O d (filed (ticked S) f ⟨x.v, x.xs, x.xs.length⟩) ∧ Fr O w w') h hleft hl2 hcl ?_
    intro W hW hf
    have hF := hW.fs.is f x hx
    refine (sync_any f x W hF.row hF.dat).mono ?_
    rintro e w2 ⟨rfl, p1, p2⟩
    have := sync_dk hW hx p1 p2
    exact ⟨rfl, this.1, (hf.weak (fun i e => by subst e; exact hdO)).trans this.2 (fun _ _ e => e)⟩
  clear h
  go_enter Try.func10, Try.ntmps10
  go_wp2_with (first
    | (go_at_call 31; refine hfind.mono ?_; rintro e w1 ⟨rfl, rfl⟩)
    | (go_at_call 24; refine hcall.mono ?_; rintro e w2 ⟨rfl, hD, hF⟩))
  go_ret
  exact ⟨rfl, hD, hF⟩

end Go.Proofs.Ytmpfbemdljfamaa
