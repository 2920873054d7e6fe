/- Append. -/
import Derived.Test.YtmpfbemdljfamaaWNewf
namespace Go.Proofs.Ytmpfbemdljfamaa
open Go.RowKit Go.Maps

/-- The three boxes. -/
theorem caught3 (w : World) (O : Nat → Prop) (d : Nat) (s : ByteArray) (ao : Option Addr) (m c : Nat) (ys : List Int) (hO : ∀ b, O b → b < w.heap.size) (hr : Rd w ao m c ys) (na : ∀ ad, ao = some ad → 0 < m → ¬ O ad.block) :
    Caught (((w.alloc (.cells #[.pointer (some ⟨d, 0, none⟩)] 25)).alloc (.cells #[.string s] 9)).alloc (.cells #[.slice ao m c] 22)) O d s ao m c ys w.heap.size (w.heap.size + 1) (w.heap.size + 1 + 1) := by
  have r1 := ((World.rowIs_alloc w #[.pointer (some ⟨d, 0, none⟩)] 25 (fun _ => .pointer (some ⟨d, 0, none⟩)) (fun i hi => by simp at hi; subst hi; rfl)).alloc (.cells #[.string s] 9)).alloc (.cells #[.slice ao m c] 22)
  have r2 := (World.rowIs_alloc (w.alloc (.cells #[.pointer (some ⟨d, 0, none⟩)] 25)) #[.string s] 9 (fun _ => .string s) (fun i hi => by simp at hi; subst hi; rfl)).alloc (.cells #[.slice ao m c] 22)
  have r3 := World.rowIs_alloc ((w.alloc (.cells #[.pointer (some ⟨d, 0, none⟩)] 25)).alloc (.cells #[.string s] 9)) #[.slice ao m c] 22 (fun _ => .slice ao m c) (fun i hi => by simp at hi; subst hi; rfl)
  refine ⟨r1, by simpa using r2, by simpa using r3, ⟨fun h => ?_, fun h => ?_, fun h => ?_⟩, hr.keep (((new_below w _).alloc (by simp) _).alloc (by simp; omega) _), na⟩
  · have := hO _ h; omega
  · have := hO _ h; omega
  · have := hO _ h; omega

theorem Caught.fd {w w' : World} {O : Nat → Prop} {d : Nat} {s : ByteArray} {ao : Option Addr} {m c : Nat} {ys : List Int} {b1 b2 b3 : Nat} (h : Caught w O d s ao m c ys b1 b2 b3) (hd : O d) (hf : Fr (fun k => k = d) w w') : Caught w' O d s ao m c ys b1 b2 b3 :=
  h.fr (hf.weak (fun i e => by subst e; exact hd)) (fun _ e => .inl e)

theorem append_off (d : Nat) (S : St) (s : ByteArray) (ao : Option Addr) (m c : Nat) (w : World) (hr : w.rowIs d 48 8 (dc S)) (ho : S.off = true) :
    Calls Try.prog 9 #[.pointer (some ⟨d, 0, none⟩), .string s, .slice ao m c] w fun e w' => e = .returned (.int .i64 8) ∧ Below w.heap.size w w' := by
  have hr3 := ((hr.alloc (.cells #[.pointer (some ⟨d, 0, none⟩)] 25)).alloc (.cells #[.string s] 9)).alloc (.cells #[.slice ao m c] 22)
  have hb : Below w.heap.size w (((w.alloc (.cells #[.pointer (some ⟨d, 0, none⟩)] 25)).alloc (.cells #[.string s] 9)).alloc (.cells #[.slice ao m c] 22)) := ((new_below w _).alloc (by simp) _).alloc (by simp; omega) _
  go_enter Try.func9, Try.ntmps9
  go_wp2_with (go_at_call 23; refine (room_off d S s m _ hr3 ho).mono ?_; rintro e w1 ⟨rfl, rfl⟩)
  go_ret
  exact ⟨rfl, hb⟩

set_option maxRecDepth 100000 in
set_option maxHeartbeats 1000000 in
theorem append_old (d : Nat) (O : Nat → Prop) (S : St) (s a b : ByteArray) (ao : Option Addr) (m c : Nat) (ys : List Int) (f : Nat) (x : Fl) (w : World) (h : Dk w O d S) (hrd : Rd w ao m c ys) (na : ∀ ad, ao = some ad → 0 < m → ¬ O ad.block) (hN : Nm s a b) (ho : S.off = false) (hl : look S.now s = some f) (hx : S.F f = some x) (hfit : Fits S.F S.now) (hlen : (x.xs.length : Int) + m ≤ 262144) (hq : used S + m ≤ S.q) (hlim : used S ≤ 1000000000) (hleft : S.left ≠ 1) (hl2 : -1000000000 ≤ S.left ∧ S.left ≤ 9223372036854775807) (hcl : 0 ≤ S.calls ∧ S.calls ≤ 1000000000) :
    Calls Try.prog 9 #[.pointer (some ⟨d, 0, none⟩), .string s, .slice ao m c] w fun e w' => e = .returned (.int .i64 0) ∧ ∃ v', Dk w' (Ow O w w') d (filed (ticked S) f ⟨v', x.xs ++ ys, x.s⟩) ∧ Fr O w w' := by
  have hb : Below w.heap.size w (((w.alloc (.cells #[.pointer (some ⟨d, 0, none⟩)] 25)).alloc (.cells #[.string s] 9)).alloc (.cells #[.slice ao m c] 22)) := ((new_below w _).alloc (by simp) _).alloc (by simp; omega) _
  have C := caught3 w O d s ao m c ys h.lim hrd na
  have h3 := h.keep hb
  have hO := h.lim
  have hdO := h.own.1
  have HC : Hid (Caught (((w.alloc (.cells #[.pointer (some ⟨d, 0, none⟩)] 25)).alloc (.cells #[.string s] 9)).alloc (.cells #[.slice ao m c] 22)) O d s ao m c ys w.heap.size (w.heap.size + 1) (w.heap.size + 1 + 1)) := C
  have H3 : Hid (Dk (((w.alloc (.cells #[.pointer (some ⟨d, 0, none⟩)] 25)).alloc (.cells #[.string s] 9)).alloc (.cells #[.slice ao m c] 22)) O d S) := h3
  have HB : Hid (Below w.heap.size w (((w.alloc (.cells #[.pointer (some ⟨d, 0, none⟩)] 25)).alloc (.cells #[.string s] 9)).alloc (.cells #[.slice ao m c] 22))) := hb
  have hroom := room_old d O S s a b m f x _ h3 hN ho hl hx hfit hlen hq hlim
  have hcall : ∀ w1, Dk w1 O d S → Caught w1 O d s ao m c ys w.heap.size (w.heap.size + 1) (w.heap.size + 1 + 1) →
      Calls Try.prog 24 #[.pointer (some ⟨d, 0, none⟩), .func (.func 25) #[] #[.pointer (some ⟨w.heap.size, 0, none⟩), .pointer (some ⟨w.heap.size + 1, 0, none⟩), .pointer (some ⟨w.heap.size + 1 + 1, 0, none⟩)]] w1 fun e w' => e = .returned (.int .i64 0) ∧ (fun w' => ∃ v', Dk w' (Ow O w1 w') d (filed (ticked S) f ⟨v', x.xs ++ ys, x.s⟩) ∧ Fr O w1 w') w' := by
    intro w1 h1 C1
    refine call_25 d O S _ _ _ w1 (fun w' => ∃ v', Dk w' (Ow O w1 w') d (filed (ticked S) f ⟨v', x.xs ++ ys, x.s⟩) ∧ Fr O w1 w') h1 hleft hl2 hcl ?_
    intro W hW hf
    have hh := (fun W hW hf => app_old d O (ticked S) s ao m c ys _ _ _ f x W hW (C1.fd hdO hf) hN.le hl hx (by omega)) W hW hf
    refine hh.mono ?_
    · rintro e w2 ⟨rfl, v, p3, p4⟩
      have z1 : w1.heap.size ≤ W.heap.size := hf.size
      have z2 := p4.size
      refine ⟨rfl, v, p3.mono ?_ ?_, (hf.weak (fun i e => by subst e; exact hdO)).trans p4 (fun _ _ e => e)⟩
      · rintro b (e | e)
        · exact .inl e
        · exact .inr ⟨by omega, e.2⟩
      · rintro b (e | e)
        · have := h1.lim b e; omega
        · exact e.2
  clear h h3 C hb
  go_enter Try.func9, Try.ntmps9
  go_wp2_with (first
    | (go_at_call 23; refine hroom.mono ?_; rintro e w1 ⟨rfl, hb1⟩; have C1 := HC.out.keep hb1; have h1 := H3.out.keep hb1; have k1 := C1.r1.cell (i := 0) (by omega); have hc1 := hcall w1 h1 C1; have B1 := HB.out.trans (hb1.mono HB.out.size))
    | (go_at_call 24; refine hc1.mono ?_; rintro e w2 ⟨rfl, hRR⟩))
  go_ret
  obtain ⟨v, hD, hF⟩ := hRR
  have zB : w.heap.size ≤ w1.heap.size := B1.size
  refine ⟨rfl, v, hD.mono ?_ ?_, (Fr.ofBelow B1).trans hF (fun _ _ e => e)⟩
  · rintro b (e | e)
    · exact .inl e
    · exact .inr ⟨by omega, e.2⟩
  · rintro b (e | e)
    · have := hO b e
      have := hF.size
      omega
    · exact e.2

set_option maxRecDepth 100000 in
set_option maxHeartbeats 1000000 in
theorem append_new (d : Nat) (O : Nat → Prop) (S : St) (s a b : ByteArray) (ao : Option Addr) (m c : Nat) (ys : List Int) (w : World) (h : Dk w O d S) (hrd : Rd w ao m c ys) (na : ∀ ad, ao = some ad → 0 < m → ¬ O ad.block) (hN : Nm s a b) (ho : S.off = false) (hl : look S.now s = none) (hfit : Fits S.F S.now) (hlen : (m : Int) ≤ 262144) (hq : used S + m ≤ S.q) (hcn : Maps.size S.now < 1024) (hlim : used S ≤ 1000000000) (hleft : S.left ≠ 1) (hl2 : -1000000000 ≤ S.left ∧ S.left ≤ 9223372036854775807) (hcl : 0 ≤ S.calls ∧ S.calls ≤ 1000000000) (hR : ∀ r, look S.rws a = some r → ∃ x, S.R r = some x ∧ x.fs.length < 1000000 ∧ x.cs.length < 1000000) (hz : Maps.size S.rws < maxLen) :
    Calls Try.prog 9 #[.pointer (some ⟨d, 0, none⟩), .string s, .slice ao m c] w fun e w' => e = .returned (.int .i64 0) ∧ ∃ r S1 x1 f fv cv v, rowOf (ticked S) a r S1 x1 ∧ w.heap.size ≤ f ∧ Dk w' (Ow O w w') d (filed (newfS S1 r x1 s f fv cv) f ⟨v, ys, 0⟩) ∧ Fr O w w' := by
  have hb : Below w.heap.size w (((w.alloc (.cells #[.pointer (some ⟨d, 0, none⟩)] 25)).alloc (.cells #[.string s] 9)).alloc (.cells #[.slice ao m c] 22)) := ((new_below w _).alloc (by simp) _).alloc (by simp; omega) _
  have C := caught3 w O d s ao m c ys h.lim hrd na
  have h3 := h.keep hb
  have hO := h.lim
  have hdO := h.own.1
  have HC : Hid (Caught (((w.alloc (.cells #[.pointer (some ⟨d, 0, none⟩)] 25)).alloc (.cells #[.string s] 9)).alloc (.cells #[.slice ao m c] 22)) O d s ao m c ys w.heap.size (w.heap.size + 1) (w.heap.size + 1 + 1)) := C
  have H3 : Hid (Dk (((w.alloc (.cells #[.pointer (some ⟨d, 0, none⟩)] 25)).alloc (.cells #[.string s] 9)).alloc (.cells #[.slice ao m c] 22)) O d S) := h3
  have HB : Hid (Below w.heap.size w (((w.alloc (.cells #[.pointer (some ⟨d, 0, none⟩)] 25)).alloc (.cells #[.string s] 9)).alloc (.cells #[.slice ao m c] 22))) := hb
  have hroom := room_new d O S s a b m _ h3 hN ho hl hfit hlen hq hcn hlim
  have hcall : ∀ w1, Dk w1 O d S → Caught w1 O d s ao m c ys w.heap.size (w.heap.size + 1) (w.heap.size + 1 + 1) →
      Calls Try.prog 24 #[.pointer (some ⟨d, 0, none⟩), .func (.func 25) #[] #[.pointer (some ⟨w.heap.size, 0, none⟩), .pointer (some ⟨w.heap.size + 1, 0, none⟩), .pointer (some ⟨w.heap.size + 1 + 1, 0, none⟩)]] w1 fun e w' => e = .returned (.int .i64 0) ∧ (fun w' => ∃ r S1 x1 f fv cv v, rowOf (ticked S) a r S1 x1 ∧ w1.heap.size ≤ f ∧ Dk w' (Ow O w1 w') d (filed (newfS S1 r x1 s f fv cv) f ⟨v, ys, 0⟩) ∧ Fr O w1 w') w' := by
    intro w1 h1 C1
    refine call_25 d O S _ _ _ w1 (fun w' => ∃ r S1 x1 f fv cv v, rowOf (ticked S) a r S1 x1 ∧ w1.heap.size ≤ f ∧ Dk w' (Ow O w1 w') d (filed (newfS S1 r x1 s f fv cv) f ⟨v, ys, 0⟩) ∧ Fr O w1 w') h1 hleft hl2 hcl ?_
    intro W hW hf
    have hh := (fun W hW hf => app_new d O (ticked S) s a b ao m c ys _ _ _ W hW (C1.fd hdO hf) hN hl hR hz (by unfold maxLen; have e : (ticked S).now = S.now := rfl; rw [e]; omega) (by omega)) W hW hf
    refine hh.mono ?_
    · rintro e w2 ⟨rfl, r, S1, x1, f, fv, cv, v, p1, p2, p3, p4⟩
      have z1 : w1.heap.size ≤ W.heap.size := hf.size
      have z2 := p4.size
      refine ⟨rfl, r, S1, x1, f, fv, cv, v, p1, by omega, p3.mono ?_ ?_, (hf.weak (fun i e => by subst e; exact hdO)).trans p4 (fun _ _ e => e)⟩
      · rintro b (e | e)
        · exact .inl e
        · exact .inr ⟨by omega, e.2⟩
      · rintro b (e | e)
        · have := h1.lim b e; omega
        · exact e.2
  clear h h3 C hb
  go_enter Try.func9, Try.ntmps9
  go_wp2_with (first
    | (go_at_call 23; refine hroom.mono ?_; rintro e w1 ⟨rfl, hb1⟩; have C1 := HC.out.keep hb1; have h1 := H3.out.keep hb1; have k1 := C1.r1.cell (i := 0) (by omega); have hc1 := hcall w1 h1 C1; have B1 := HB.out.trans (hb1.mono HB.out.size))
    | (go_at_call 24; refine hc1.mono ?_; rintro e w2 ⟨rfl, hRR⟩))
  go_ret
  obtain ⟨r, S1, x1, f, fv, cv, v, hro, hff, hD, hF⟩ := hRR
  have zB : w.heap.size ≤ w1.heap.size := B1.size
  refine ⟨rfl, r, S1, x1, f, fv, cv, v, hro, by omega, hD.mono ?_ ?_, (Fr.ofBelow B1).trans hF (fun _ _ e => e)⟩
  · rintro b (e | e)
    · exact .inl e
    · exact .inr ⟨by omega, e.2⟩
  · rintro b (e | e)
    · have := hO b e
      have := hF.size
      omega
    · exact e.2

set_option maxRecDepth 100000 in
set_option maxHeartbeats 1000000 in
theorem append_fullold (d : Nat) (O : Nat → Prop) (S : St) (s a b : ByteArray) (ao : Option Addr) (m c : Nat) (f : Nat) (x : Fl) (w : World) (h : Dk w O d S) (hN : Nm s a b) (ho : S.off = false) (hl : look S.now s = some f) (hx : S.F f = some x) (hfit : Fits S.F S.now) (hlen : (x.xs.length : Int) + m ≤ 262144) (hq : S.q < used S + m) (hlim : used S ≤ 1000000000) :
    Calls Try.prog 9 #[.pointer (some ⟨d, 0, none⟩), .string s, .slice ao m c] w fun e w' => e = .returned (.int .i64 7) ∧ Below w.heap.size w w' := by
  have hb : Below w.heap.size w (((w.alloc (.cells #[.pointer (some ⟨d, 0, none⟩)] 25)).alloc (.cells #[.string s] 9)).alloc (.cells #[.slice ao m c] 22)) := ((new_below w _).alloc (by simp) _).alloc (by simp; omega) _
  have h3 := h.keep hb
  have HB : Hid (Below w.heap.size w (((w.alloc (.cells #[.pointer (some ⟨d, 0, none⟩)] 25)).alloc (.cells #[.string s] 9)).alloc (.cells #[.slice ao m c] 22))) := hb
  have hroom := room_fullold d O S s a b m f x _ h3 hN ho hl hx hfit hlen hq hlim
  clear h h3 hb
  go_enter Try.func9, Try.ntmps9
  go_wp2_with (go_at_call 23; refine hroom.mono ?_; rintro e w1 ⟨rfl, hb1⟩)
  go_ret
  exact ⟨rfl, HB.out.trans (hb1.mono HB.out.size)⟩

set_option maxRecDepth 100000 in
set_option maxHeartbeats 1000000 in
theorem append_fullnew (d : Nat) (O : Nat → Prop) (S : St) (s a b : ByteArray) (ao : Option Addr) (m c : Nat) (w : World) (h : Dk w O d S) (hN : Nm s a b) (ho : S.off = false) (hl : look S.now s = none) (hfit : Fits S.F S.now) (hlen : (m : Int) ≤ 262144) (hq : S.q < used S + m) (hlim : used S ≤ 1000000000) :
    Calls Try.prog 9 #[.pointer (some ⟨d, 0, none⟩), .string s, .slice ao m c] w fun e w' => e = .returned (.int .i64 7) ∧ Below w.heap.size w w' := by
  have hb : Below w.heap.size w (((w.alloc (.cells #[.pointer (some ⟨d, 0, none⟩)] 25)).alloc (.cells #[.string s] 9)).alloc (.cells #[.slice ao m c] 22)) := ((new_below w _).alloc (by simp) _).alloc (by simp; omega) _
  have h3 := h.keep hb
  have HB : Hid (Below w.heap.size w (((w.alloc (.cells #[.pointer (some ⟨d, 0, none⟩)] 25)).alloc (.cells #[.string s] 9)).alloc (.cells #[.slice ao m c] 22))) := hb
  have hroom := room_fullnew d O S s a b m _ h3 hN ho hl hfit hlen hq hlim
  clear h h3 hb
  go_enter Try.func9, Try.ntmps9
  go_wp2_with (go_at_call 23; refine hroom.mono ?_; rintro e w1 ⟨rfl, hb1⟩)
  go_ret
  exact ⟨rfl, HB.out.trans (hb1.mono HB.out.size)⟩

end Go.Proofs.Ytmpfbemdljfamaa
