/- A disk with one file, armed. -/
import Derived.Test.YtmpfbemdljfamaaWRen
namespace Go.Proofs.Ytmpfbemdljfamaa
open Go.RowKit Go.Maps Go.Sort

set_option maxRecDepth 100000 in
set_option maxHeartbeats 1000000 in
theorem append_down (d : Nat) (O : Nat → Prop) (S : St) (s a b : ByteArray) (ao : Option Addr) (m c : Nat) (f : Nat) (x : Fl) (z : Int) (R : World → Prop) (w : World) (h : Dk w O d S) (hN : Nm s a b) (ho : S.off = false) (hl : look S.now s = some f) (hx : S.F f = some x) (hfit : Fits S.F S.now) (hlen : (x.xs.length : Int) + m ≤ 262144) (hq : used S + m ≤ S.q) (hlim : used S ≤ 1000000000)
    (hcall : ∀ u w1, RowKit.Below w.heap.size w w1 → Dk w1 O d S → Calls Try.prog 24 #[.pointer (some ⟨d, 0, none⟩), u] w1 fun e w' => e = .returned (.int .i64 z) ∧ R w') :
    Calls Try.prog 9 #[.pointer (some ⟨d, 0, none⟩), .string s, .slice ao m c] w fun e w' => e = .returned (.int .i64 z) ∧ R w' := by
  have hb : RowKit.Below w.heap.size w (((w.alloc (.cells #[.pointer (some ⟨d, 0, none⟩)] 25)).alloc (.cells #[.string s] 9)).alloc (.cells #[.slice ao m c] 22)) := ((new_below w _).alloc (by simp) _).alloc (by simp; omega) _
  have h3 := h.keep hb
  have H3 : Hid (Dk (((w.alloc (.cells #[.pointer (some ⟨d, 0, none⟩)] 25)).alloc (.cells #[.string s] 9)).alloc (.cells #[.slice ao m c] 22)) O d S) := h3
  have HB : Hid (RowKit.Below w.heap.size w (((w.alloc (.cells #[.pointer (some ⟨d, 0, none⟩)] 25)).alloc (.cells #[.string s] 9)).alloc (.cells #[.slice ao m c] 22))) := hb
  have r1 := ((World.rowIs_alloc w #[.pointer (some ⟨d, 0, none⟩)] 25 (fun _ => .pointer (some ⟨d, 0, none⟩)) (fun i hi => by simp at hi; subst hi; rfl)).alloc (.cells #[.string s] 9)).alloc (.cells #[.slice ao m c] 22)
  have HR : Hid ((((w.alloc (.cells #[.pointer (some ⟨d, 0, none⟩)] 25)).alloc (.cells #[.string s] 9)).alloc (.cells #[.slice ao m c] 22)).rowIs w.heap.size 25 1 (fun _ => .pointer (some ⟨d, 0, none⟩))) := r1
  have hroom := room_old d O S s a b m f x _ h3 hN ho hl hx hfit hlen hq hlim
  clear h h3 hb r1
  go_enter Try.func9, Try.ntmps9
  go_wp2_with (first
    | (go_at_call 23; refine hroom.mono ?_; rintro e w1 ⟨rfl, hb1⟩; have k1 := (rowIs_fr (P := fun _ => False) HR.out (Fr.ofBelow hb1) (fun h => h)).cell (i := 0) (by omega); have hc1 := fun u => hcall u w1 (HB.out.trans (hb1.mono HB.out.size)) (H3.out.keep hb1))
    | (go_at_call 24; refine (hc1 _).mono ?_; rintro e w2 ⟨rfl, hR⟩))
  go_ret
  exact ⟨rfl, hR⟩

theorem sync_down (d : Nat) (O : Nat → Prop) (S : St) (s : ByteArray) (f : Nat) (z : Int) (R : World → Prop) (w : World) (h : Dk w O d S) (hs : s.size ≤ maxLen) (ho : S.off = false) (hl : look S.now s = some f)
    (hcall : ∀ u w1, RowKit.Below w.heap.size w w1 → Dk w1 O d S → Calls Try.prog 24 #[.pointer (some ⟨d, 0, none⟩), u] w1 fun e w' => e = .returned (.int .i64 z) ∧ R w') :
    Calls Try.prog 10 #[.pointer (some ⟨d, 0, none⟩), .string s] w fun e w' => e = .returned (.int .i64 z) ∧ R w' := by
  have hfind := find_yes d S s f w h.row h.now hs ho hl
  have hc := fun u => hcall u w (RowKit.Below.refl _ _) h
  clear h hcall
  go_enter Try.func10, Try.ntmps10
  go_wp2_with (first
    | (go_at_call 31; refine hfind.mono ?_; rintro e w1 ⟨rfl, rfl⟩)
    | (go_at_call 24; refine (hc _).mono ?_; rintro e w2 ⟨rfl, hR⟩))
  go_ret
  exact ⟨rfl, hR⟩

set_option maxRecDepth 100000 in
set_option maxHeartbeats 1000000 in
theorem syncDir_down (d : Nat) (O : Nat → Prop) (S : St) (a : ByteArray) (z : Int) (R : World → Prop) (w : World) (h : Dk w O d S) (ha : Part a) (ho : S.off = false)
    (hcall : ∀ u w1, RowKit.Below w.heap.size w w1 → Dk w1 O d S → Calls Try.prog 24 #[.pointer (some ⟨d, 0, none⟩), u] w1 fun e w' => e = .returned (.int .i64 z) ∧ R w') :
    Calls Try.prog 12 #[.pointer (some ⟨d, 0, none⟩), .string a] w fun e w' => e = .returned (.int .i64 z) ∧ R w' := by
  have hb := two_below w (.cells #[.pointer (some ⟨d, 0, none⟩)] 25) (.cells #[.string a] 9)
  have C := caught2 w O d a h.lim
  have h3 := h.keep hb
  have c4 := h3.row.cell (i := 4) (by omega)
  simp only [dc, ho] at c4
  have HC : Hid (Caught2 ((w.alloc (.cells #[.pointer (some ⟨d, 0, none⟩)] 25)).alloc (.cells #[.string a] 9)) O d a w.heap.size (w.heap.size + 1)) := C
  have H3 : Hid (Dk ((w.alloc (.cells #[.pointer (some ⟨d, 0, none⟩)] 25)).alloc (.cells #[.string a] 9)) O d S) := h3
  have HB : Hid (RowKit.Below w.heap.size w ((w.alloc (.cells #[.pointer (some ⟨d, 0, none⟩)] 25)).alloc (.cells #[.string a] 9))) := hb
  have hpart := fun w => isPart_yes a w ha
  have k2 := C.r2.cell (i := 0) (by omega)
  clear h h3 C hb
  go_enter Try.func12, Try.ntmps12
  go_wp2_with (first
    | (go_at_call 35; refine (hpart _).mono ?_; rintro e w1 ⟨rfl, hb1⟩; have C1 := HC.out.keep hb1; have k1 := C1.r1.cell (i := 0) (by omega); have hc1 := fun u => hcall u w1 (HB.out.trans (hb1.mono HB.out.size)) (H3.out.keep hb1))
    | (go_at_call 24; refine (hc1 _).mono ?_; rintro e w2 ⟨rfl, hR⟩))
  go_ret
  exact ⟨rfl, hR⟩

abbrev tAX : ByteArray := { data := #[97, 47, 120] }
abbrev tAN : ByteArray := { data := #[97, 47, 110, 111, 110, 101] }

theorem nmAX : Nm tAX tA { data := #[120] } := nmA _ _ (by decide) (by decide) (by decide) (by decide) (by decide) (by decide) (part_of _ (by decide) (by decide) (by decide) (by decide) (by decide))

/-- The disk of the law: one file, k calls done behind the first one, l of them to go. -/
structure Ar (S : St) (f : Nat) (k l : Int) : Prop where
  vw : ∃ last rws, Vw S 1048576 false (1 + k) l [(nm tAX, pd f)] last rws ∧
    ((∃ r xr, rws = [(nm tA, pd r)] ∧ last = [] ∧ S.R r = some xr ∧ xr.cs = [.made tAX 0] ∧ xr.fs = [f]) ∨ (rws = [] ∧ last = [(nm tAX, pd f)]))
  ps : S.ps = []
  fil : ∃ x, S.F f = some x ∧ (x.xs.length : Int) ≤ 1 + k
  len : LenB S 100000

theorem Ar.sets {S : St} {f : Nat} {k l : Int} (h : Ar S f k l) : ∀ l a l2 S1 ps1, sk S.rws = l ++ a :: l2 → Sets l (offed S) [] S1 ps1 → ∃ r x, look S1.rws (key a) = some r ∧ S1.R r = some x ∧ Maps.size S1.last + x.cs.length < 1000000000 ∧ (key a).size ≤ maxLen := by
  obtain ⟨last, rws, V, hc⟩ := h.vw
  intro l a l2 S1 ps1 h1 h2
  rcases hc with ⟨r, xr, rfl, rfl, hr, hcs, _⟩ | ⟨rfl, rfl⟩
  · rw [V.rws, sk_one] at h1
    obtain ⟨rfl, rfl, rfl⟩ := cons_one h1
    obtain ⟨rfl, rfl⟩ := sets_inv h2 rfl
    refine ⟨r, xr, ?_, hr, ?_, by decide⟩
    · show look S.rws _ = _
      rw [V.rws]
      rfl
    · show Maps.size S.last + _ < _
      rw [V.last, hcs]
      show 0 + 1 < 1000000000
      decide
  · rw [V.rws, sk_nil] at h1
    cases l <;> cases h1

theorem Ar.fit {S : St} {f : Nat} {k l : Int} (h : Ar S f k l) : ∀ S1 ps1, Sets (sk S.rws) (offed S) [] S1 ps1 → Maps.size S1.last ≤ 1000000000 ∧ ∀ a ∈ sk S1.last, (key a).size ≤ maxLen ∧ ∃ f x, look S1.last (key a) = some f ∧ S.F f = some x := by
  obtain ⟨last, rws, V, hc⟩ := h.vw
  obtain ⟨x, hx, _⟩ := h.fil
  intro S1 ps1 h1
  have e : S1.last = .map last := (sets_none h1 rfl).2.trans V.last
  rw [e]
  rcases hc with ⟨r, xr, rfl, rfl, hr, hcs, _⟩ | ⟨rfl, rfl⟩
  · refine ⟨show (0 : Nat) ≤ 1000000000 by decide, fun a ha => ?_⟩
    rw [sk_nil] at ha
    cases ha
  · refine ⟨show (1 : Nat) ≤ 1000000000 by decide, fun a ha => ?_⟩
    rw [sk_one] at ha
    obtain rfl := List.mem_singleton.1 ha
    exact ⟨by decide, f, _, rfl, hx⟩

theorem Ar.crash {S : St} {f : Nat} {k : Int} (h : Ar S f k 1) (d : Nat) (O : Nat → Prop) (w0 : World) : ∀ u w1, RowKit.Below w0.heap.size w0 w1 → Dk w1 O d S → Calls Try.prog 24 #[.pointer (some ⟨d, 0, none⟩), u] w1 fun e w' => e = .returned (.int .i64 8) ∧ (fun w' => ∃ S2 O2, Gone S S2 ∧ Dk w' O2 d S2 ∧ (∀ b, O2 b → O b ∨ w0.heap.size ≤ b) ∧ Fr O w0 w') w' := by
  intro u w1 hb hD
  have hf := h.fit
  have hs := h.sets
  obtain ⟨last, rws, V, hc⟩ := h.vw
  have hz : Maps.size S.rws ≤ 1000000000 := by
    rw [V.rws]
    rcases hc with ⟨r, xr, rfl, _⟩ | ⟨rfl, _⟩
    · exact (show (1 : Nat) ≤ 1000000000 by decide)
    · exact (show (0 : Nat) ≤ 1000000000 by decide)
  refine (call_crash d O S u w1 hD V.left h.ps hz hs hf (fun f x hx => Nat.le_trans (h.len f x hx) (by decide))).mono ?_
  rintro e w' ⟨rfl, S2, hg, D2, F2⟩
  exact ⟨rfl, S2, _, hg, D2, fun b hb' => hb'.elim .inl fun e => .inr (Nat.le_trans hb.size e.1), (Fr.ofBelow hb).trans F2 (fun _ _ e => e)⟩

theorem Ar.used {S : St} {f : Nat} {k l : Int} (h : Ar S f k l) : used S ≤ 1 + k ∧ Fits S.F S.now := by
  obtain ⟨last, rws, V, hc⟩ := h.vw
  obtain ⟨x, hx, hl⟩ := h.fil
  exact ⟨by rw [used_one V.now hx]; exact hl, fits_one V.now hx⟩

end Go.Proofs.Ytmpfbemdljfamaa
