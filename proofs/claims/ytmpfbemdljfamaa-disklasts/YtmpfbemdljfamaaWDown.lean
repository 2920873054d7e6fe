/- The power goes at a call. -/
import Derived.Test.YtmpfbemdljfamaaWKnown
namespace Go.Proofs.Ytmpfbemdljfamaa
open Go.RowKit Go.Maps Go.Sort

/-- Behind a crash without picks. -/
structure Gone (S S2 : St) : Prop where
  off : S2.off = true
  calls : S2.calls = S.calls

set_option maxRecDepth 100000 in
set_option maxHeartbeats 1000000 in
theorem call_crash (d : Nat) (O : Nat → Prop) (S : St) (u : Value) (w : World) (h : Dk w O d S) (hl : S.left = 1) (hp : S.ps = []) (hz : Maps.size S.rws ≤ 1000000000)
    (hs : ∀ l a l2 S1 ps1, sk S.rws = l ++ a :: l2 → Sets l (offed S) [] S1 ps1 → ∃ r x, look S1.rws (key a) = some r ∧ S1.R r = some x ∧ Maps.size S1.last + x.cs.length < 1000000000 ∧ (key a).size ≤ maxLen)
    (hfit : ∀ S1 ps1, Sets (sk S.rws) (offed S) [] S1 ps1 → Maps.size S1.last ≤ 1000000000 ∧ ∀ a ∈ sk S1.last, (key a).size ≤ maxLen ∧ ∃ f x, look S1.last (key a) = some f ∧ S.F f = some x) (hlen : ∀ f x, S.F f = some x → x.xs.length ≤ 140737488351232) :
    Calls Try.prog 24 #[.pointer (some ⟨d, 0, none⟩), u] w fun e w' => e = .returned (.int .i64 8) ∧ ∃ S2, Gone S S2 ∧ Dk w' (Ow O w w') d S2 ∧ Fr O w w' := by
  have c6 := h.row.cell (i := 6) (by omega)
  have c7 := h.row.cell (i := 7) (by omega)
  simp only [dc, hl] at c6 c7
  have hpic := h.pic
  rw [hp] at hpic
  obtain ⟨ao, c, hv⟩ := own_shape hpic
  simp only [List.length_nil] at hv
  rw [hv] at c7 hpic
  have hri : Ri w ao 0 c (fun j => ([] : List Int).getD j 0) := by
    refine ⟨Nat.zero_le _, fun e => ⟨rfl, ?_⟩, fun ad _ j hj => by omega⟩
    rcases hpic.2 with ⟨e', _⟩ | ⟨g, cap, cur, e', _⟩
    · injection e' with _ _ e3
    · rw [e] at e'; cases e'
  have hcr := crash_any d O S ao 0 c [] w h hri rfl (fun ad _ h0 => by omega) hz hs hfit hlen
  clear h hpic hri hv
  go_enter Try.func24, Try.ntmps24
  go_wp2_with (go_at_call 13; refine hcr.mono ?_; rintro e w2 ⟨rfl, S1, ps1, nb, S2, ps2, hset, hcut, D2, F2⟩)
  go_ret
  have e3 := sets_off hset
  have e4 := cuts_same hcut
  exact ⟨rfl, S2, ⟨e4.2.2.2.1.trans e3.1, e4.2.2.2.2.1.trans e3.2.1⟩, D2, F2⟩

theorem remove_none (d : Nat) (O : Nat → Prop) (S : St) (s : ByteArray) (w : World) (h : Dk w O d S) (hs : s.size ≤ maxLen) (ho : S.off = false) (hl : look S.now s = none) :
    Calls Try.prog 17 #[.pointer (some ⟨d, 0, none⟩), .string s] w fun e w' => e = .returned (.int .i64 6) ∧ RowKit.Below w.heap.size w w' := by
  have hb := two_below w (.cells #[.pointer (some ⟨d, 0, none⟩)] 25) (.cells #[.string s] 9)
  have h3 := h.keep hb
  have hfind := find_none d S s _ h3.row h3.now hs ho hl
  clear h h3
  go_enter Try.func17, Try.ntmps17
  go_wp2_with (go_at_call 31; refine hfind.mono ?_; rintro e w1 ⟨rfl, hw⟩; subst w1)
  go_ret
  exact ⟨rfl, hb⟩

/-- What Rename has caught. -/
structure Caught3 (w : World) (O : Nat → Prop) (d : Nat) (s t : ByteArray) (b1 b2 b3 : Nat) : Prop where
  r1 : w.rowIs b1 25 1 (fun _ => .pointer (some ⟨d, 0, none⟩))
  r2 : w.rowIs b2 9 1 (fun _ => .string s)
  r3 : w.rowIs b3 9 1 (fun _ => .string t)
  n1 : ¬ O b1 ∧ ¬ O b2 ∧ ¬ O b3

theorem Caught3.fr {w w' : World} {O O' : Nat → Prop} {d : Nat} {s t : ByteArray} {b1 b2 b3 : Nat} (h : Caught3 w O d s t b1 b2 b3) (hf : Fr O w w') (hO : ∀ b, O' b → O b ∨ w.heap.size ≤ b) : Caught3 w' O' d s t b1 b2 b3 := by
  have hn : ∀ b, b < w.heap.size → ¬ O b → ¬ O' b := fun b hb hn ho => (hO b ho).elim hn (fun e => by omega)
  exact ⟨rowIs_fr h.r1 hf h.n1.1, rowIs_fr h.r2 hf h.n1.2.1, rowIs_fr h.r3 hf h.n1.2.2, ⟨hn _ h.r1.lt h.n1.1, hn _ h.r2.lt h.n1.2.1, hn _ h.r3.lt h.n1.2.2⟩⟩

theorem Caught3.keep {w w' : World} {O : Nat → Prop} {d : Nat} {s t : ByteArray} {b1 b2 b3 : Nat} (h : Caught3 w O d s t b1 b2 b3) (hb : RowKit.Below w.heap.size w w') : Caught3 w' O d s t b1 b2 b3 :=
  h.fr (Fr.ofBelow hb) (fun _ e => .inl e)

theorem caught3n (w : World) (O : Nat → Prop) (d : Nat) (s t : ByteArray) (hO : ∀ b, O b → b < w.heap.size) :
    Caught3 (((w.alloc (.cells #[.pointer (some ⟨d, 0, none⟩)] 25)).alloc (.cells #[.string s] 9)).alloc (.cells #[.string t] 9)) O d s t w.heap.size (w.heap.size + 1) (w.heap.size + 1 + 1) := by
  have r1 := ((World.rowIs_alloc w #[.pointer (some ⟨d, 0, none⟩)] 25 (fun _ => .pointer (some ⟨d, 0, none⟩)) (fun i hi => by simp at hi; subst hi; rfl)).alloc (.cells #[.string s] 9)).alloc (.cells #[.string t] 9)
  have r2 := (World.rowIs_alloc (w.alloc (.cells #[.pointer (some ⟨d, 0, none⟩)] 25)) #[.string s] 9 (fun _ => .string s) (fun i hi => by simp at hi; subst hi; rfl)).alloc (.cells #[.string t] 9)
  have r3 := World.rowIs_alloc ((w.alloc (.cells #[.pointer (some ⟨d, 0, none⟩)] 25)).alloc (.cells #[.string s] 9)) #[.string t] 9 (fun _ => .string t) (fun i hi => by simp at hi; subst hi; rfl)
  refine ⟨r1, by simpa using r2, by simpa using r3, ⟨fun h => ?_, fun h => ?_, fun h => ?_⟩⟩
  · have := hO _ h; omega
  · have := hO _ h; omega
  · have := hO _ h; omega

set_option maxRecDepth 100000 in
theorem rn_same (d : Nat) (O : Nat → Prop) (s : ByteArray) (b1 b2 b3 : Nat) (w : World) (hc : Caught3 w O d s s b1 b2 b3) :
    Calls Try.prog 33 #[.pointer (some ⟨b2, 0, none⟩), .pointer (some ⟨b3, 0, none⟩), .pointer (some ⟨b1, 0, none⟩)] w fun e w' => e = .returned (.tuple #[]) ∧ w' = w := by
  have k2 := hc.r2.cell (i := 0) (by omega)
  have k3 := hc.r3.cell (i := 0) (by omega)
  clear hc
  go_enter Try.func33, Try.ntmps33
  go_wp2
  go_end0
  exact ⟨rfl, rfl⟩

end Go.Proofs.Ytmpfbemdljfamaa
