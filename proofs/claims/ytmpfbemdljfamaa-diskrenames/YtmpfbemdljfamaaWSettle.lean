/- settle; what SyncDir does. -/
import Derived.Test.YtmpfbemdljfamaaWDo
import Derived.Test.YtmpfbemdljfamaaWAppend
namespace Go.Proofs.Ytmpfbemdljfamaa
open Go.RowKit Go.Maps

/-- The disk with a directory's first n changes lasting. -/
def settled (S : St) (a : ByteArray) (x : Rw) (n : Nat) : St := { S with last := doN x.fs (x.cs.take n) S.last, rws := S.rws.del (nm a) }

set_option maxRecDepth 100000 in
set_option maxHeartbeats 1000000 in
theorem settle_any (d : Nat) (O : Nat → Prop) (S : St) (a : ByteArray) (r : Nat) (x : Rw) (n : Nat) (w : World) (h : Dk w O d S) (ha : a.size ≤ maxLen) (hl : look S.rws a = some r) (hx : S.R r = some x) (hn : n ≤ x.cs.length) (hs : Maps.size S.last + x.cs.length < 1000000000) :
    Calls Try.prog 37 #[.pointer (some ⟨d, 0, none⟩), .string a, .int .i64 n] w fun e w' => e = .returned (.tuple #[]) ∧ Dk w' O d (settled S a x n) ∧ Fr O w w' := by
  have Hh : Hid (Dk w O d S) := h
  have c2 := h.row.cell (i := 2) (by omega)
  have c3 := h.row.cell (i := 3) (by omega)
  simp only [dc] at c2 c3
  have hk := look46 (h.rws.keep (drew_keep w)) a ha
  rw [hl] at hk
  simp only [pv, Option.map_some] at hk
  have hdo := do_any r O x S.lb S.last n w.drew ((h.keep (drew_keep w)).rs.is r x hx) (h.last.keep (drew_keep w)) hn hs
  clear h
  go_enter Try.func37, Try.ntmps37
  go_upto_region 0 with fail
  go_cut [] (fun wx => Dk wx O d { S with last := doN x.fs (x.cs.take n) S.last } ∧ Fr O w wx)
  case first =>
    go_region_with (go_at_call 57; refine hdo.mono ?_; rintro e w2 ⟨rfl, m2, f2⟩)
    all_goals (
      go_wp2_with fail
      go_meet
      have f2' : Fr (fun k => k = S.lb) w w2 := f2.undrew
      have g0 := Hh.out
      exact ⟨g0.setMap (S' := { S with last := doN x.fs (x.cs.take n) S.last }) g0.last f2' rfl (g0.now.fr f2' (fun e => g0.ne.1 e)) m2 (g0.rws.fr f2' (fun e => g0.ne.2.2 e.symm)), f2'.weak (fun i e => by subst e; exact g0.own.2.2.1)⟩)
  case rest =>
    obtain ⟨D2, f2⟩ := hcut
    have c3 := D2.row.cell (i := 3) (by omega)
    simp only [dc] at c3
    obtain ⟨w3, hrun, m3, f3⟩ := drop_run D2.rws 46 52 Try.underlying46 a ha 0
    have H2 : Hid (Dk wc O d { S with last := doN x.fs (x.cs.take n) S.last }) := D2
    clear D2 hk hdo
    go_wp2
    go_end0
    have g0 := H2.out
    exact ⟨rfl, g0.setMap (S' := settled S a x n) g0.rws f3 rfl (g0.now.fr f3 (fun e => g0.ne.2.1 e)) (g0.last.fr f3 (fun e => g0.ne.2.2 e)) m3, f2.trans f3 (fun i _ e => by subst e; exact g0.own.2.2.2.1)⟩

/-- What SyncDir has caught. -/
structure Caught2 (w : World) (O : Nat → Prop) (d : Nat) (s : ByteArray) (b1 b2 : Nat) : Prop where
  r1 : w.rowIs b1 25 1 (fun _ => .pointer (some ⟨d, 0, none⟩))
  r2 : w.rowIs b2 9 1 (fun _ => .string s)
  n1 : ¬ O b1 ∧ ¬ O b2

theorem Caught2.fr {w w' : World} {O O' : Nat → Prop} {d : Nat} {s : ByteArray} {b1 b2 : Nat} (h : Caught2 w O d s b1 b2) (hf : Fr O w w') (hO : ∀ b, O' b → O b ∨ w.heap.size ≤ b) : Caught2 w' O' d s b1 b2 := by
  have hn : ∀ b, b < w.heap.size → ¬ O b → ¬ O' b := fun b hb hn ho => (hO b ho).elim hn (fun e => by omega)
  exact ⟨rowIs_fr h.r1 hf h.n1.1, rowIs_fr h.r2 hf h.n1.2, ⟨hn _ h.r1.lt h.n1.1, hn _ h.r2.lt h.n1.2⟩⟩

theorem Caught2.keep {w w' : World} {O : Nat → Prop} {d : Nat} {s : ByteArray} {b1 b2 : Nat} (h : Caught2 w O d s b1 b2) (hb : Below w.heap.size w w') : Caught2 w' O d s b1 b2 :=
  h.fr (Fr.ofBelow hb) (fun _ e => .inl e)

theorem caught2 (w : World) (O : Nat → Prop) (d : Nat) (s : ByteArray) (hO : ∀ b, O b → b < w.heap.size) :
    Caught2 ((w.alloc (.cells #[.pointer (some ⟨d, 0, none⟩)] 25)).alloc (.cells #[.string s] 9)) O d s w.heap.size (w.heap.size + 1) := by
  have r1 := (World.rowIs_alloc w #[.pointer (some ⟨d, 0, none⟩)] 25 (fun _ => .pointer (some ⟨d, 0, none⟩)) (fun i hi => by simp at hi; subst hi; rfl)).alloc (.cells #[.string s] 9)
  have r2 := World.rowIs_alloc (w.alloc (.cells #[.pointer (some ⟨d, 0, none⟩)] 25)) #[.string s] 9 (fun _ => .string s) (fun i hi => by simp at hi; subst hi; rfl)
  refine ⟨r1, by simpa using r2, ⟨fun h => ?_, fun h => ?_⟩⟩
  · have := hO _ h; omega
  · have := hO _ h; omega

set_option maxRecDepth 100000 in
set_option maxHeartbeats 1000000 in
theorem sd_none (d : Nat) (O : Nat → Prop) (S : St) (a : ByteArray) (b1 b2 : Nat) (w : World) (h : Dk w O d S) (hc : Caught2 w O d a b1 b2) (ha : a.size ≤ maxLen) (hl : look S.rws a = none) :
    Calls Try.prog 36 #[.pointer (some ⟨b1, 0, none⟩), .pointer (some ⟨b2, 0, none⟩)] w fun e w' => e = .returned (.tuple #[]) ∧ Below w.heap.size w w' := by
  have k1 := hc.r1.cell (i := 0) (by omega)
  have k2 := hc.r2.cell (i := 0) (by omega)
  have c3 := h.row.cell (i := 3) (by omega)
  simp only [dc] at c3
  have hk := look46 (h.rws.keep (drew_keep w)) a ha
  rw [hl] at hk
  simp only [pv, Option.map_none] at hk
  clear h hc
  go_enter Try.func36, Try.ntmps36
  go_wp2
  go_region
  go_wp2
  go_end0
  exact ⟨rfl, drew_keep w⟩

set_option maxRecDepth 100000 in
set_option maxHeartbeats 2000000 in
theorem sd_yes (d : Nat) (O : Nat → Prop) (S : St) (a : ByteArray) (b1 b2 r : Nat) (x : Rw) (w : World) (h : Dk w O d S) (hc : Caught2 w O d a b1 b2) (ha : a.size ≤ maxLen) (hl : look S.rws a = some r) (hx : S.R r = some x) (hs : Maps.size S.last + x.cs.length < 1000000000) :
    Calls Try.prog 36 #[.pointer (some ⟨b1, 0, none⟩), .pointer (some ⟨b2, 0, none⟩)] w fun e w' => e = .returned (.tuple #[]) ∧ Dk w' O d (settled S a x x.cs.length) ∧ Fr O w w' := by
  have k1 := hc.r1.cell (i := 0) (by omega)
  have k2 := hc.r2.cell (i := 0) (by omega)
  have c3 := h.row.cell (i := 3) (by omega)
  simp only [dc] at c3
  have hk := look46 (h.rws.keep (drew_keep w)) a ha
  rw [hl] at hk
  simp only [pv, Option.map_some] at hk
  have hR := h.rs.is r x hx
  have c0 := hR.row.cell (i := 0) (by omega)
  simp only [rc] at c0
  obtain ⟨cl, hcl, -⟩ := hR.chs
  obtain ⟨av, cv, hv⟩ := own_shape hcl
  rw [hv] at c0
  have hset := settle_any d O S a r x x.cs.length w.drew.drew ((h.keep (drew_keep w)).keep (drew_keep w.drew)) ha hl hx (Nat.le_refl _) hs
  clear h hc hR hcl hv hl hx hs
  generalize x.cs.length = n at *
  go_enter Try.func36, Try.ntmps36
  go_wp2
  go_region
  go_wp2
  go_region_with (go_at_call 37; refine hset.mono ?_; rintro e w2 ⟨rfl, D2, f2⟩)
  all_goals (
    go_wp2
    go_end0
    exact ⟨rfl, D2, f2.undrew.undrew⟩)

end Go.Proofs.Ytmpfbemdljfamaa
