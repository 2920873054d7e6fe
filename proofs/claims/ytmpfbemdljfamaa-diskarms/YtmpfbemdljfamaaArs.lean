/- A disk with one file, armed: its calls. -/
import Derived.Test.YtmpfbemdljfamaaArm
namespace Go.Proofs.Ytmpfbemdljfamaa
open Go.RowKit Go.Maps Go.Sort

/-- Behind a call that was done. -/
def Went (w : World) (O : Nat → Prop) (d f : Nat) (k l : Int) (w' : World) : Prop := ∃ S' O', Ar S' f (k + 1) (l - 1) ∧ Dk w' O' d S' ∧ (∀ b, O' b → O b ∨ w.heap.size ≤ b) ∧ Fr O w w'

/-- Behind the call at which the power went. -/
def Lost (w : World) (O : Nat → Prop) (d : Nat) (S : St) (w' : World) : Prop := ∃ S2 O2, Gone S S2 ∧ Dk w' O2 d S2 ∧ (∀ b, O2 b → O b ∨ w.heap.size ≤ b) ∧ Fr O w w'

theorem ow_to {O : Nat → Prop} {w w' : World} : ∀ b, Ow O w w' b → O b ∨ w.heap.size ≤ b := fun _ h => h.elim .inl fun e => .inr e.1

theorem ar_ticked {S : St} {f : Nat} {k l : Int} (h : Ar S f k l) (hl : 1 ≤ l) : Ar (ticked S) f (k + 1) (l - 1) := by
  obtain ⟨last, rws, V, hc⟩ := h.vw
  obtain ⟨x, hx, hxl⟩ := h.fil
  refine ⟨⟨last, rws, ?_, hc⟩, h.ps, ⟨x, hx, by omega⟩, h.len⟩
  have := vw_ticked V
  rw [show 1 + k + 1 = 1 + (k + 1) by omega, show max (l - 1) 0 = l - 1 by omega] at this
  exact this

theorem ar_filed {S : St} {f : Nat} {k l : Int} (h : Ar S f k l) (x : Fl) (hx : (x.xs.length : Int) ≤ 1 + k) (hx2 : x.xs.length ≤ 100000) : Ar (filed S f x) f k l := by
  obtain ⟨last, rws, V, hc⟩ := h.vw
  exact ⟨⟨last, rws, vw_filed V _ _, hc⟩, h.ps, ⟨x, upd_same _ _ _, hx⟩, lenB_filed h.len _ _ hx2⟩

theorem ar_app {S : St} {f d : Nat} {k l : Int} {O : Nat → Prop} {w : World} {ao : Option Addr} {c : Nat} (h : Ar S f k l) (hk : 0 ≤ k ∧ k ≤ 1000) (hl : 2 ≤ l ∧ l ≤ 1000) (hD : Dk w O d S) (hrd : Rd w ao 1 c [50]) (na : ∀ ad, ao = some ad → 0 < 1 → ¬ O ad.block) :
    Calls Try.prog 9 #[.pointer (some ⟨d, 0, none⟩), .string tAX, .slice ao 1 c] w fun e w' => e = .returned (.int .i64 0) ∧ Went w O d f k l w' := by
  have hu := h.used
  obtain ⟨last, rws, V, hc⟩ := h.vw
  obtain ⟨x, hx, hxl⟩ := h.fil
  have hxl2 := h.len f x hx
  refine (appV_old V hD hrd na nmAX (by unfold Okn; omega) rfl hx hu.2 (by omega) (by omega) (by omega)).mono ?_
  rintro e w' ⟨rfl, v, _, D, F⟩
  exact ⟨rfl, _, _, ar_filed (ar_ticked h (by omega)) _ (by simp; omega) (by simp; omega), D, ow_to, F⟩

theorem ar_app_down {S : St} {f d : Nat} {k : Int} {O : Nat → Prop} {w : World} {ao : Option Addr} {c : Nat} (h : Ar S f k 1) (hk : 0 ≤ k ∧ k ≤ 1000) (hD : Dk w O d S) :
    Calls Try.prog 9 #[.pointer (some ⟨d, 0, none⟩), .string tAX, .slice ao 1 c] w fun e w' => e = .returned (.int .i64 8) ∧ Lost w O d S w' := by
  have hu := h.used
  have hcr := h.crash d O w
  obtain ⟨last, rws, V, hc⟩ := h.vw
  obtain ⟨x, hx, hxl⟩ := h.fil
  exact append_down d O S tAX tA _ ao 1 c f x 8 _ w hD nmAX V.off (by rw [V.now]; rfl) hx hu.2 (by omega) (by rw [V.q]; omega) (by omega) hcr

theorem ar_sync {S : St} {f d : Nat} {k l : Int} {O : Nat → Prop} {w : World} (h : Ar S f k l) (hk : 0 ≤ k ∧ k ≤ 1000) (hl : 2 ≤ l ∧ l ≤ 1000) (hD : Dk w O d S) :
    Calls Try.prog 10 #[.pointer (some ⟨d, 0, none⟩), .string tAX] w fun e w' => e = .returned (.int .i64 0) ∧ Went w O d f k l w' := by
  obtain ⟨last, rws, V, hc⟩ := h.vw
  obtain ⟨x, hx, hxl⟩ := h.fil
  have hxl2 := h.len f x hx
  refine (syncV (f := f) V hD nmAX.le (by unfold Okn; omega) rfl hx).mono ?_
  rintro e w' ⟨rfl, _, D, F⟩
  exact ⟨rfl, _, _, ar_filed (ar_ticked h (by omega)) ⟨x.v, x.xs, x.xs.length⟩ (by show (x.xs.length : Int) ≤ _; omega) hxl2, D, fun _ e => .inl e, F⟩

theorem ar_sync_down {S : St} {f d : Nat} {k : Int} {O : Nat → Prop} {w : World} (h : Ar S f k 1) (hD : Dk w O d S) :
    Calls Try.prog 10 #[.pointer (some ⟨d, 0, none⟩), .string tAX] w fun e w' => e = .returned (.int .i64 8) ∧ Lost w O d S w' := by
  have hcr := h.crash d O w
  obtain ⟨last, rws, V, hc⟩ := h.vw
  exact sync_down d O S tAX f 8 _ w hD nmAX.le V.off (by rw [V.now]; rfl) hcr

theorem ar_dir {S : St} {f d : Nat} {k l : Int} {O : Nat → Prop} {w : World} (h : Ar S f k l) (hk : 0 ≤ k ∧ k ≤ 1000) (hl : 2 ≤ l ∧ l ≤ 1000) (hD : Dk w O d S) :
    Calls Try.prog 12 #[.pointer (some ⟨d, 0, none⟩), .string tA] w fun e w' => e = .returned (.int .i64 0) ∧ Went w O d f k l w' := by
  have ht := ar_ticked h (by omega)
  obtain ⟨last, rws, V, hc⟩ := h.vw
  rcases hc with ⟨r, xr, rfl, rfl, hr, hcs, hfs⟩ | ⟨rfl, rfl⟩
  · have e1 : doN xr.fs xr.cs (.map []) = .map [(nm tAX, pd f)] := by rw [hfs, hcs]; rfl
    refine (syncDirV (r := r) (last' := [(nm tAX, pd f)]) (rws' := []) V hD partA (by unfold Okn; omega) rfl hr (by rw [hcs]; decide) e1 rfl).mono ?_
    rintro e w' ⟨rfl, V', D, F⟩
    refine ⟨rfl, settled (ticked S) tA xr xr.cs.length, O, ⟨⟨_, _, ?_, .inr ⟨rfl, rfl⟩⟩, h.ps, ?_, h.len⟩, D, fun _ e => .inl e, F⟩
    · rw [show 1 + k + 1 = 1 + (k + 1) by omega, show max (l - 1) 0 = l - 1 by omega] at V'
      exact V'
    · obtain ⟨x, hx, hxl⟩ := h.fil
      exact ⟨x, hx, by omega⟩
  · refine (syncDir_none d O S tA w hD partA V.off (by rw [V.rws]; rfl) (by rw [V.left]; omega) (by rw [V.left]; omega) (by rw [V.calls]; omega)).mono ?_
    rintro e w' ⟨rfl, D, F⟩
    exact ⟨rfl, _, _, ht, D, fun _ e => .inl e, F⟩

theorem ar_dir_down {S : St} {f d : Nat} {k : Int} {O : Nat → Prop} {w : World} (h : Ar S f k 1) (hD : Dk w O d S) :
    Calls Try.prog 12 #[.pointer (some ⟨d, 0, none⟩), .string tA] w fun e w' => e = .returned (.int .i64 8) ∧ Lost w O d S w' := by
  have hcr := h.crash d O w
  obtain ⟨last, rws, V, hc⟩ := h.vw
  exact syncDir_down d O S tA 8 _ w hD partA V.off hcr

theorem ar_ren {S : St} {f d : Nat} {k l : Int} {O : Nat → Prop} {w : World} (h : Ar S f k l) (hk : 0 ≤ k ∧ k ≤ 1000) (hl : 2 ≤ l ∧ l ≤ 1000) (hD : Dk w O d S) :
    Calls Try.prog 11 #[.pointer (some ⟨d, 0, none⟩), .string tAX, .string tAX] w fun e w' => e = .returned (.int .i64 0) ∧ Went w O d f k l w' := by
  have ht := ar_ticked h (by omega)
  obtain ⟨last, rws, V, hc⟩ := h.vw
  refine rename_same d O S tAX tA _ f w _ 0 hD nmAX V.off (by rw [V.now]; rfl) ?_
  intro w1 b1 b2 b3 hb hD1 hC1
  refine (call_33 d O S b2 b3 b1 w1 (Went w O d f k l) hD1 (by rw [V.left]; omega) (by rw [V.left]; omega) (by rw [V.calls]; omega) ?_)
  intro W hW hf
  have hf' : Fr O w1 W := hf.weak (fun i e => by subst e; exact hD.own.1)
  refine (rn_same d O tAX b1 b2 b3 W (hC1.fr hf' (fun _ e => .inl e))).mono ?_
  rintro e w2 ⟨rfl, rfl⟩
  exact ⟨rfl, _, _, ht, hW, fun _ e => .inl e, (Fr.ofBelow hb).trans hf' (fun _ _ e => e)⟩

theorem ar_ren_down {S : St} {f d : Nat} {k : Int} {O : Nat → Prop} {w : World} (h : Ar S f k 1) (hD : Dk w O d S) :
    Calls Try.prog 11 #[.pointer (some ⟨d, 0, none⟩), .string tAX, .string tAX] w fun e w' => e = .returned (.int .i64 8) ∧ Lost w O d S w' := by
  have hcr := h.crash d O w
  obtain ⟨last, rws, V, hc⟩ := h.vw
  refine rename_same d O S tAX tA _ f w _ 8 hD nmAX V.off (by rw [V.now]; rfl) ?_
  intro w1 b1 b2 b3 hb hD1 _
  exact hcr _ w1 hb hD1

theorem ar_none {S : St} {f d : Nat} {k l : Int} {O : Nat → Prop} {w : World} (h : Ar S f k l) (hD : Dk w O d S) :
    Calls Try.prog 17 #[.pointer (some ⟨d, 0, none⟩), .string tAN] w fun e w' => e = .returned (.int .i64 6) ∧ RowKit.Below w.heap.size w w' := by
  obtain ⟨last, rws, V, hc⟩ := h.vw
  exact remove_none d O S tAN w hD (by decide) V.off (by rw [V.now]; rfl)

/-- The disk as the law makes it. -/
theorem ar_start {S S' : St} {f r : Nat} {x1 : Rw} {v : Value} {n : Int} (h1 : Vw S' 1048576 false 1 0 [(nm tAX, pd f)] [] [(nm tA, pd r)]) (hx : x1 = ⟨.slice none 0 0, .slice none 0 0, [], []⟩) (hN : NewF S S' r f x1 tAX [49]) (hL : LenB S' 100000) : Ar (armed S' n v []) f 0 n := by
  subst hx
  obtain ⟨cv, fv, hr⟩ := hN.row
  obtain ⟨v', hv⟩ := hN.here
  exact ⟨⟨[], [(nm tA, pd r)], ⟨h1.q, h1.off, h1.calls, rfl, h1.now, h1.last, h1.rws⟩, .inl ⟨r, _, rfl, rfl, hr, rfl, rfl⟩⟩, rfl, ⟨_, hv, by simp⟩, hL⟩

end Go.Proofs.Ytmpfbemdljfamaa
