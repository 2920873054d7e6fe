/- found. -/
import Derived.Test.YthaibdflehnbbaaWLong
namespace Go.Proofs.Ythaibdflehnbbaa
open Go.RowKit Go.Maps Go.ChangeShapes

theorem step_good {bs ts : List Int} {l1 lp : List Op} {T p f n bf : Nat} (hT : T ≤ p) (hf : f + n ≤ bs.length) (hb1 : bf ≤ f) (hb2 : bf ≤ p - T) (h65 : bf + n ≤ 65536) (hf4 : f ≤ 4294967295)
    (hs : (bs.take f).drop (f - bf) = ((ts.drop T).take (p - T)).drop (p - T - bf)) (hn : (bs.drop f).take n = (ts.drop p).take n) (h16 : 16 ≤ n)
    (g1 : Gd bs l1 (ts.take T)) (gp : Gd bs lp ((ts.drop T).take (p - bf - T))) : Gd bs (l1 ++ lp ++ cop (f - bf) (bf + n)) (ts.take (p + n)) := by
  have gc := (cop_good bs (f - bf) (bf + n) (.inr (by omega)) h65 (by omega) (by omega)).1
  have e1 : (bs.drop (f - bf)).take bf = (ts.drop (p - bf)).take bf := by
    have a1 : (bs.take f).drop (f - bf) = (bs.drop (f - bf)).take bf := by rw [List.drop_take]; congr 1; omega
    have a2 : ((ts.drop T).take (p - T)).drop (p - T - bf) = (ts.drop (p - bf)).take bf := by
      rw [List.drop_take, List.drop_drop]
      congr 1
      · omega
      · congr 1; omega
    rw [← a1, hs, a2]
  have e2 : (bs.drop (f - bf)).take (bf + n) = (ts.drop (p - bf)).take (bf + n) := by
    rw [List.take_add, List.take_add, e1, List.drop_drop, List.drop_drop]
    have c1 : f - bf + bf = f := by omega
    have c2 : p - bf + bf = p := by omega
    rw [c1, c2, hn]
  rw [e2] at gc
  have hg := (g1.app gp).app gc
  have e3 : ts.take T ++ (ts.drop T).take (p - bf - T) = ts.take (p - bf) := by
    rw [← List.take_add]; congr 1; omega
  have e4 : ts.take (p - bf) ++ (ts.drop (p - bf)).take (bf + n) = ts.take (p + n) := by
    rw [← List.take_add]; congr 1; omega
  rw [e3, e4] at hg
  exact hg

/-- What found keeps while it goes on: told T, the window at p. -/
structure Fw (wK : World) (B : Nat) (v : Value) (l : List Op) (bs ts : List Int) (tg : Option Addr) (M E : Nat) (wr : World) (v1 : Value) (n1 : Nat) (ms1 : List MO) (l1 : List Op) (T p R : Nat) (s : Int) : Prop where
  own : Ow wK B v wr v1 n1 ms1 (l ++ l1)
  good : Gd bs l1 (ts.take T)
  win : wr.rowIs R 93 3 (wc tg M E p s)
  far : wK.heap.size ≤ R
  s0 : 0 ≤ s
  s1 : s < 4294967296
  T0 : T ≤ p
  p0 : p ≤ M

theorem Fw.apart {wK : World} {B : Nat} {v : Value} {l : List Op} {bs ts : List Int} {tg : Option Addr} {M E : Nat} {wr : World} {v1 : Value} {n1 : Nat} {ms1 : List MO} {l1 : List Op} {T p R : Nat} {s : Int} (h : Fw wK B v l bs ts tg M E wr v1 n1 ms1 l1 T p R s) : v1.ownBlock ≠ some R := by
  intro e
  have hR := rowIs_block h.win
  rcases h.own.own.own.2 with ⟨rfl, _⟩ | ⟨g, cap, cur, rfl, _, hh, _⟩
  · cases e
  · have : g = R := by simpa [Value.ownBlock] using e
    subst this
    rw [hR] at hh
    simp at hh

theorem Fw.keep {wK : World} {B : Nat} {v : Value} {l : List Op} {bs ts : List Int} {tg : Option Addr} {M E : Nat} {wr w' : World} {v1 : Value} {n1 : Nat} {ms1 : List MO} {l1 : List Op} {T p R : Nat} {s : Int} (h : Fw wK B v l bs ts tg M E wr v1 n1 ms1 l1 T p R s) (hb : Below wr.heap.size wr w') : Fw wK B v l bs ts tg M E w' v1 n1 ms1 l1 T p R s :=
  ⟨h.own.keep hb, h.good, h.win.of_block (hb.block _ h.win.lt), h.far, h.s0, h.s1, h.T0, h.p0⟩

theorem Ow.rd {wK wr : World} {B : Nat} {v v1 : Value} {n1 : Nat} {ms1 : List MO} {l1 : List Op} (h : Ow wK B v wr v1 n1 ms1 l1) (hv : ∀ k, v.ownBlock = some k → B ≤ k) {ao : Option Addr} {n c : Nat} {xs : List Int} (hr : Rd wK ao n c xs) (hs : ∀ ad, ao = some ad → 0 < n → ad.block < B) : Rd wr ao n c xs :=
  hr.fr h.fr (fun ad e hn e2 => by have := hs ad e hn; have := hv _ e2; omega)

theorem Ow.map {wK wr : World} {B : Nat} {v v1 : Value} {n1 : Nat} {ms1 : List MO} {l1 : List Op} (h : Ow wK B v wr v1 n1 ms1 l1) {Mb k : Nat} {D : DataW Unit} (hv : ∀ k, v.ownBlock = some k → k < Mb) (hG : wK.ownsGroups Try.prog 91 (Mb + 1) 3 .i64 Mb k D) : wr.ownsGroups Try.prog 91 (Mb + 1) 3 .i64 Mb k D := by
  have hg : wK.grownBy wr v.ownBlock := ⟨h.fr.os, h.fr.tape, h.fr.output, h.fr.size, fun i hi hn => h.fr.block i hi (fun e => hn e.symm)⟩
  refine hG.kept hg (fun e => ?_) (hG.rowsAbove (fun j hj => ?_))
  · have := hv Mb e.symm; omega
  · have := hv j hj; omega

theorem Ow.other {wK w w' : World} {B : Nat} {v v1 : Value} {n : Nat} {ms : List MO} {l : List Op} (h : Ow wK B v w v1 n ms l) {R : Nat} (hf : Fr (fun k => k = R) w w') (hR : wK.heap.size ≤ R) (hne : v1.ownBlock ≠ some R) : Ow wK B v w' v1 n ms l :=
  ⟨h.own.fr hf (fun k hk e => hne (by rw [hk, e])) (fun j hj ad e hm e2 => by have := h.dat j hj ad e hm; have := h.low; omega), h.fr.trans hf (fun i hi e => by omega), h.lies, h.low, h.dat⟩

theorem Ow.here {wK w : World} {B : Nat} {v v1 : Value} {n : Nat} {ms : List MO} {l : List Op} (h : Ow wK B v w v1 n ms l) : Ow w B v1 w v1 n ms l := Ow.refl h.own (Nat.le_trans h.low h.fr.size) h.dat

theorem Ow.row {w w' : World} {B : Nat} {v v1 : Value} {n : Nat} {ms : List MO} {l : List Op} (h : Ow w B v w' v1 n ms l) {b t m : Nat} {f : Nat → Value} (hr : w.rowIs b t m f) (hne : v.ownBlock ≠ some b) : w'.rowIs b t m f := rowIs_fr hr h.fr hne

theorem Ow.ne {w w' : World} {B : Nat} {v v1 : Value} {n : Nat} {ms : List MO} {l : List Op} (h : Ow w B v w' v1 n ms l) {b : Nat} (hlt : b < w.heap.size) (hne : v.ownBlock ≠ some b) : v1.ownBlock ≠ some b := fun e => by
  rcases h.lies b e with h1 | h1
  · exact hne h1
  · omega

end Go.Proofs.Ythaibdflehnbbaa
