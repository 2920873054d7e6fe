/- What Append does: its inner function. -/
import Derived.Test.YtmpfbemdljfamaaWCall
namespace Go.Proofs.Ytmpfbemdljfamaa
open Go.RowKit Go.Maps

/-- The disk with other bytes in a file. -/
def filed (S : St) (f : Nat) (x : Fl) : St := { S with F := upd S.F f x }

theorem put_dk {w w' : World} {O : Nat → Prop} {d : Nat} {S : St} {f : Nat} {x : Fl} {ys : List Int} {v' : Value} (h : Dk w O d S) (hx : S.F f = some x) (hy : ∀ b ∈ ys, 0 ≤ b ∧ b < 256) (hr : w'.rowIs f 79 2 (fc ⟨v', x.xs ++ ys, x.s⟩))
    (hd : w'.ownsRow 0 5 1 v' (x.xs ++ ys).length ((x.xs ++ ys).map (Value.int .u8))) (hf : Fr (fun k => k = f ∨ x.v.ownBlock = some k) w w') (hv : ∀ g, v'.ownBlock = some g → x.v.ownBlock = some g ∨ g = w.heap.size) :
    Dk w' (Ow O w w') d (filed S f ⟨v', x.xs ++ ys, x.s⟩) ∧ Fr O w w' := by
  have hF := h.fs.is f x hx
  have mm := Ow.more h.lim hf.size
  have hv' : ∀ g, v'.ownBlock = some g → x.v.ownBlock = some g ∨ w.heap.size ≤ g := fun g e => (hv g e).elim .inl fun e => .inr (by omega)
  refine ⟨h.setF mm hx ⟨hr, hd, ?_, ?_, .inl hF.own.1, fun g e => ?_⟩ hf hv', hf.weak ?_⟩
  · intro b hb
    rcases List.mem_append.1 hb with e | e
    · exact hF.byt b e
    · exact hy b e
  · have := hF.syn
    simp only [List.length_append]
    omega
  · rcases hv' g e with e' | e'
    · exact .inl (hF.own.2 g e')
    · exact .inr ⟨e', own_lt hd e⟩
  · rintro i (rfl | e)
    · exact hF.own.1
    · exact hF.own.2 i e

theorem Fr.undrew {P : Nat → Prop} {w w' : World} (h : Fr P w.drew w') : Fr P w w' := ⟨h.os, h.tape, h.output, h.size, h.block⟩

/-- What a call has caught: the disk, the name, the bytes. -/
structure Caught (w : World) (O : Nat → Prop) (d : Nat) (s : ByteArray) (ao : Option Addr) (m c : Nat) (ys : List Int) (b1 b2 b3 : Nat) : Prop where
  r1 : w.rowIs b1 25 1 (fun _ => .pointer (some ⟨d, 0, none⟩))
  r2 : w.rowIs b2 9 1 (fun _ => .string s)
  r3 : w.rowIs b3 22 1 (fun _ => .slice ao m c)
  n1 : ¬ O b1 ∧ ¬ O b2 ∧ ¬ O b3
  rd : Rd w ao m c ys
  na : ∀ ad, ao = some ad → 0 < m → ¬ O ad.block

theorem Caught.fr {w w' : World} {O O' : Nat → Prop} {d : Nat} {s : ByteArray} {ao : Option Addr} {m c : Nat} {ys : List Int} {b1 b2 b3 : Nat} (h : Caught w O d s ao m c ys b1 b2 b3) (hf : Fr O w w') (hO : ∀ b, O' b → O b ∨ w.heap.size ≤ b) : Caught w' O' d s ao m c ys b1 b2 b3 := by
  have hn : ∀ b, b < w.heap.size → ¬ O b → ¬ O' b := fun b hb hn ho => (hO b ho).elim hn (fun e => by omega)
  exact ⟨rowIs_fr h.r1 hf h.n1.1, rowIs_fr h.r2 hf h.n1.2.1, rowIs_fr h.r3 hf h.n1.2.2, ⟨hn _ h.r1.lt h.n1.1, hn _ h.r2.lt h.n1.2.1, hn _ h.r3.lt h.n1.2.2⟩, h.rd.fr hf h.na, fun ad e hm => hn _ (h.rd.blk ad e hm) (h.na ad e hm)⟩

theorem Caught.keep {w w' : World} {O : Nat → Prop} {d : Nat} {s : ByteArray} {ao : Option Addr} {m c : Nat} {ys : List Int} {b1 b2 b3 : Nat} (h : Caught w O d s ao m c ys b1 b2 b3) (hb : Below w.heap.size w w') : Caught w' O d s ao m c ys b1 b2 b3 :=
  h.fr (Fr.ofBelow hb) (fun _ e => .inl e)

set_option maxRecDepth 100000 in
set_option maxHeartbeats 1000000 in
/-- The last step: the bytes are put. -/
theorem app_old (d : Nat) (O : Nat → Prop) (S : St) (s : ByteArray) (ao : Option Addr) (m c : Nat) (ys : List Int) (b1 b2 b3 f : Nat) (x : Fl) (w : World) (h : Dk w O d S) (hc : Caught w O d s ao m c ys b1 b2 b3) (hs : s.size ≤ maxLen) (hl : look S.now s = some f) (hx : S.F f = some x) (hlim : x.xs.length + m ≤ 140737488351232) :
    Calls Try.prog 25 #[.pointer (some ⟨b1, 0, none⟩), .pointer (some ⟨b2, 0, none⟩), .pointer (some ⟨b3, 0, none⟩)] w fun e w' => e = .returned (.tuple #[]) ∧ ∃ v', Dk w' (Ow O w w') d (filed S f ⟨v', x.xs ++ ys, x.s⟩) ∧ Fr O w w' := by
  have Hh : Hid (Dk w O d S) := h
  have Hc : Hid (Caught w O d s ao m c ys b1 b2 b3) := hc
  have k1 := hc.r1.cell (i := 0) (by omega)
  have k2 := hc.r2.cell (i := 0) (by omega)
  have k3 := hc.r3.cell (i := 0) (by omega)
  have c1 := h.row.cell (i := 1) (by omega)
  simp only [dc] at c1
  have hk := look45 (h.now.keep (drew_keep w)) s hs
  rw [hl] at hk
  simp only [pv, Option.map_some] at hk
  have hk2 := look45 ((h.now.keep (drew_keep w)).keep (drew_keep w.drew)) s hs
  rw [hl] at hk2
  simp only [pv, Option.map_some] at hk2
  have hput := fun W (hW : Dk W O d S) (hC : Caught W O d s ao m c ys b1 b2 b3) => put_any f O x ao m c ys W (hW.fs.is f x hx) hC.rd hlim
  clear h hc
  go_enter Try.func25, Try.ntmps25
  go_wp2
  go_region
  go_wp2
  go_region_with (go_at_call 30; refine (hput _ ((Hh.out.keep (drew_keep _)).keep (drew_keep _)) ((Hc.out.keep (drew_keep _)).keep (drew_keep _))).mono ?_; rintro e w2 ⟨rfl, v', r1, r2, r3, r4⟩)
  all_goals (
    go_wp2
    go_end0
    have hdd := put_dk ((Hh.out.keep (drew_keep w)).keep (drew_keep w.drew)) hx Hc.out.rd.byt r1 r2 r3 r4
    exact ⟨rfl, v', hdd.1, hdd.2.undrew.undrew⟩)

end Go.Proofs.Ytmpfbemdljfamaa
