/- Maps of names to pointers, in memory and as data. -/
import Derived.Test.YtmpfbemdljfamaaFrame
import Derived.Maps.OwnSet
import Derived.Maps.RangeWalk
import Derived.Maps.Ext
import Derived.Maps.Views
import Derived.StringKeys
namespace Go.Proofs.Ytmpfbemdljfamaa
open Go.RowKit Go.Maps

/-- How a pointer to a block of its own reads: as the block's number. -/
def ptrE : Value → Option (DataW Unit × List MemPlace)
  | .pointer none => some (.nil, [])
  | .pointer (some ⟨b, 0, none⟩) => some (.lit (.int .i64 b), [])
  | _ => none

/-- The block that a datum tells. -/
def pb : DataW Unit → Option Nat
  | .lit (.int _ b) => some b.toNat
  | _ => none

/-- The pointer to a block. -/
def pv (x : Option Nat) : Value := .pointer (x.map fun b => ⟨b, 0, none⟩)

/-- A block as a datum. -/
def pd (b : Nat) : DataW Unit := .lit (.int .i64 b)

theorem pb_pd (b : Nat) : pb (pd b) = some b := rfl

theorem ptrE_inv {v : Value} {z : DataW Unit × List MemPlace} (h : ptrE v = some z) : v = pv (pb z.1) := by
  unfold ptrE at h
  split at h
  · cases h; rfl
  · cases h; rfl
  · cases h

theorem ptrE_inv' {v : Value} {z : DataW Unit × List MemPlace} (h : ptrE v = some z) : z = (.nil, []) ∨ ∃ b, z = (pd b, []) := by
  unfold ptrE at h
  split at h
  · cases h; exact .inl rfl
  · cases h; exact .inr ⟨_, rfl⟩
  · cases h

theorem ptrE_pv (b : Nat) : ptrE (pv (some b)) = some (pd b, []) := rfl
theorem ptrE_nil : ptrE (pv none) = some (.nil, []) := rfl

/-- A name as a key. -/
abbrev nm (s : ByteArray) : Lit := .string s.data.toList

theorem nm_inj {s t : ByteArray} (h : nm s = nm t) : s = t := by
  unfold nm at h
  injection h with h
  have := Array.toList_inj.1 h
  cases s; cases t; simp_all

theorem nm_ne {s t : ByteArray} (h : s ≠ t) : nm s ≠ nm t := fun e => h (nm_inj e)

/-- What a name leads to. -/
def look (D : DataW Unit) (s : ByteArray) : Option Nat := pb (D.atKey (nm s) .nil)

theorem law9 : Keyed Try.prog 9 := string_keyed Try.underlying9

theorem key9 {s : ByteArray} (hs : s.size ≤ maxLen) : keyOf Try.prog 9 (.string s) = some (nm s) := Go.WideMaps.keyOf_string_mk Try.underlying9 hs

theorem isKey (s : ByteArray) : WideAt.IsKeyLit (nm s) := by
  have h : (Lit.string s.data.toList) = .string s.data.toList := rfl
  exact trivial

/-- Block b is a map from names to pointers. -/
def Mp (w : World) (b : Nat) (D : DataW Unit) : Prop := w.ownsMap Try.prog 9 ptrE b (Maps.size D) D

theorem Mp.of {w : World} {b n : Nat} {D : DataW Unit} (h : w.ownsMap Try.prog 9 ptrE b n D) : Mp w b D := by
  obtain ⟨es, clock, hb, F, hs, hD⟩ := h
  refine ⟨es, clock, hb, F, ?_, hD⟩
  rw [hD]
  simp [Maps.size, length_sorted]

theorem Mp.lt {w : World} {b : Nat} {D : DataW Unit} (h : Mp w b D) : b < w.heap.size := World.ownsMap.lt h

theorem Mp.isMap {w : World} {b : Nat} {D : DataW Unit} (h : Mp w b D) : IsMap D := World.ownsMap.isMap h

theorem Mp.tidy {w : World} {b : Nat} {D : DataW Unit} (h : Mp w b D) : Tidy D := World.ownsMap.tidy h law9

theorem Mp.fr {P : Nat → Prop} {w w' : World} {b : Nat} {D : DataW Unit} (h : Mp w b D) (hf : Fr P w w') (hb : ¬ P b) : Mp w' b D := by
  have hlt := h.lt
  obtain ⟨es, clock, e, hh⟩ := h
  exact ⟨es, clock, (hf.block b hlt hb).trans e, hh⟩

/-- A map's block is none of cells. -/
theorem Mp.ne {w : World} {b : Nat} {D : DataW Unit} (h : Mp w b D) {k t n : Nat} {f : Nat → Value} (hr : w.rowIs k t n f) : k ≠ b := by
  rintro rfl
  obtain ⟨es, clock, e, _⟩ := h
  obtain ⟨c, e', _⟩ := hr
  rw [e] at e'
  cases e'

theorem look_run {w : World} {b : Nat} {D : DataW Unit} (h : Mp w b D) (t e : TypeId) (ht : Try.prog.underlying t = some (.map 9 e)) (hz : (zeroValue e).run Try.prog w = .ok (.pointer none) w) (s : ByteArray) (hs : s.size ≤ maxLen) :
    (Instr.lookup t (.map (some b)) (.string s) false).run Try.prog w = .ok (pv (look D s)) w := by
  obtain ⟨v, ps, hrun, hv⟩ := World.ownsMap.lookup h law9 ht hz (zd := .nil) (zp := []) rfl (key9 hs)
  rw [hrun, ptrE_inv hv]
  rfl

theorem Try.zero51 (w : World) : (zeroValue 51).run Try.prog w = .ok (.pointer none) w := by kernel_rfl
theorem Try.zero52 (w : World) : (zeroValue 52).run Try.prog w = .ok (.pointer none) w := by kernel_rfl

theorem look45 {w : World} {b : Nat} {D : DataW Unit} (h : Mp w b D) (s : ByteArray) (hs : s.size ≤ maxLen) :
    (Instr.lookup 45 (.map (some b)) (.string s) false).run Try.prog w = .ok (pv (look D s)) w := look_run h 45 51 Try.underlying45 (Try.zero51 w) s hs

theorem look46 {w : World} {b : Nat} {D : DataW Unit} (h : Mp w b D) (s : ByteArray) (hs : s.size ≤ maxLen) :
    (Instr.lookup 46 (.map (some b)) (.string s) false).run Try.prog w = .ok (pv (look D s)) w := look_run h 46 52 Try.underlying46 (Try.zero52 w) s hs

/-- What is written into a map turns that block alone. -/
theorem fr_turned {w w' : World} {b : Nat} (h : w.mapTurned w' b) : Fr (fun k => k = b) w w' := by
  have g := h.grown
  exact ⟨g.os, g.tape, g.output, g.size, fun k hk hn => g.block k hk (fun e => hn (by cases e; rfl))⟩

theorem look_put_same {D : DataW Unit} (h : IsMap D) (s : ByteArray) (b : Nat) : look (D.put (nm s) (pd b)) s = some b := by
  unfold look
  rw [atKey_put_same h (isKey s)]
  rfl

theorem look_put_other {D : DataW Unit} {s t : ByteArray} (h : t ≠ s) (d : DataW Unit) : look (D.put (nm s) d) t = look D t := by
  unfold look
  rw [atKey_put_other (nm_ne h)]

theorem look_del_same {D : DataW Unit} (s : ByteArray) : look (D.del (nm s)) s = none := by
  unfold look
  rw [atKey_del_same]
  rfl

theorem look_del_other {D : DataW Unit} {s t : ByteArray} (h : t ≠ s) : look (D.del (nm s)) t = look D t := by
  unfold look
  rw [atKey_del_other (nm_ne h)]

theorem look_empty (s : ByteArray) : look (.map []) s = none := rfl

end Go.Proofs.Ytmpfbemdljfamaa
