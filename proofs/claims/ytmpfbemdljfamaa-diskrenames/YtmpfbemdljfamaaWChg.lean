/- What changes do to names. -/
import Derived.Test.YtmpfbemdljfamaaWCut
namespace Go.Proofs.Ytmpfbemdljfamaa
open Go.RowKit Go.Maps

theorem store_run {w : World} {b : Nat} {D : DataW Unit} (h : Mp w b D) (t e : TypeId) (ht : Try.prog.underlying t = some (.map 9 e)) (hn : Maps.size D < maxLen) (s : ByteArray) (hs : s.size ≤ maxLen) (v : Value) (x : DataW Unit) (ps : List MemPlace) (hv : ptrE v = some (x, ps)) :
    ∃ w', (Instr.mapUpdate t (.map (some b)) (.string s) v).run Try.prog w = .ok () w' ∧ Mp w' b (D.put (nm s) x) ∧ Fr (fun k => k = b) w w' := by
  obtain ⟨w', hr, ho, ht⟩ := World.ownsMap.store h law9 ht hn (key9 hs) hv
  exact ⟨w', hr, Mp.of ho, fr_turned ht⟩

theorem drop_run {w : World} {b : Nat} {D : DataW Unit} (h : Mp w b D) (t e : TypeId) (ht : Try.prog.underlying t = some (.map 9 e)) (s : ByteArray) (hs : s.size ≤ maxLen) (ty : TypeId) :
    ∃ w', (Builtin.delete_ #[t, 9] ty #[.map (some b), .string s]).run Try.prog w = .ok (.tuple #[]) w' ∧ Mp w' b (D.del (nm s)) ∧ Fr (fun k => k = b) w w' := by
  obtain ⟨w', hr, ho, ht⟩ := World.ownsMap.drop h law9 ht (key9 hs) ty
  exact ⟨w', hr, Mp.of ho, fr_turned ht⟩

theorem Mp.at {w : World} {b : Nat} {D : DataW Unit} (h : Mp w b D) (s : ByteArray) (hs : s.size ≤ maxLen) : ∃ ps, ptrE (pv (look D s)) = some (D.atKey (nm s) .nil, ps) := by
  obtain ⟨v, ps, hrun, hv⟩ := World.ownsMap.lookup h law9 Try.underlying45 (Try.zero51 w) (zd := .nil) (zp := []) rfl (key9 hs)
  refine ⟨ps, ?_⟩
  rw [ptrE_inv hv] at hv
  exact hv

theorem own_cell {w : World} {base e n : Nat} {g c : Nat} {xs : List Value} (h : w.ownsRow base e 1 (.slice (some ⟨g, 0, none⟩) n c) n xs) (j : Nat) (u : Value) (hu : xs[j]? = some u) : w.cell? ⟨g, j, none⟩ = some u := by
  have := h.cells (g := g) rfl j u hu
  rwa [Addr.add_lit, Nat.zero_add] at this

theorem own_some {w : World} {base e n : Nat} {v : Value} {xs : List Value} (h : w.ownsRow base e 1 v n xs) (hn : 0 < n) : ∃ g c, v = .slice (some ⟨g, 0, none⟩) n c := by
  rcases h.2 with ⟨rfl, rfl⟩ | ⟨g, cap, cur, rfl, _⟩
  · omega
  · exact ⟨_, _, rfl⟩

set_option maxRecDepth 100000 in
theorem made_on (b : Nat) (D : DataW Unit) (fv : Value) (fs : List Nat) (n : ByteArray) (p b1 b2 : Nat) (w : World) (h : Mp w b D) (hf : w.ownsRow 0 51 1 fv fs.length (fs.map fun f => pv (some f))) (h1 : w.rowIs b1 3 1 (fun _ => .int .i64 p)) (h2 : w.rowIs b2 9 1 (fun _ => .string n))
    (hp : p < fs.length) (hn : n.size ≤ maxLen) (hD : Maps.size D < maxLen) :
    Calls Try.prog 53 #[.map (some b), fv, .pointer (some ⟨b1, 0, none⟩), .pointer (some ⟨b2, 0, none⟩)] w fun e w' => e = .returned (.tuple #[]) ∧ Mp w' b ((Chg.made n p).on fs D) ∧ Fr (fun k => k = b) w w' := by
  have c1 := h1.cell (i := 0) (by omega)
  have c2 := h2.cell (i := 0) (by omega)
  obtain ⟨g, c, rfl⟩ := own_some hf (by omega)
  have hc := own_cell hf p (pv (some (fs.getD p 0))) (by simp [List.getD, hp])
  simp only [pv, Option.map_some] at hc
  obtain ⟨w', hr, ho, hfr⟩ := store_run (w := w.drew) (h.fr (P := fun _ => False) (Fr.ofBelow (drew_keep w)) (fun h => h)) 45 51 Try.underlying45 hD n hn (pv (some (fs.getD p 0))) (pd (fs.getD p 0)) [] rfl
  simp only [pv, Option.map_some] at hr
  have hq : Fr (fun k => k = b) w w' := (Fr.ofBelow (drew_keep w)).trans hfr (fun _ _ e => e)
  have q1 : (p : Int) < (fs.length : Int) := by omega
  clear h hf h1 h2 hfr
  have ho' : Hid (Mp w' b ((Chg.made n p).on fs D)) := ho
  clear ho
  generalize fs.getD p 0 = f at *
  go_enter Try.func53, Try.ntmps53
  go_wp2
  go_region
  go_wp2
  go_end0
  exact ⟨rfl, ho'.out, hq⟩

set_option maxRecDepth 100000 in
theorem renamed_on (b : Nat) (D : DataW Unit) (fv : Value) (fs : List Nat) (n m : ByteArray) (b1 b2 : Nat) (w : World) (h : Mp w b D) (h1 : w.rowIs b1 9 1 (fun _ => .string n)) (h2 : w.rowIs b2 9 1 (fun _ => .string m))
    (hn : n.size ≤ maxLen) (hm : m.size ≤ maxLen) (hD : Maps.size D < maxLen) :
    Calls Try.prog 54 #[.map (some b), fv, .pointer (some ⟨b1, 0, none⟩), .pointer (some ⟨b2, 0, none⟩)] w fun e w' => e = .returned (.tuple #[]) ∧ Mp w' b ((Chg.renamed n m).on fs D) ∧ Fr (fun k => k = b) w w' := by
  have c1 := h1.cell (i := 0) (by omega)
  have c2 := h2.cell (i := 0) (by omega)
  have hl := look45 h n hn
  obtain ⟨ps, hat⟩ := h.at n hn
  obtain ⟨w1, hr, ho, hfr⟩ := store_run h 45 51 Try.underlying45 hD m hm _ _ ps hat
  obtain ⟨w2, hr2, ho2, hfr2⟩ := drop_run ho 45 51 Try.underlying45 n hn 0
  have n1 := h.ne h1
  have c3 := (rowIs_fr h1 hfr n1).cell (i := 0) (by omega)
  have hq : Fr (fun k => k = b) w w2 := hfr.trans hfr2 (fun _ _ e => e)
  have ho' : Hid (Mp w2 b ((Chg.renamed n m).on fs D)) := ho2
  clear h h1 h2 hfr hfr2 ho ho2 hat
  simp only [pv] at hl hr
  generalize (look D n).map (fun b => (⟨b, 0, none⟩ : Addr)) = pp at *
  go_enter Try.func54, Try.ntmps54
  go_wp2
  go_end0
  exact ⟨rfl, ho'.out, hq⟩

theorem removed_on (b : Nat) (D : DataW Unit) (fv : Value) (fs : List Nat) (n : ByteArray) (b1 : Nat) (w : World) (h : Mp w b D) (h1 : w.rowIs b1 9 1 (fun _ => .string n)) (hn : n.size ≤ maxLen) :
    Calls Try.prog 66 #[.map (some b), fv, .pointer (some ⟨b1, 0, none⟩)] w fun e w' => e = .returned (.tuple #[]) ∧ Mp w' b ((Chg.removed n).on fs D) ∧ Fr (fun k => k = b) w w' := by
  have c1 := h1.cell (i := 0) (by omega)
  obtain ⟨w2, hr2, ho2, hfr2⟩ := drop_run h 45 51 Try.underlying45 n hn 0
  have ho' : Hid (Mp w2 b ((Chg.removed n).on fs D)) := ho2
  clear h h1 ho2
  go_enter Try.func66, Try.ntmps66
  go_wp2
  go_end0
  exact ⟨rfl, ho'.out, hfr2⟩

end Go.Proofs.Ytmpfbemdljfamaa
