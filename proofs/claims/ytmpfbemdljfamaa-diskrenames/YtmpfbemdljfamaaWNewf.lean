/- Append to a file that is not there. -/
import Derived.Test.YtmpfbemdljfamaaWApp
namespace Go.Proofs.Ytmpfbemdljfamaa
open Go.RowKit Go.Maps

theorem Dk.ow {w w1 w2 : World} {O : Nat → Prop} {d : Nat} {S : St} (h : Dk w2 (Ow (Ow O w w1) w1 w2) d S) (h1 : w.heap.size ≤ w1.heap.size) (h2 : w1.heap.size ≤ w2.heap.size) (hO : ∀ b, O b → b < w.heap.size) : Dk w2 (Ow O w w2) d S := by
  refine h.mono ?_ ?_
  · rintro b ((e | e) | e)
    · exact .inl e
    · exact .inr ⟨e.1, by omega⟩
    · exact .inr ⟨by omega, e.2⟩
  · rintro b (e | e)
    · have := hO b e; omega
    · exact e.2

theorem Fr.ow {w w1 w2 : World} {O : Nat → Prop} (h : Fr O w w1) (k : Fr (Ow O w w1) w1 w2) : Fr O w w2 :=
  h.trans k (fun i hi e => e.elim id fun e => by omega)

/-- A directory's row, and the disk with it. -/
def rowOf (S : St) (a : ByteArray) (r : Nat) (S1 : St) (x1 : Rw) : Prop :=
  (look S.rws a = some r ∧ S1 = S ∧ S.R r = some x1) ∨ (look S.rws a = none ∧ S1 = rowed S a r ∧ x1 = ⟨.slice none 0 0, .slice none 0 0, [], []⟩)

theorem rowOf.at {S : St} {a : ByteArray} {r : Nat} {S1 : St} {x1 : Rw} (h : rowOf S a r S1 x1) : S1.R r = some x1 := by
  rcases h with ⟨_, rfl, h⟩ | ⟨_, rfl, rfl⟩
  · exact h
  · exact upd_same _ _ _

theorem rowOf.now {S : St} {a : ByteArray} {r : Nat} {S1 : St} {x1 : Rw} (h : rowOf S a r S1 x1) : S1.now = S.now ∧ S1.F = S.F ∧ S1.nb = S.nb := by
  rcases h with ⟨_, rfl, h⟩ | ⟨_, rfl, rfl⟩
  · exact ⟨rfl, rfl, rfl⟩
  · exact ⟨rfl, rfl, rfl⟩

theorem row_any (d : Nat) (O : Nat → Prop) (S : St) (a : ByteArray) (w : World) (h : Dk w O d S) (hs : a.size ≤ maxLen) (hR : ∀ r, look S.rws a = some r → ∃ x, S.R r = some x) (hz : Maps.size S.rws < maxLen) :
    Calls Try.prog 26 #[.pointer (some ⟨d, 0, none⟩), .string a] w fun e w' => ∃ r S1 x1, e = .returned (.pointer (some ⟨r, 0, none⟩)) ∧ rowOf S a r S1 x1 ∧ Dk w' (Ow O w w') d S1 ∧ Fr O w w' := by
  cases hl : look S.rws a with
  | some r =>
    obtain ⟨x, hx⟩ := hR r hl
    refine (row_old d r S a w h.row h.rws hs hl).mono ?_
    rintro e w' ⟨rfl, rfl⟩
    exact ⟨r, S, x, rfl, .inl ⟨hl, rfl, hx⟩, h.mono (fun b hb => .inl hb) (fun b hb => hb.elim (h.lim b) (fun e => e.2)), Fr.refl _ _⟩
  | none =>
    refine (row_new d O S a w h hs hl hz).mono ?_
    rintro e w' ⟨r, rfl, _, hD, hf⟩
    exact ⟨r, _, _, rfl, .inr ⟨hl, rfl, rfl⟩, hD, hf⟩

/-- The disk behind made. -/
def madeS (S1 : St) (r : Nat) (x1 : Rw) (f : Nat) (fv : Value) : St := { S1 with F := upd S1.F f ⟨.slice none 0 0, [], 0⟩, R := upd S1.R r ⟨x1.cv, fv, x1.cs, x1.fs ++ [f]⟩ }

def madeR (x1 : Rw) (f : Nat) (fv : Value) : Rw := ⟨x1.cv, fv, x1.cs, x1.fs ++ [f]⟩

/-- The disk with a new file. -/
def newfS (S1 : St) (r : Nat) (x1 : Rw) (s : ByteArray) (f : Nat) (fv cv : Value) : St := changed (madeS S1 r x1 f fv) r (madeR x1 f fv) (.made s x1.fs.length) cv

theorem made_on_eq (s : ByteArray) (x1 : Rw) (f : Nat) (D : DataW Unit) : (Chg.made s x1.fs.length).on (x1.fs ++ [f]) D = D.put (nm s) (pd f) := by
  simp [Chg.on, List.getD]

set_option maxRecDepth 100000 in
set_option maxHeartbeats 4000000 in
theorem app_new (d : Nat) (O : Nat → Prop) (S : St) (s a b : ByteArray) (ao : Option Addr) (m c : Nat) (ys : List Int) (b1 b2 b3 : Nat) (w : World) (h : Dk w O d S) (hc : Caught w O d s ao m c ys b1 b2 b3) (hN : Nm s a b) (hl : look S.now s = none)
    (hR : ∀ r, look S.rws a = some r → ∃ x, S.R r = some x ∧ x.fs.length < 1000000 ∧ x.cs.length < 1000000) (hz : Maps.size S.rws < maxLen) (hz2 : Maps.size S.now < maxLen) (hlim : m ≤ 140737488351232) :
    Calls Try.prog 25 #[.pointer (some ⟨b1, 0, none⟩), .pointer (some ⟨b2, 0, none⟩), .pointer (some ⟨b3, 0, none⟩)] w fun e w' => e = .returned (.tuple #[]) ∧
      ∃ r S1 x1 f fv cv v, rowOf S a r S1 x1 ∧ w.heap.size ≤ f ∧ Dk w' (Ow O w w') d (filed (newfS S1 r x1 s f fv cv) f ⟨v, ys, 0⟩) ∧ Fr O w w' := by
  have Hh : Hid (Dk w O d S) := h
  have Hc : Hid (Caught w O d s ao m c ys b1 b2 b3) := hc
  have HR : Hid (∀ r, look S.rws a = some r → ∃ x, S.R r = some x ∧ x.fs.length < 1000000 ∧ x.cs.length < 1000000) := hR
  have k1 := hc.r1.cell (i := 0) (by omega)
  have k2 := hc.r2.cell (i := 0) (by omega)
  have k3 := hc.r3.cell (i := 0) (by omega)
  have c1 := h.row.cell (i := 1) (by omega)
  simp only [dc] at c1
  have hk := look45 (h.now.keep (drew_keep w)) s hN.le
  rw [hl] at hk
  simp only [pv, Option.map_none] at hk
  have hdir := fun W => dirOf_any s a b W hN
  have hrow := fun W (hW : Dk W O d S) => row_any d O S a W hW hN.pa.le (fun r e => by obtain ⟨x, h1, _⟩ := hR r e; exact ⟨x, h1⟩) hz
  have hlimO := h.lim
  clear h hc hR
  go_enter Try.func25, Try.ntmps25
  go_wp2
  go_region
  go_upto_region 1 with fail
  go_cut [3] (fun r3 wx => ∃ r S1 x1, r3 = .pointer (some ⟨r, 0, none⟩) ∧ rowOf S a r S1 x1 ∧ Dk wx (Ow O w wx) d S1 ∧ Fr O w wx)
  case first =>
    go_region_with (first
      | (go_at_call 27; refine (hdir _).mono ?_; rintro e w2 ⟨rfl, hb2⟩; have B2 : Below w.heap.size w w2 := ((drew_keep w).trans (drew_keep w.drew)).trans hb2; have D2 := Hh.out.keep B2; have C2 := Hc.out.keep B2; have k1' := C2.r1.cell (i := 0) (by omega); have k2' := C2.r2.cell (i := 0) (by omega))
      | (go_at_call 26; refine (hrow _ D2).mono ?_; rintro e w3 ⟨r, S1, x1, rfl, hro, hD, hf⟩))
    all_goals (
      go_wp2_with fail
      go_meet
      exact ⟨r, S1, x1, rfl, hro, hD.mono (fun b hb => hb.elim .inl fun e => .inr ⟨Nat.le_trans B2.size e.1, e.2⟩) (fun b hb => hb.elim (fun e => Nat.lt_of_lt_of_le (hlimO b e) (Nat.le_trans B2.size hf.size)) fun e => e.2), (Fr.ofBelow B2).trans hf (fun _ _ e => e)⟩)
  case rest =>
    obtain ⟨r, S1, x1, rfl, hro, hD1, hF1⟩ := hcut
    have hsz1 := hF1.size
    have C1 : Caught wc (Ow O w wc) d s ao m c ys b1 b2 b3 := Hc.out.fr hF1 (fun b hb => hb.elim .inl fun e => .inr e.1)
    have hx1 := hro.at
    have hnow : Hid (S1.now = S.now ∧ S1.F = S.F ∧ S1.nb = S.nb) := hro.now
    have hlens : x1.fs.length < 1000000 ∧ x1.cs.length < 1000000 := by
      rcases hro with ⟨e1, rfl, e2⟩ | ⟨_, rfl, rfl⟩
      · obtain ⟨x, h1, h2, h3⟩ := HR.out r e1
        rw [e2] at h1
        cases h1
        exact ⟨h2, h3⟩
      · exact ⟨by simp, by simp⟩
    have k1 := C1.r1.cell (i := 0) (by omega)
    have k2 := C1.r2.cell (i := 0) (by omega)
    have c1 := hD1.row.cell (i := 1) (by omega)
    simp only [dc] at c1
    have HD1 : Hid (Dk wc (Ow O w wc) d S1) := hD1
    have HC1 : Hid (Caught wc (Ow O w wc) d s ao m c ys b1 b2 b3) := C1
    have hmade := made_any r (Ow O w wc) d S1 x1 s wc.drew (hD1.keep (drew_keep _)) hx1 hN.le hlens.1
    clear hk hdir hrow hD1 C1
    go_upto_region 2 with fail
    go_cut [] (fun wx => ∃ f fv cv, w.heap.size ≤ f ∧ Dk wx (Ow O w wx) d (newfS S1 r x1 s f fv cv) ∧ Fr O w wx)
    case first =>
      go_region_with (first
        | (go_at_call 29; refine hmade.mono ?_; rintro e w4 ⟨f, b4, b5, fv, rfl, hf4, hD4, hch4, hF4⟩; have C4 := (HC1.out.keep (drew_keep _)).fr hF4 (O' := Ow (Ow O w wc) wc.drew w4) (fun b hb => hb.elim .inl fun e => .inr e.1); have k1' := C4.r1.cell (i := 0) (by omega); have c1' : w4.cell? ⟨d, 1, none⟩ = some (.map (some S1.nb)) := hD4.row.cell (i := 1) (by omega); have hadd := add_made r _ (madeR x1 f fv) s x1.fs.length b4 b5 S1.nb S1.now w4 (hD4.rs.is r _ (upd_same _ _ _)) (by simpa [madeR] using hch4) hD4.now (by rw [hnow.out.1]; exact hz2) hlens.2)
        | (go_at_call 28; refine hadd.mono ?_; rintro e w5 ⟨rfl, ha⟩))
      all_goals (
        go_wp2_with fail
        go_meet
        obtain ⟨cv, hD5, hF5⟩ := added_dk (S := madeS S1 r x1 f fv) hD4 (upd_same _ _ _) ha
        have z4 : wc.heap.size ≤ w4.heap.size := hF4.size
        have z5 : w4.heap.size ≤ w5.heap.size := hF5.size
        refine ⟨f, fv, cv, Nat.le_trans hsz1 hf4, hD5.mono ?_ ?_, ?_⟩
        · rintro b (((e | e) | e) | e)
          · exact .inl e
          · exact .inr ⟨e.1, by omega⟩
          · exact .inr ⟨Nat.le_trans hsz1 e.1, by omega⟩
          · exact .inr ⟨by omega, e.2⟩
        · rintro b (e | e)
          · have := hlimO b e; omega
          · exact e.2
        · exact (hF1.ow (hF4.undrew)).trans hF5 (fun i hi e => by
            rcases e with (e | e) | e
            · exact e
            · omega
            · have e1 : wc.heap.size ≤ i := e.1
              omega))
    case rest =>
      obtain ⟨f, fv, cv, hff, hD6, hF6⟩ := hcut
      have C6 : Caught wc (Ow O w wc) d s ao m c ys b1 b2 b3 := Hc.out.fr hF6 (fun b hb => hb.elim .inl fun e => .inr e.1)
      have hl6 : look (newfS S1 r x1 s f fv cv).now s = some f := by
        have e : (newfS S1 r x1 s f fv cv).now = S1.now.put (nm s) (pd f) := made_on_eq s x1 f S1.now
        rw [e]
        exact look_put_same HD1.out.now.isMap s f
      have hx6 : (newfS S1 r x1 s f fv cv).F f = some ⟨.slice none 0 0, [], 0⟩ := upd_same _ _ _
      have k1 := C6.r1.cell (i := 0) (by omega)
      have k2 := C6.r2.cell (i := 0) (by omega)
      have k3 := C6.r3.cell (i := 0) (by omega)
      have c1 : wc.cell? ⟨d, 1, none⟩ = some (.map (some S1.nb)) := hD6.row.cell (i := 1) (by omega)
      have hk : (Instr.lookup 45 (.map (some S1.nb)) (.string s) false).run Try.prog wc.drew = .ok (.pointer (some ⟨f, 0, none⟩)) wc.drew := by
        have := look45 (hD6.now.keep (drew_keep wc)) s hN.le
        rw [hl6] at this
        exact this
      have hput := put_any f _ _ ao m c ys wc.drew ((hD6.keep (drew_keep _)).fs.is f _ hx6) (C6.keep (drew_keep _)).rd (by simpa using hlim)
      have H6 : Hid (Dk wc (Ow O w wc) d (newfS S1 r x1 s f fv cv)) := hD6
      have HC6 : Hid (Caught wc (Ow O w wc) d s ao m c ys b1 b2 b3) := C6
      clear hmade hD6 C6 hl6 hx1
      go_wp2_with fail
      go_region_with (go_at_call 30; refine hput.mono ?_; rintro e w7 ⟨rfl, v', r1, r2, r3, r4⟩)
      all_goals (
        go_wp2
        go_end0
        have hdd := put_dk (H6.out.keep (drew_keep wc)) hx6 HC6.out.rd.byt r1 r2 r3 r4
        refine ⟨rfl, r, S1, x1, f, fv, cv, v', hro, hff, ?_, hF6.ow hdd.2.undrew⟩
        exact Dk.ow (w1 := wc) hdd.1 hF6.size hdd.2.size hlimO)

end Go.Proofs.Ytmpfbemdljfamaa
