/- The row of a directory. -/
import Derived.Test.YtmpfbemdljfamaaDAdd
namespace Go.Proofs.Ytmpfbemdljfamaa
open Go.RowKit Go.Maps

theorem row_old (d r : Nat) (S : St) (s : ByteArray) (w : World) (hr : w.rowIs d 48 8 (dc S)) (hm : Mp w S.rb S.rws) (hs : s.size ≤ maxLen) (hl : look S.rws s = some r) :
    Calls Try.prog 26 #[.pointer (some ⟨d, 0, none⟩), .string s] w fun e w' => e = .returned (.pointer (some ⟨r, 0, none⟩)) ∧ w' = w := by
  have c3 := hr.cell (i := 3) (by omega)
  simp only [dc] at c3
  have hk := look46 hm s hs
  rw [hl] at hk
  simp only [pv, Option.map_some] at hk
  clear hr hm
  go_enter Try.func26, Try.ntmps26
  go_wp2
  go_ret
  exact ⟨rfl, rfl⟩

/-- The disk behind a new row. -/
def rowed (S : St) (s : ByteArray) (r : Nat) : St := { S with rws := S.rws.put (nm s) (pd r), R := upd S.R r ⟨.slice none 0 0, .slice none 0 0, [], []⟩ }

theorem row_new (d : Nat) (O : Nat → Prop) (S : St) (s : ByteArray) (w : World) (h : Dk w O d S) (hs : s.size ≤ maxLen) (hl : look S.rws s = none) (hz : Maps.size S.rws < maxLen) :
    Calls Try.prog 26 #[.pointer (some ⟨d, 0, none⟩), .string s] w fun e w' => ∃ r, e = .returned (.pointer (some ⟨r, 0, none⟩)) ∧ w.heap.size ≤ r ∧ Dk w' (Ow O w w') d (rowed S s r) ∧ Fr O w w' := by
  have c3 := h.row.cell (i := 3) (by omega)
  simp only [dc] at c3
  have hk := look46 h.rws s hs
  rw [hl] at hk
  simp only [pv, Option.map_none] at hk
  obtain ⟨W, hW⟩ : ∃ W, W = w.alloc (.cells #[.slice none 0 0, .slice none 0 0] 67) := ⟨_, rfl⟩
  have hb : Below w.heap.size w W := by rw [hW]; exact new_below _ _
  have r1 : W.rowIs w.heap.size 67 2 (rc ⟨.slice none 0 0, .slice none 0 0, [], []⟩) := by
    rw [hW]
    exact World.rowIs_alloc w #[.slice none 0 0, .slice none 0 0] 67 _ (fun i hi => by
      have : i < 2 := by simpa using hi
      match i, this with
      | 0, _ => rfl
      | 1, _ => rfl)
  have mW : More w W O (Ow O w W) := Ow.more h.lim hb.size
  have isr : IsRw W (Ow O w W) w.heap.size ⟨.slice none 0 0, .slice none 0 0, [], []⟩ :=
    ⟨r1, ⟨[], World.ownsRow_nil _ _ _ _, (fun i hi => by cases hi)⟩, World.ownsRow_nil _ _ _ _, .inr ⟨Nat.le_refl _, r1.lt⟩, (fun g e => by cases e), (fun g e => by cases e)⟩
  have D1 := h.newRw mW isr hb rfl rfl
  obtain ⟨w', hrun, hm, hf⟩ := store_run (w := W) D1.rws 46 52 Try.underlying46 hz s hs (pv (some w.heap.size)) (pd w.heap.size) [] rfl
  simp only [pv, Option.map_some] at hrun
  have D2 := D1.setMap (S' := rowed S s w.heap.size) D1.rws hf rfl (D1.now.fr hf (fun e => h.ne.2.1 e)) (D1.last.fr hf (fun e => h.ne.2.2 e)) hm
  have c3' := D2.row.cell (i := 3) (by omega)
  simp only [dc] at c3'
  have hk' := look46 hm s hs
  rw [look_put_same D1.rws.isMap] at hk'
  simp only [pv, Option.map_some] at hk'
  have fin : Dk w' (Ow O w w') d (rowed S s w.heap.size) := D2.mono (fun b hb => hb.elim .inl fun e => .inr ⟨e.1, Nat.lt_of_lt_of_le e.2 hf.size⟩) (fun b ho => ho.elim (fun e => Nat.lt_of_lt_of_le (h.lim b e) (Nat.le_trans hb.size hf.size)) fun e => e.2)
  have ff : Fr O w w' := (Fr.ofBelow hb).trans hf (fun i _ e => by subst e; exact h.own.2.2.2.1)
  rw [hW] at hrun
  have e3 : (rowed S s w.heap.size).rb = S.rb := rfl
  rw [e3] at c3'
  clear D1 D2 isr mW r1 hm hf hb hW h hl
  go_enter Try.func26, Try.ntmps26
  go_wp2
  go_ret
  exact ⟨_, rfl, Nat.le_refl _, fin, ff⟩

end Go.Proofs.Ytmpfbemdljfamaa
