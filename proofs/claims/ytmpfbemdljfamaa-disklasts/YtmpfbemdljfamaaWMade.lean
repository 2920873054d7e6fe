/- Changes made: made, renamed, removed; a directory's row. -/
import Derived.Test.YtmpfbemdljfamaaDUp
namespace Go.Proofs.Ytmpfbemdljfamaa
open Go.RowKit Go.Maps

/-- These blocks, and all new ones. -/
def Ow (O : Nat → Prop) (w w' : World) : Nat → Prop := fun k => O k ∨ w.heap.size ≤ k ∧ k < w'.heap.size

theorem Ow.more {w w' : World} {O : Nat → Prop} (h : ∀ b, O b → b < w.heap.size) (hs : w.heap.size ≤ w'.heap.size) : More w w' O (Ow O w w') :=
  ⟨fun _ h => .inl h, fun _ h => h.elim .inl fun h => .inr h.1, fun b hb => hb.elim (fun e => Nat.lt_of_lt_of_le (h b e) hs) fun h => h.2⟩

theorem renamed_any (n m : ByteArray) (w : World) (hn : n.size ≤ maxLen) (hm : m.size ≤ maxLen) (k : Nat) :
    Calls Try.prog 34 #[.string n, .string m] w fun e w' => ∃ b1 b2, e = .returned (.func (.func 54) #[] #[.pointer (some ⟨b1, 0, none⟩), .pointer (some ⟨b2, 0, none⟩)]) ∧
      IsChg w' (fun k => w.heap.size ≤ k ∧ k < w'.heap.size) k (.func (.func 54) #[] #[.pointer (some ⟨b1, 0, none⟩), .pointer (some ⟨b2, 0, none⟩)]) (.renamed n m) ∧ Below w.heap.size w w' := by
  have r1 := World.rowIs_alloc w #[.string n] 9 (fun _ => .string n) (fun i hi => by simp at hi; subst hi; rfl)
  have r2 := World.rowIs_alloc (w.alloc (.cells #[.string n] 9)) #[.string m] 9 (fun _ => .string m) (fun i hi => by simp at hi; subst hi; rfl)
  have r1' := r1.alloc (.cells #[.string m] 9)
  have hb : Below w.heap.size w ((w.alloc (.cells #[.string n] 9)).alloc (.cells #[.string m] 9)) := ((Below.refl _ _).alloc (Nat.le_refl _) _).alloc (by simp) _
  have fin : IsChg ((w.alloc (.cells #[.string n] 9)).alloc (.cells #[.string m] 9)) (fun k => w.heap.size ≤ k ∧ k < ((w.alloc (.cells #[.string n] 9)).alloc (.cells #[.string m] 9)).heap.size) k
      (.func (.func 54) #[] #[.pointer (some ⟨w.heap.size, 0, none⟩), .pointer (some ⟨w.heap.size + 1, 0, none⟩)]) (.renamed n m) :=
    .renamed n m _ _ r1' (by simpa using r2) ⟨Nat.le_refl _, by simp; omega⟩ ⟨by omega, by simp⟩ hn hm
  clear r1 r2 r1'
  go_enter Try.func34, Try.ntmps34
  go_wp2
  go_ret
  exact ⟨_, _, rfl, fin, hb⟩

theorem removed_any (n : ByteArray) (w : World) (hn : n.size ≤ maxLen) (k : Nat) :
    Calls Try.prog 49 #[.string n] w fun e w' => ∃ b1, e = .returned (.func (.func 66) #[] #[.pointer (some ⟨b1, 0, none⟩)]) ∧
      IsChg w' (fun k => w.heap.size ≤ k ∧ k < w'.heap.size) k (.func (.func 66) #[] #[.pointer (some ⟨b1, 0, none⟩)]) (.removed n) ∧ Below w.heap.size w w' := by
  have r1 := World.rowIs_alloc w #[.string n] 9 (fun _ => .string n) (fun i hi => by simp at hi; subst hi; rfl)
  have hb : Below w.heap.size w (w.alloc (.cells #[.string n] 9)) := ((Below.refl _ _).alloc (Nat.le_refl _) _)
  have fin : IsChg (w.alloc (.cells #[.string n] 9)) (fun k => w.heap.size ≤ k ∧ k < (w.alloc (.cells #[.string n] 9)).heap.size) k
      (.func (.func 66) #[] #[.pointer (some ⟨w.heap.size, 0, none⟩)]) (.removed n) :=
    .removed n _ r1 ⟨Nat.le_refl _, by simp⟩ hn
  clear r1
  go_enter Try.func49, Try.ntmps49
  go_wp2
  go_ret
  exact ⟨_, rfl, fin, hb⟩

theorem made_dk {r : Nat} {O : Nat → Prop} {d : Nat} {S : St} {x : Rw} {n : ByteArray} {w W w5 : World} {f b1 b2 : Nat} {V : Value} (h : Dk w O d S) (hx : S.R r = some x) (hn : n.size ≤ maxLen) (hb : Below w.heap.size w W)
    (hlim : w.heap.size ≤ b2 ∧ w.heap.size ≤ b1 ∧ w.heap.size ≤ f) (r1 : W.rowIs b2 9 1 (fun _ => .string n)) (r2 : W.rowIs b1 3 1 (fun _ => .int .i64 x.fs.length)) (r3 : W.rowIs f 79 2 (fc ⟨.slice none 0 0, [], 0⟩))
    (ho : w5.ownsRow 0 51 1 V (x.fs ++ [f]).length ((x.fs ++ [f]).map fun f => pv (some f))) (hg : W.grownBy w5 x.fv.ownBlock) (hl : ∀ g, V.ownBlock = some g → x.fv.ownBlock = some g ∨ g = W.heap.size)
    (hr5 : w5.rowIs r 67 2 (rc x)) (hr6 : (w5.setCell ⟨r, 1, none⟩ V).rowIs r 67 2 (rc ⟨x.cv, V, x.cs, x.fs ++ [f]⟩)) :
    Dk (w5.setCell ⟨r, 1, none⟩ V) (Ow O w (w5.setCell ⟨r, 1, none⟩ V)) d { S with F := upd S.F f ⟨.slice none 0 0, [], 0⟩, R := upd S.R r ⟨x.cv, V, x.cs, x.fs ++ [f]⟩ } ∧
      IsChg (w5.setCell ⟨r, 1, none⟩ V) (Ow O w (w5.setCell ⟨r, 1, none⟩ V)) (x.fs.length + 1) (.func (.func 53) #[] #[.pointer (some ⟨b1, 0, none⟩), .pointer (some ⟨b2, 0, none⟩)]) (.made n x.fs.length) ∧ Fr O w (w5.setCell ⟨r, 1, none⟩ V) := by
  have h56 : Fr (fun k => k = r) w5 (w5.setCell ⟨r, 1, none⟩ V) := set_fr w5 r 1 V
  generalize w5.setCell ⟨r, 1, none⟩ V = w6 at *
  have mW : More w W O (Ow O w W) := Ow.more h.lim hb.size
  have isf : IsF W (Ow O w W) f ⟨.slice none 0 0, [], 0⟩ := ⟨r3, World.ownsRow_nil _ _ _ _, (fun b hb => by cases hb), ⟨Int.le_refl _, Int.le_refl _⟩, .inr ⟨hlim.2.2, r3.lt⟩, (fun g e => by cases e)⟩
  have D1 := h.newF mW isf hb hlim.2.2 rfl
  have hR := D1.rs.is r x hx
  obtain ⟨cl, hcl, hi⟩ := hR.chs
  have k1 := kd_row hR.row
  have hF : Fr (fun k => k = r ∨ x.cv.ownBlock = some k ∨ x.fv.ownBlock = some k) W w6 := ((fr_grown hg).weak (fun i e => .inr (.inr e))).trans h56 (fun i _ e => .inl e)
  have hF2 : Fr (fun k => k = r ∨ x.fv.ownBlock = some k) W w6 := ((fr_grown hg).weak (fun i e => .inr e)).trans h56 (fun i _ e => .inl e)
  have hP : ∀ b, (b = r ∨ x.fv.ownBlock = some b) → kd W b = some 67 ∨ kd W b = some 51 := by
    rintro b (rfl | e)
    · exact .inl k1
    · exact .inr (kd_own hR.fls e)
  have hP2 : ∀ b, Ow O w W b → (b = r ∨ x.fv.ownBlock = some b) → kd W b ≠ some 3 ∧ kd W b ≠ some 9 := fun b _ hb => by
    rcases hP b hb with e | e <;> rw [e] <;> decide
  have nP : ∀ b t, kd W b = some t → t ≠ 67 → t ≠ 51 → ¬ (b = r ∨ x.fv.ownBlock = some b) := fun b t e h1 h2 hb => by
    rcases hP b hb with e' | e' <;> rw [e] at e'
    · exact h1 (by cases e'; rfl)
    · exact h2 (by cases e'; rfl)
  have hs6 : W.heap.size ≤ w6.heap.size := Nat.le_trans hg.size h56.size
  have m6 : More W w6 (Ow O w W) (Ow O w w6) := by
    refine ⟨?_, ?_, ?_⟩
    · rintro b (e | e)
      · exact .inl e
      · exact .inr ⟨e.1, by omega⟩
    · rintro b (e | e)
      · exact .inl (.inl e)
      · by_cases hb : b < W.heap.size
        · exact .inl (.inr ⟨e.1, hb⟩)
        · exact .inr (by omega)
    · rintro b (e | e)
      · exact Nat.lt_of_lt_of_le (mW.lim b (.inl e)) hs6
      · exact e.2
  have ho6 : w6.ownsRow 0 51 1 V (x.fs ++ [f]).length ((x.fs ++ [f]).map fun f => pv (some f)) := ownsRow_fr ho h56 (fun k e hk => by
    have := kd_own ho e
    rw [hk, kd_row hr5] at this
    cases this)
  have hl' : ∀ g, V.ownBlock = some g → x.fv.ownBlock = some g ∨ W.heap.size ≤ g := fun g e => (hl g e).elim .inl fun e => .inr (by omega)
  have own' : ∀ g, V.ownBlock = some g → Ow O w w6 g := fun g e => by
    rcases hl' g e with e' | e'
    · exact m6.sub _ (hR.own.2.2 g e')
    · exact .inr ⟨Nat.le_trans hb.size e', own_lt ho6 e⟩
  have isr : IsRw w6 (Ow O w w6) r ⟨x.cv, V, x.cs, x.fs ++ [f]⟩ := by
    refine ⟨hr6, ⟨cl, ownsRow_fr hcl hF2 (fun g e => nP g _ (kd_own hcl e) (by decide) (by decide)), fun i hi' => ?_⟩, ho6, m6.sub _ hR.own.1, fun g e => m6.sub _ (hR.own.2.1 g e), own'⟩
    obtain ⟨u, hu, hg⟩ := hi i hi'
    exact ⟨u, hu, (hg.fr hF2 hP2).mono m6.sub (by simp)⟩
  have D2 := D1.setRw m6 hx isr hF (fun g e => .inl e) hl'
  refine ⟨D2, ?_, ?_⟩
  · exact .made n x.fs.length b1 b2 (rowIs_fr r2 hF2 (nP _ _ (kd_row r2) (by decide) (by decide))) (rowIs_fr r1 hF2 (nP _ _ (kd_row r1) (by decide) (by decide))) (.inr ⟨hlim.2.1, Nat.lt_of_lt_of_le r2.lt hs6⟩) (.inr ⟨hlim.1, Nat.lt_of_lt_of_le r1.lt hs6⟩) (by omega) hn
  · exact (Fr.ofBelow hb).trans hF2 (fun i hi e => by
      have hR0 := h.rs.is r x hx
      rcases e with rfl | e
      · exact hR0.own.1
      · exact hR0.own.2.2 _ e)

set_option maxRecDepth 100000 in
set_option maxHeartbeats 1000000 in
theorem made_any (r : Nat) (O : Nat → Prop) (d : Nat) (S : St) (x : Rw) (n : ByteArray) (w : World) (h : Dk w O d S) (hx : S.R r = some x) (hn : n.size ≤ maxLen) (hl : x.fs.length < 1000000) :
    Calls Try.prog 29 #[.pointer (some ⟨r, 0, none⟩), .string n] w fun e w' => ∃ f b1 b2 fv', e = .returned (.func (.func 53) #[] #[.pointer (some ⟨b1, 0, none⟩), .pointer (some ⟨b2, 0, none⟩)]) ∧ w.heap.size ≤ f ∧
      Dk w' (Ow O w w') d { S with F := upd S.F f ⟨.slice none 0 0, [], 0⟩, R := upd S.R r ⟨x.cv, fv', x.cs, x.fs ++ [f]⟩ } ∧
      IsChg w' (Ow O w w') (x.fs.length + 1) (.func (.func 53) #[] #[.pointer (some ⟨b1, 0, none⟩), .pointer (some ⟨b2, 0, none⟩)]) (.made n x.fs.length) ∧ Fr O w w' := by
  have hR := h.rs.is r x hx
  have c1 := hR.row.cell (i := 1) (by omega)
  simp only [rc] at c1
  obtain ⟨av, cv, hv⟩ := own_shape hR.fls
  rw [hv] at c1
  have HV : Hid (x.fv = Value.slice av x.fs.length cv) := hv
  obtain ⟨m, hm⟩ : ∃ m, m = x.fs.length := ⟨_, rfl⟩
  rw [← hm] at c1 hl ⊢
  have HM : Hid (m = x.fs.length) := hm
  have hlt := hR.row.lt
  have hfls := hR.fls
  rw [hv, ← hm] at hfls
  have hne : ∀ k, (Value.slice av m cv).ownBlock = some k → k ≠ r := fun k e hk => by
    have := kd_own hfls e
    rw [hk, kd_row hR.row] at this
    cases this
  obtain ⟨W, hW⟩ : ∃ W, W = ((((w.alloc (Obj.cells #[Value.string n] 9)).alloc (Obj.cells #[Value.int .i64 m] 3)).alloc (Obj.cells #[Value.slice none 0 0, Value.int .i64 0] 79)).alloc (Obj.cells #[Value.pointer (some ⟨w.heap.size + 1 + 1, 0, none⟩)] 51)) := ⟨_, rfl⟩
  have hb : Below w.heap.size w W := by
    rw [hW]
    exact ((((Below.refl _ _).alloc (Nat.le_refl _) _).alloc (by simp) _).alloc (by simp; omega) _).alloc (by simp; omega) _
  have hsz : W.heap.size = w.heap.size + 4 := by rw [hW]; simp
  have r1 : W.rowIs w.heap.size 9 1 (fun _ => .string n) := by
    rw [hW]
    exact (((World.rowIs_alloc w #[.string n] 9 (fun _ => .string n) (fun i hi => by simp at hi; subst hi; rfl)).alloc _).alloc _).alloc _
  have r2 : W.rowIs (w.heap.size + 1) 3 1 (fun _ => .int .i64 m) := by
    rw [hW]
    have := (((World.rowIs_alloc (w.alloc (Obj.cells #[Value.string n] 9)) #[.int .i64 m] 3 (fun _ => .int .i64 m) (fun i hi => by simp at hi; subst hi; rfl)).alloc (Obj.cells #[Value.slice none 0 0, Value.int .i64 0] 79)).alloc (Obj.cells #[Value.pointer (some ⟨w.heap.size + 1 + 1, 0, none⟩)] 51))
    simpa using this
  have r3 : W.rowIs (w.heap.size + 1 + 1) 79 2 (fc ⟨.slice none 0 0, [], 0⟩) := by
    rw [hW]
    have := ((World.rowIs_alloc ((w.alloc (Obj.cells #[Value.string n] 9)).alloc (Obj.cells #[Value.int .i64 m] 3)) #[.slice none 0 0, .int .i64 0] 79 (fc ⟨.slice none 0 0, [], 0⟩) (fun i hi => by
      have : i < 2 := by simpa using hi
      match i, this with
      | 0, _ => rfl
      | 1, _ => rfl)).alloc (Obj.cells #[Value.pointer (some ⟨w.heap.size + 1 + 1, 0, none⟩)] 51))
    simpa using this
  have r4 : W.rowIs (w.heap.size + 1 + 1 + 1) 51 1 (fun _ => .pointer (some ⟨w.heap.size + 1 + 1, 0, none⟩)) := by
    rw [hW]
    have := (World.rowIs_alloc (((w.alloc (Obj.cells #[Value.string n] 9)).alloc (Obj.cells #[Value.int .i64 m] 3)).alloc (Obj.cells #[Value.slice none 0 0, Value.int .i64 0] 79)) #[.pointer (some ⟨w.heap.size + 1 + 1, 0, none⟩)] 51 (fun _ => .pointer (some ⟨w.heap.size + 1 + 1, 0, none⟩)) (fun i hi => by simp at hi; subst hi; rfl))
    simpa using this
  have hfW := ownsRow_fr (P := fun _ => False) hfls (Fr.ofBelow hb) (fun _ _ h => h)
  have hrW := rowIs_fr (P := fun _ => False) hR.row (Fr.ofBelow hb) (fun h => h)
  have HW : Hid (W = ((((w.alloc (Obj.cells #[Value.string n] 9)).alloc (Obj.cells #[Value.int .i64 m] 3)).alloc (Obj.cells #[Value.slice none 0 0, Value.int .i64 0] 79)).alloc (Obj.cells #[Value.pointer (some ⟨w.heap.size + 1 + 1, 0, none⟩)] 51))) := hW
  have Hh : Hid (Dk w O d S) := h
  have Hx : Hid (S.R r = some x) := hx
  have Hsz : Hid (W.heap.size = w.heap.size + 4) := hsz
  clear hm hv hW hR hfls h hx hsz
  go_enter Try.func29, Try.ntmps29
  go_wp2_with (at_builtin; rw [← HW.out]; refine wpList_app rfl _ _ 65 rfl 51 (.pointer none) 8 Try.underlying65 Try.info51 rfl (.slice av m cv) m _ rfl hfW (some ⟨w.heap.size + 1 + 1 + 1, 0, none⟩) 1 1 [.pointer (some ⟨w.heap.size + 1 + 1, 0, none⟩)] rfl rfl (fun e => by cases e) ?_ ?_ (by unfold maxLen; omega) (by omega) ?_)
  · rintro ad hh j u hj
    cases hh
    match j with
    | 0 =>
      cases hj
      have := r4.cell (i := 0) (by omega)
      simpa [Addr.add] using this
    | j + 1 => cases hj
  · intro u hu
    cases List.mem_singleton.1 hu
    rfl
  · intro av' cv' w5 ho5 hg5 hl5
    have hr5 := rowIs_fr hrW (fr_grown hg5) (fun e => hne _ e rfl)
    have c5 := hr5.cell (i := 1) (by omega)
    have f5 := hr5.frozen 1
    simp only [rc] at c5
    obtain ⟨fc5, hfc5⟩ : ∃ q, q = x.fv := ⟨_, rfl⟩
    rw [← hfc5] at c5
    have hr6 := set_row (g := rc ⟨x.cv, .slice av' (m + 1) cv', x.cs, x.fs ++ [w.heap.size + 1 + 1]⟩) hr5 1 (.slice av' (m + 1) cv') (by
      intro j hj
      match j, hj with
      | 0, _ | 1, _ => rfl)
    clear hne hfW hrW
    go_wp2
    go_ret
    rw [hfc5] at c5
    have hM := HM.out
    rw [hM] at ho5 hl5 hg5 hr6 r2 ⊢
    rw [← HV.out] at hl5 hg5
    exact ⟨w.heap.size + 1 + 1, w.heap.size + 1, w.heap.size, _, rfl, by omega, made_dk Hh.out Hx.out hn hb (by omega) r1 r2 r3 (by simpa [pv] using ho5) hg5 hl5 hr5 hr6⟩

end Go.Proofs.Ytmpfbemdljfamaa
