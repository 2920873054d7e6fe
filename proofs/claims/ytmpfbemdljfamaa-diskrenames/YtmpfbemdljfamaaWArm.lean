/- New, Arm, On, Read. -/
import Derived.Test.YtmpfbemdljfamaaWFind
import Derived.Test.YtmpfbemdljfamaaWClone
namespace Go.Proofs.Ytmpfbemdljfamaa
open Go.RowKit Go.Maps

theorem set_row {w : World} {b t n : Nat} {f g : Nat → Value} (h : w.rowIs b t n f) (i : Nat) (v : Value) (he : ∀ j, j < n → g j = if j = i then v else f j) : (w.setCell ⟨b, i, none⟩ v).rowIs b t n g := by
  refine (h.set i v).congr (fun j hj => ?_)
  rw [he j hj]

theorem set_fr (w : World) (b i : Nat) (v : Value) : Fr (fun k => k = b) w (w.setCell ⟨b, i, none⟩ v) := Fr.setCell (P := fun k => k = b) (Fr.refl _ w) (p := ⟨b, i, none⟩) rfl v

theorem own0 {w : World} {base e s n : Nat} {v : Value} {xs : List Value} (h : w.ownsRow base e s v n xs) : w.ownsRow 0 e s v n xs :=
  ⟨h.1, h.2.elim .inl fun ⟨g, cap, cur, h1, _, h3⟩ => .inr ⟨g, cap, cur, h1, Nat.zero_le _, h3⟩⟩

theorem own_ge {w : World} {base e s n : Nat} {v : Value} {xs : List Value} (h : w.ownsRow base e s v n xs) {g : Nat} (hg : v.ownBlock = some g) : base ≤ g := by
  rcases h.2 with ⟨rfl, _⟩ | ⟨g', cap, cur, rfl, hb, _⟩
  · cases hg
  · cases hg; exact hb

/-- The disk behind an Arm that goes. -/
def unarmed (S : St) : St := { S with left := 0, pk := .slice none 0 0, ps := [] }

theorem arm_no (d : Nat) (O : Nat → Prop) (S : St) (n : Int) (ao : Option Addr) (m c : Nat) (w : World) (h : Dk w O d S) (hn : n < 1) :
    Calls Try.prog 20 #[.pointer (some ⟨d, 0, none⟩), .int .i64 n, .slice ao m c] w fun e w' => e = .returned (.tuple #[]) ∧ Dk w' O d (unarmed S) ∧ Fr (fun k => k = d) w w' := by
  have hr := h.row
  have c6 := hr.cell (i := 6) (by omega)
  have c7 := hr.cell (i := 7) (by omega)
  simp only [dc] at c6 c7
  have hd : decide (n < 1) = true := by simp; omega
  have hr1 := set_row (g := dc { S with left := 0 }) hr 6 (.int .i64 0) (by
    intro j hj
    match j, hj with
    | 0, _ | 1, _ | 2, _ | 3, _ | 4, _ | 5, _ | 6, _ | 7, _ => rfl)
  have hr2 := set_row (g := dc (unarmed S)) hr1 7 (.slice none 0 0) (by
    intro j hj
    match j, hj with
    | 0, _ | 1, _ | 2, _ | 3, _ | 4, _ | 5, _ | 6, _ | 7, _ => rfl)
  have hf : Fr (fun k => k = d) w ((w.setCell ⟨d, 6, none⟩ (.int .i64 0)).setCell ⟨d, 7, none⟩ (.slice none 0 0)) := (set_fr w d 6 _).setCell rfl _
  have fin : Dk ((w.setCell ⟨d, 6, none⟩ (.int .i64 0)).setCell ⟨d, 7, none⟩ (.slice none 0 0)) O d (unarmed S) :=
    h.setRow hr2 hf rfl rfl rfl rfl rfl rfl rfl rfl (World.ownsRow_nil _ _ _ _) (fun g e => by cases e)
  have f6 := hr.frozen 6
  have f7 := hr.frozen 7
  clear hr hr1 hr2 h
  go_enter Try.func20, Try.ntmps20
  go_wp2
  exact bodyPost_ret (results_none (by kernel_rfl) _ _ _) rfl ⟨rfl, fin, hf⟩

/-- The disk behind an Arm. -/
def armed (S : St) (n : Int) (v : Value) (ps : List Int) : St := { S with left := n, pk := v, ps := ps }

theorem ivs_map (ps : List Int) : ivs (fun j => ps.getD j 0) ps.length = ps.map (Value.int .i64) := by
  apply List.ext_getElem?
  intro i
  by_cases hi : i < ps.length
  · rw [vals_get _ _ _ hi]
    simp [List.getD, hi]
  · rw [List.getElem?_eq_none (by rw [vals_len]; omega), List.getElem?_eq_none (by simp; omega)]

theorem arm_yes (d : Nat) (O : Nat → Prop) (S : St) (n : Int) (ao : Option Addr) (m c : Nat) (ps : List Int) (w : World) (h : Dk w O d S) (hn : 1 ≤ n) (hp : Ri w ao m c (fun j => ps.getD j 0)) (hm : ps.length = m) (hm2 : m ≤ 1000000) :
    Calls Try.prog 20 #[.pointer (some ⟨d, 0, none⟩), .int .i64 n, .slice ao m c] w fun e w' => e = .returned (.tuple #[]) ∧
      ∃ v, Dk w' (fun b => O b ∨ v.ownBlock = some b) d (armed S n v ps) ∧ Fr (fun k => k = d) w w' ∧ ∀ g, v.ownBlock = some g → w.heap.size ≤ g := by
  have hd : decide (n < 1) = false := by simp; omega
  have hc := iclone_any ao m c _ w hp hm2
  subst hm
  go_enter Try.func20, Try.ntmps20
  go_wp2_with (go_at_call 50; refine hc.mono ?_; rintro e w1 ⟨v, rfl, hv, hb⟩; obtain ⟨av, cv, rfl⟩ := own_shape hv; have h1 := h.keep hb; have f6 := h1.row.frozen 6; have f7 := h1.row.frozen 7; have c6 := h1.row.cell (i := 6) (by omega); have c7 := h1.row.cell (i := 7) (by omega); simp only [dc] at c6 c7)
  have hr1 := set_row (g := dc { S with left := n }) h1.row 6 (.int .i64 n) (by
    intro j hj
    match j, hj with
    | 0, _ | 1, _ | 2, _ | 3, _ | 4, _ | 5, _ | 6, _ | 7, _ => rfl)
  obtain ⟨v, hvv⟩ : ∃ v, v = Value.slice av ps.length cv := ⟨_, rfl⟩
  rw [← hvv] at hv
  have hr2 := set_row (g := dc (armed S n v ps)) hr1 7 v (by
    intro j hj
    match j, hj with
    | 0, _ | 1, _ | 2, _ | 3, _ | 4, _ | 5, _ | 6, _ | 7, _ => rfl)
  have hf : Fr (fun k => k = d) w1 ((w1.setCell ⟨d, 6, none⟩ (.int .i64 n)).setCell ⟨d, 7, none⟩ v) := (set_fr w1 d 6 _).setCell rfl _
  rw [ivs_map] at hv
  have h2 : Dk w1 (fun b => O b ∨ v.ownBlock = some b) d S := h1.mono (fun b hb => .inl hb) (fun b hb => hb.elim (h1.lim b) (fun e => own_lt hv e))
  have hne : ∀ g, v.ownBlock = some g → g ≠ d := fun g e hg => by
    have k1 := kd_own hv e
    have k2 := kd_row h1.row
    rw [hg, k2] at k1
    cases k1
  have fin := h2.setRow (S' := armed S n v ps) hr2 hf rfl rfl rfl rfl rfl rfl rfl rfl (ownsRow_fr (own0 hv) hf hne) (fun g e => .inr e)
  rw [← hvv]
  go_end0
  refine ⟨rfl, v, fin, (Fr.ofBelow hb).trans hf (fun _ _ e => e), fun g e => own_ge hv e⟩

/-- The disk behind On. -/
def onn (S : St) : St := { unarmed S with off := false }

theorem on_any (d : Nat) (O : Nat → Prop) (S : St) (w : World) (h : Dk w O d S) :
    Calls Try.prog 14 #[.pointer (some ⟨d, 0, none⟩)] w fun e w' => e = .returned (.tuple #[]) ∧ Dk w' O d (onn S) ∧ Fr (fun k => k = d) w w' := by
  go_enter Try.func14, Try.ntmps14
  go_wp2_with (go_at_call 20; refine (arm_no d O S 0 none 0 0 _ h (by omega)).mono ?_; rintro e w1 ⟨rfl, h1, hf1⟩; have f4 := h1.row.frozen 4; have c4 := h1.row.cell (i := 4) (by omega); simp only [dc] at c4)
  have hr2 := set_row (g := dc (onn S)) h1.row 4 (.bool false) (by
    intro j hj
    match j, hj with
    | 0, _ | 1, _ | 2, _ | 3, _ | 4, _ | 5, _ | 6, _ | 7, _ => rfl)
  have hf := set_fr w1 d 4 (.bool false)
  have fin := h1.setRow (S' := onn S) hr2 hf rfl rfl rfl rfl rfl rfl rfl rfl (World.ownsRow_nil _ _ _ _) (fun g e => by cases e)
  go_end0
  exact ⟨rfl, fin, hf1.trans hf (fun _ _ e => e)⟩

theorem read_off (d : Nat) (S : St) (s : ByteArray) (w : World) (hr : w.rowIs d 48 8 (dc S)) (ho : S.off = true) :
    Calls Try.prog 15 #[.pointer (some ⟨d, 0, none⟩), .string s] w fun e w' => e = .returned (.tuple #[.slice none 0 0, .int .i64 8]) ∧ w' = w := by
  go_enter Try.func15, Try.ntmps15
  go_wp2_with (go_at_call 31; refine (find_off d S s _ hr ho).mono ?_; rintro e w1 ⟨rfl, rfl⟩)
  go_ret2
  exact ⟨rfl, rfl⟩

theorem read_none (d : Nat) (S : St) (s : ByteArray) (w : World) (hr : w.rowIs d 48 8 (dc S)) (hm : Mp w S.nb S.now) (hs : s.size ≤ maxLen) (ho : S.off = false) (hl : look S.now s = none) :
    Calls Try.prog 15 #[.pointer (some ⟨d, 0, none⟩), .string s] w fun e w' => e = .returned (.tuple #[.slice none 0 0, .int .i64 6]) ∧ w' = w := by
  go_enter Try.func15, Try.ntmps15
  go_wp2_with (go_at_call 31; refine (find_none d S s _ hr hm hs ho hl).mono ?_; rintro e w1 ⟨rfl, rfl⟩)
  go_ret2
  exact ⟨rfl, rfl⟩

theorem read_yes (d : Nat) (S : St) (s : ByteArray) (f : Nat) (x : Fl) (w : World) (hr : w.rowIs d 48 8 (dc S)) (hm : Mp w S.nb S.now) (hs : s.size ≤ maxLen) (ho : S.off = false) (hl : look S.now s = some f)
    (hf : w.rowIs f 79 2 (fc x)) (hd : w.ownsRow 0 5 1 x.v x.xs.length (x.xs.map (Value.int .u8))) (hb : ∀ b ∈ x.xs, 0 ≤ b ∧ b < 256) (hn : x.xs.length ≤ 140737488351232) :
    Calls Try.prog 15 #[.pointer (some ⟨d, 0, none⟩), .string s] w fun e w' => ∃ v, e = .returned (.tuple #[v, .int .i64 0]) ∧ w'.ownsRow w.heap.size 5 1 v x.xs.length (x.xs.map (Value.int .u8)) ∧ Below w.heap.size w w' := by
  have c0 := hf.cell (i := 0) (by omega)
  simp only [fc] at c0
  obtain ⟨ao, c, hv, hrd, _⟩ := own_rd hd hb
  rw [hv] at c0
  have hc := clone_any ao _ c _ w hrd hn
  clear hf hd hb hn hrd
  generalize x.xs.length = n at *
  go_enter Try.func15, Try.ntmps15
  go_wp2_with (first
    | (go_at_call 31; refine (find_yes d S s f _ hr hm hs ho hl).mono ?_; rintro e w1 ⟨rfl, rfl⟩)
    | (go_at_call 45; refine hc.mono ?_; rintro e w1 ⟨v, rfl, h1, h2⟩))
  go_ret2
  exact ⟨v, rfl, h1, h2⟩

end Go.Proofs.Ytmpfbemdljfamaa
