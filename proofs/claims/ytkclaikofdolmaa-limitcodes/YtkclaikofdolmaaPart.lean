/- Parts in memory; a queue of them; its methods Len, Less, Swap. -/
import Derived.Test.YtkclaikofdolmaaInts
import Derived.Test.YtkclaikofdolmaaHeap
namespace Go.Proofs.Ytkclaikofdolmaa
open Go.RowKit

/-- A pointer to a part, or none. -/
def pv : Option Nat → Value
  | none => .pointer none
  | some b => .pointer (some ⟨b, 0, none⟩)

/-- A pointer to a part. -/
abbrev pp (b : Nat) : Value := .pointer (some ⟨b, 0, none⟩)

/-- A part's cells. -/
def pcells (c p : Int) (l r : Option Nat) : Nat → Value
  | 0 => .int .i64 c
  | 1 => .int .i64 p
  | 2 => pv l
  | _ => pv r

/-- The part t lies in block b. -/
inductive IsP (w : World) : Nat → Pt → Prop where
  | leaf (b : Nat) (c : Int) (s : Nat) : w.rowIs b 85 4 (pcells c s none none) → IsP w b (.leaf c s)
  | node (b : Nat) (c p : Int) (l r : Pt) (bl br : Nat) : w.rowIs b 85 4 (pcells c p (some bl) (some br)) → IsP w bl l → IsP w br r → IsP w b (.node c p l r)

theorem IsP.row {w : World} {b : Nat} {t : Pt} (h : IsP w b t) : ∃ l r, w.rowIs b 85 4 (pcells t.ct t.pl l r) := by
  cases h with
  | leaf b c s h => exact ⟨_, _, h⟩
  | node b c p l r bl br h => exact ⟨_, _, h⟩

theorem IsP.lt {w : World} {b : Nat} {t : Pt} (h : IsP w b t) : b < w.heap.size := by
  obtain ⟨l, r, h⟩ := h.row
  exact h.lt

/-- All parts stay. -/
structure Kp (w w' : World) : Prop where
  size : w.heap.size ≤ w'.heap.size
  keep : ∀ b f, w.rowIs b 85 4 f → w'.rowIs b 85 4 f

theorem Kp.refl (w : World) : Kp w w := ⟨Nat.le_refl _, fun _ _ h => h⟩
theorem Kp.trans {a b c : World} (h : Kp a b) (k : Kp b c) : Kp a c := ⟨Nat.le_trans h.size k.size, fun x f hx => k.keep x f (h.keep x f hx)⟩
theorem Kp.ofBelow {a b : World} (h : Below a.heap.size a b) : Kp a b := ⟨h.size, fun x _ hx => hx.of_block (h.block x hx.lt)⟩
theorem Kp.drew (w : World) : Kp w w.drew := ⟨Nat.le_refl _, fun _ _ h => h⟩

theorem rowIs_type {w : World} {b t t' n n' : Nat} {f f' : Nat → Value} (h : w.rowIs b t n f) (h' : w.rowIs b t' n' f') : t = t' := by
  obtain ⟨c, hb, _⟩ := h
  obtain ⟨c', hb', _⟩ := h'
  rw [hb] at hb'
  injection hb' with e
  injection e

theorem Kp.ofFr {P : Nat → Prop} {w w' : World} (h : Fr P w w') (hp : ∀ b f, P b → ¬ w.rowIs b 85 4 f) : Kp w w' :=
  ⟨h.size, fun b f hr => rowIs_fr hr h (fun hb => hp b f hb hr)⟩

theorem IsP.kp {w w' : World} (k : Kp w w') {b : Nat} {t : Pt} (h : IsP w b t) : IsP w' b t := by
  induction h with
  | leaf b c s h => exact .leaf b c s (k.keep _ _ h)
  | node b c p l r bl br h _ _ ih1 ih2 => exact .node b c p l r bl br (k.keep _ _ h) ih1 ih2

/-- A queue's array: its first m cells are those parts. -/
structure Ar (w : World) (A m c : Nat) (f : Nat → It) : Prop where
  le : m ≤ c
  cap : c ≤ maxLen
  row : ∃ g, w.rowIs A 82 c g ∧ ∀ j, j < m → g j = pp (f j).1
  prt : ∀ j, j < m → IsP w (f j).1 (f j).2

theorem Ar.cell {w : World} {A m c : Nat} {f : Nat → It} (h : Ar w A m c f) {j : Nat} (hj : j < m) : w.cell? ⟨A, j, none⟩ = some (pp (f j).1) := by
  obtain ⟨g, hr, hg⟩ := h.row
  rw [hr.cell (by have := h.le; omega), hg j hj]

theorem Ar.frozen {w : World} {A m c : Nat} {f : Nat → It} (h : Ar w A m c f) (j : Nat) : w.frozen? ⟨A, j, none⟩ = false := by
  obtain ⟨g, hr, hg⟩ := h.row
  exact hr.frozen j

theorem Ar.not85 {w : World} {A m c : Nat} {f : Nat → It} (h : Ar w A m c f) (f' : Nat → Value) : ¬ w.rowIs A 85 4 f' := by
  obtain ⟨g, hr, hg⟩ := h.row
  intro h'
  have := rowIs_type hr h'
  omega

theorem Ar.fr {P : Nat → Prop} {w w' : World} {A m c : Nat} {f : Nat → It} (h : Ar w A m c f) (hf : Fr P w w') (hA : ¬ P A) (hk : Kp w w') : Ar w' A m c f := by
  obtain ⟨g, hr, hg⟩ := h.row
  exact ⟨h.le, h.cap, ⟨g, rowIs_fr hr hf hA, hg⟩, fun j hj => (h.prt j hj).kp hk⟩

theorem Ar.drew {w : World} {A m c : Nat} {f : Nat → It} (h : Ar w A m c f) : Ar w.drew A m c f :=
  ⟨h.le, h.cap, h.row, fun j hj => (h.prt j hj).kp (Kp.drew w)⟩

/-- The list of pointers. -/
abbrev pps (f : Nat → It) (m : Nat) : List Value := (fst f m).map (fun x => pp x.1)

theorem pps_get (f : Nat → It) (m j : Nat) (h : j < m) : (pps f m)[j]? = some (pp (f j).1) := by simp [fst, h]

theorem Ar.own {w : World} {A m c : Nat} {f : Nat → It} (h : Ar w A m c f) : w.ownsRow 0 82 1 (.slice (some ⟨A, 0, none⟩) m c) m (pps f m) := by
  obtain ⟨g, ⟨cs, hb, hs, hc⟩, hg⟩ := h.row
  have hle := h.le
  refine ⟨by simp [fst], .inr ⟨A, c, cs, rfl, Nat.zero_le _, hb, hle, h.cap, by omega, ?_⟩⟩
  apply List.ext_getElem?
  intro j
  by_cases hj : j < m
  · rw [pps_get f m j hj, List.getElem?_take, if_pos (by omega)]
    have := hc j (by omega)
    rw [hg j hj] at this
    simpa using this
  · rw [List.getElem?_eq_none (by simp; omega), List.getElem?_eq_none (by simp [fst]; omega)]

theorem Ar.ofOwn {w : World} {base A m c : Nat} {f : Nat → It} (h : w.ownsRow base 82 1 (.slice (some ⟨A, 0, none⟩) m c) m (pps f m)) (hp : ∀ j, j < m → IsP w (f j).1 (f j).2) : Ar w A m c f := by
  rcases h.2 with ⟨e, _⟩ | ⟨g, cap, cur, e, _, hh, hle, hcap, hsz, hrest⟩
  · cases e
  · cases e
    refine ⟨hle, hcap, ⟨fun j => cur.getD j undef, ⟨cur, hh, by omega, fun i hi => ?_⟩, fun j hj => ?_⟩, hp⟩
    · rw [Array.getElem?_eq_getElem (by omega)]
      simp [Array.getD, show i < cur.size by omega]
    · have h1 := pps_get f m j hj
      rw [← hrest, List.getElem?_take, if_pos (by omega)] at h1
      have h2 : cur[j]? = some (pp (f j).1) := by simpa using h1
      show cur.getD j undef = _
      rw [Array.getD_eq_getD_getElem?, h2]
      rfl

/-- Its cells, as they are read. -/
theorem Ar.cells {w : World} {A m c : Nat} {f : Nat → It} (h : Ar w A m c f) {j : Nat} (hj : j < m) : ∃ b, (f j).1 = b ∧ w.cell? ⟨A, j, none⟩ = some (pp b) ∧ w.cell? ⟨b, 0, none⟩ = some (.int .i64 (f j).2.ct) ∧ w.cell? ⟨b, 1, none⟩ = some (.int .i64 (f j).2.pl) := by
  obtain ⟨l, r, hr⟩ := (h.prt j hj).row
  exact ⟨_, rfl, h.cell hj, hr.cell (i := 0) (by omega), hr.cell (i := 1) (by omega)⟩

theorem qlen_any (a : Option Addr) (m c : Nat) (w : World) : Calls Try.prog 48 #[.slice a m c] w fun e w' => e = .returned (.int .i64 m) ∧ w' = w := by
  go_enter Try.func48, Try.ntmps48
  go_wp2
  go_ret
  exact ⟨rfl, rfl⟩

set_option maxHeartbeats 1000000 in
theorem less_any (A m c i j : Nat) (f : Nat → It) (w : World) (h : Ar w A m c f) (hi : i < m) (hj : j < m) :
    Calls Try.prog 84 #[.slice (some ⟨A, 0, none⟩) m c, .int .i64 i, .int .i64 j] w fun e w' => e = .returned (.bool (Pls (f i).2 (f j).2)) ∧ ∃ n, w' = w.drewN n := by
  obtain ⟨bi, _, c1, c2, c3⟩ := h.cells hi
  obtain ⟨bj, _, d1, d2, d3⟩ := h.cells hj
  have hle := h.le
  clear h
  unfold Pls
  generalize (f i).2.ct = ci at *
  generalize (f j).2.ct = cj at *
  generalize (f i).2.pl = pi at *
  generalize (f j).2.pl = pj at *
  by_cases hc : ci = cj
  · rw [if_pos hc]
    subst hc
    go_enter Try.func84, Try.ntmps84
    go_wp2_with fail
    go_region
    go_wp2_with fail
    go_region
    go_wp2_with fail
    go_ret
    exact ⟨rfl, 2, rfl⟩
  · rw [if_neg hc]
    have hb : (ci == cj) = false := by simp [hc]
    go_enter Try.func84, Try.ntmps84
    go_wp2_with fail
    go_region
    go_wp2_with fail
    go_region
    go_wp2_with fail
    go_ret
    exact ⟨rfl, 2, rfl⟩

/-- Two of its cells changed. -/
theorem Ar.swap {w : World} {A m c : Nat} {f : Nat → It} (h : Ar w A m c f) (i j : Nat) (hi : i < m) (hj : j < m) :
    Ar ((w.setCell ⟨A, i, none⟩ (pp (f j).1)).setCell ⟨A, j, none⟩ (pp (f i).1)) A m c (swp f i j) := by
  have hn := h.not85
  obtain ⟨g, hr, hg⟩ := h.row
  have hk : Kp w ((w.setCell ⟨A, i, none⟩ (pp (f j).1)).setCell ⟨A, j, none⟩ (pp (f i).1)) :=
    Kp.ofFr (P := fun k => k = A) (((Fr.refl (fun k => k = A) w).setCell rfl _).setCell rfl _) (fun b f' hb => by subst hb; exact hn f')
  refine ⟨h.le, h.cap, ⟨_, (hr.set i _).set j _, fun k hk => ?_⟩, fun k hkm => ?_⟩
  · unfold swp
    by_cases e1 : k = i
    · by_cases e2 : k = j
      · rw [if_pos e2, if_pos e1]; subst e1; subst e2; rfl
      · rw [if_neg e2, if_pos e1, if_pos e1]
    · by_cases e2 : k = j
      · rw [if_pos e2, if_neg e1, if_pos e2]
      · rw [if_neg e2, if_neg e1, if_neg e1, if_neg e2]; exact hg k hk
  · unfold swp
    by_cases e1 : k = i
    · rw [if_pos e1]; exact (h.prt j hj).kp hk
    · rw [if_neg e1]
      by_cases e2 : k = j
      · rw [if_pos e2]; exact (h.prt i hi).kp hk
      · rw [if_neg e2]; exact (h.prt k hkm).kp hk

set_option maxHeartbeats 1000000 in
theorem swap_any (A m c i j : Nat) (f : Nat → It) (w : World) (h : Ar w A m c f) (hi : i < m) (hj : j < m) :
    Calls Try.prog 87 #[.slice (some ⟨A, 0, none⟩) m c, .int .i64 i, .int .i64 j] w fun e w' => e = .returned (.tuple #[]) ∧ Ar w' A m c (swp f i j) ∧ Fr (fun k => k = A) w w' := by
  have c1 := h.cell hi
  have d1 := h.cell hj
  have z1 := h.frozen i
  have z2 := h.frozen j
  have hle := h.le
  have hs := h.drew.swap i j hi hj
  have hf : Fr (fun k => k = A) w ((w.drew.setCell ⟨A, i, none⟩ (pp (f j).1)).setCell ⟨A, j, none⟩ (pp (f i).1)) := (((Fr.refl (fun k => k = A) w).drew).setCell rfl _).setCell rfl _
  have c3 : (w.setCell ⟨A, i, none⟩ (pp (f j).1)).cell? ⟨A, j, none⟩ = some (pp (f j).1) := by
    obtain ⟨g, hr, hg⟩ := h.row
    rw [(hr.set i (pp (f j).1)).cell (i := j) (by omega)]
    by_cases e : j = i
    · rw [if_pos e]
    · rw [if_neg e, hg j hj]
  have z3 : (w.setCell ⟨A, i, none⟩ (pp (f j).1)).frozen? ⟨A, j, none⟩ = false := by
    obtain ⟨g, hr, hg⟩ := h.row
    exact (hr.set i (pp (f j).1)).frozen j
  clear h
  generalize (f i).1 = bi at *
  generalize (f j).1 = bj at *
  go_enter Try.func87, Try.ntmps87
  go_wp2_with fail
  go_region
  go_wp2_with fail
  go_end0
  exact ⟨rfl, hs, hf⟩

/-- The queue: a cell with its slice. -/
structure IsQ (w : World) (Q A m c : Nat) (f : Nat → It) : Prop where
  box : w.rowIs Q 96 1 (fun _ => .slice (some ⟨A, 0, none⟩) m c)
  arr : Ar w A m c f

theorem load96 {Q A m c : Nat} {w : World} (h : w.rowIs Q 96 1 (fun _ => .slice (some ⟨A, 0, none⟩) m c)) : (loadVar 96 ⟨Q, 0, none⟩).run Try.prog w = .ok (.slice (some ⟨A, 0, none⟩) m c) w := by
  have c0 := h.cell (i := 0) (by omega)
  simp [loadVar, go_sem, c0]

theorem wrapnil (xt : TypeId) (a : Addr) (s u : String) : Builtin.ssaWrapNilChk_ #[xt] xt #[.pointer (some a), strVal s, strVal u] = pure (.pointer (some a)) := rfl

theorem method_via {Q A m c g : Nat} {name : String} {w : World} (h : w.rowIs Q 96 1 (fun _ => .slice (some ⟨A, 0, none⟩) m c)) {i : TypeInfo} {x : Method} (hi : Try.prog.info? 87 = some i)
    (hx : i.methods.find? (fun x => x.name == name) = some x) (hp : x.path = #[]) (hf : x.func = some (g, false)) (n : Nat) :
    Sem.run Try.prog (method (n + 1) 87 (.pointer (some ⟨Q, 0, none⟩)) name) w = .ok (g, .slice (some ⟨A, 0, none⟩) m c) w := by
  have c0 := load96 h
  simp [method, typeInfo, hi, hx, hp, hf, follow, receiverAt, run_underlying Try.underlying87, Place.get, wrapnil, asAddr, c0]

end Go.Proofs.Ytkclaikofdolmaa
