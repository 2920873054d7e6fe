/- LimHeap, LimPart, LimWDown. -/
import Derived.Test.YtiahbicodlgmhaaGreatDoorM14
import Derived.Test.YtiahbicodlgmhaaGreatDoorM02
/- A heap in a list of places, as mathematics: down, up. -/
namespace Go.Proofs.YtiahbicodlgmhaaGreatDoor.Lim
open Go.RowKit

/-- A part and the block where it lies. -/
abbrev It := Nat × Pt

/-- Two places changed. -/
def swp (f : Nat → It) (i j : Nat) : Nat → It := fun k => if k = i then f j else if k = j then f i else f k

theorem swp_left (f : Nat → It) (i j : Nat) : swp f i j i = f j := by simp [swp]
theorem swp_right (f : Nat → It) (i j : Nat) : swp f i j j = f i := by unfold swp; split <;> simp_all
theorem swp_other (f : Nat → It) (i j k : Nat) (h1 : k ≠ i) (h2 : k ≠ j) : swp f i j k = f k := by simp [swp, h1, h2]

/-- The first m, as a list. -/
def fst (f : Nat → It) (m : Nat) : List It := (List.range m).map f

theorem fst_succ (f : Nat → It) (m : Nat) : fst f (m + 1) = fst f m ++ [f m] := by simp [fst, List.range_succ]
theorem fst_len (f : Nat → It) (m : Nat) : (fst f m).length = m := by simp [fst]
theorem fst_mem (f : Nat → It) (m : Nat) (x : It) : x ∈ fst f m ↔ ∃ k, k < m ∧ f k = x := by simp [fst]
theorem fst_congr (f g : Nat → It) (m : Nat) (h : ∀ k, k < m → f k = g k) : fst f m = fst g m := by
  unfold fst
  exact List.map_congr_left (fun k hk => h k (by simpa using hk))

theorem fst_swp (f : Nat → It) (i j m : Nat) (hi : i < m) (hj : j < m) : (fst (swp f i j) m).Perm (fst f m) := by
  induction m generalizing i j with
  | zero => omega
  | succ m ih =>
    rw [fst_succ, fst_succ]
    by_cases h : i < m ∧ j < m
    · rw [swp_other f i j m (by omega) (by omega)]
      exact (List.perm_append_right_iff _).2 (ih i j h.1 h.2)
    · by_cases e : i = j
      · subst e
        have : swp f i i = f := by funext k; unfold swp; split <;> simp_all
        rw [this]
      · -- one of them is m
        have key : ∀ (f : Nat → It) a, a < m → (fst (swp f a m) m ++ [f a]).Perm (fst f m ++ [f m]) := by
          clear ih h hi hj
          intro f a ha
          induction m generalizing f with
          | zero => omega
          | succ m ih =>
            rw [fst_succ, fst_succ]
            by_cases hm : a = m
            · subst hm
              rw [swp_left]
              have : fst (swp f a (a + 1)) a = fst f a := fst_congr _ _ _ (fun k hk => swp_other _ _ _ _ (by omega) (by omega))
              rw [this, List.append_assoc, List.append_assoc]
              exact (List.perm_append_left_iff _).2 (List.Perm.swap _ _ _)
            · rw [swp_other f a (m + 1) m (by omega) (by omega)]
              have h2 := ih (fun k => if k = m then f (m + 1) else f k) (by omega)
              simp only [if_neg (show a ≠ m by omega), if_true] at h2
              have e1 : fst (swp (fun k => if k = m then f (m + 1) else f k) a m) m = fst (swp f a (m + 1)) m := fst_congr _ _ _ (fun k hk => by
                unfold swp
                by_cases hk1 : k = a
                · subst hk1; rw [if_pos rfl, if_pos rfl]; simp
                · rw [if_neg hk1, if_neg hk1, if_neg (by omega), if_neg (by omega)]
                  have : k ≠ m := by omega
                  simp [this])
              have e2 : fst (fun k => if k = m then f (m + 1) else f k) m = fst f m := fst_congr _ _ _ (fun k hk => by simp only [if_neg (show k ≠ m by omega)])
              rw [e1, e2] at h2
              have h3 : (fst (swp f a (m + 1)) m ++ [f m] ++ [f a]).Perm (fst (swp f a (m + 1)) m ++ [f a] ++ [f m]) := by
                rw [List.append_assoc, List.append_assoc]
                exact (List.perm_append_left_iff _).2 (List.Perm.swap _ _ _)
              refine h3.trans (((List.perm_append_right_iff _).2 h2).trans ?_)
              rw [List.append_assoc, List.append_assoc]
              exact (List.perm_append_left_iff _).2 (List.Perm.swap _ _ _)
        rcases Nat.lt_or_ge i m with hi' | hi'
        · obtain rfl : j = m := by omega
          rw [swp_right]
          exact key f i hi'
        · obtain rfl : i = m := by omega
          rw [swp_left]
          have hs : swp f i j = swp f j i := by
            funext k
            unfold swp
            by_cases h1 : k = i
            · by_cases h2 : k = j
              · omega
              · rw [if_pos h1, if_neg h2, if_pos h1]
            · by_cases h2 : k = j
              · rw [if_neg h1, if_pos h2, if_pos h2]
              · rw [if_neg h1, if_neg h2, if_neg h2, if_neg h1]
          rw [hs]
          exact key f j (by omega)

/-- k is a child of j. -/
abbrev Kid (j k : Nat) : Prop := k = 2 * j + 1 ∨ k = 2 * j + 2

/-- From i on all places are below their children, of the first n. -/
def Hp (f : Nat → It) (i n : Nat) : Prop := ∀ j k, i ≤ j → Kid j k → k < n → Ple (f j).2 (f k).2

/-- The same but for place h, whose children are not below the one above it. -/
def Hq (f : Nat → It) (i n h : Nat) : Prop := (∀ j k, i ≤ j → j ≠ h → Kid j k → k < n → Ple (f j).2 (f k).2) ∧ (∀ j k, i ≤ j → Kid j h → Kid h k → k < n → Ple (f j).2 (f k).2)

theorem Hp.toq {f : Nat → It} {i n : Nat} (h : Hp f (i + 1) n) : Hq f i n i :=
  ⟨fun j k hj hne hk hn => h j k (by omega) hk hn, fun j k hj hk _ _ => by unfold Kid at hk; omega⟩

/-- It sinks by one. -/
theorem Hq.sink {f : Nat → It} {i n h k : Nat} (hq : Hq f i n h) (hi : i ≤ h) (hk : Kid h k) (hn : k < n) (hle : Ple (f k).2 (f h).2) (hmin : ∀ k', Kid h k' → k' < n → Ple (f k).2 (f k').2) : Hq (swp f h k) i n k := by
  have hkh : k ≠ h := by unfold Kid at hk; omega
  refine ⟨fun j l hj hne hl hln => ?_, fun j l hj hjk hkl hln => ?_⟩
  · by_cases e : j = h
    · subst e
      rw [swp_left]
      by_cases e2 : l = k
      · subst e2; rw [swp_right]; exact hle
      · rw [swp_other f j k l (by unfold Kid at hl; omega) e2]
        exact hmin l hl hln
    · rw [swp_other f h k j e hne]
      by_cases e2 : l = h
      · subst e2
        rw [swp_left]
        exact hq.2 j k hj hl hk hn
      · have e3 : l ≠ k := by unfold Kid at hl hk; omega
        rw [swp_other f h k l e2 e3]
        exact hq.1 j l hj e hl hln
  · have e : j = h := by unfold Kid at hjk hk; omega
    subst e
    rw [swp_left, swp_other f j k l (by unfold Kid at hkl hk; omega) (by unfold Kid at hkl; omega)]
    exact hq.1 k l (by unfold Kid at hk; omega) hkh hkl hln

theorem Hq.rest {f : Nat → It} {i n h : Nat} (hq : Hq f i n h) (hmin : ∀ k, Kid h k → k < n → Ple (f h).2 (f k).2) : Hp f i n := by
  intro j k hj hk hn
  by_cases e : j = h
  · subst e; exact hmin k hk hn
  · exact hq.1 j k hj e hk hn

/-- The root is the least. -/
theorem Hp.root {f : Nat → It} {n : Nat} (h : Hp f 0 n) (k : Nat) (hk : k < n) : Ple (f 0).2 (f k).2 := by
  induction k using Nat.strongRecOn with
  | ind k ih =>
    cases k with
    | zero => exact Ple.refl _
    | succ k => exact (ih (k / 2) (by omega) (by omega)).trans (h (k / 2) (k + 1) (by omega) (by unfold Kid; omega) hk)

/-- All places are below their children but that h may be above its own parent; h's children are not below that. -/
def Hr (f : Nat → It) (n h : Nat) : Prop := (∀ j k, k ≠ h → Kid j k → k < n → Ple (f j).2 (f k).2) ∧ (∀ j k, Kid j h → Kid h k → k < n → Ple (f j).2 (f k).2)

theorem Hp.tor {f : Nat → It} {n : Nat} (h : Hp f 0 n) : Hr f (n + 1) n :=
  ⟨fun j k hne hk hn => h j k (by omega) hk (by omega), fun j k _ hk hn => by unfold Kid at hk; omega⟩

theorem Hr.rise {f : Nat → It} {n h j : Nat} (hr : Hr f n h) (hn : h < n) (hj : Kid j h) (hle : Ple (f h).2 (f j).2) : Hr (swp f j h) n j := by
  have hjh : j ≠ h := by unfold Kid at hj; omega
  refine ⟨fun a k hne hk hkn => ?_, fun a k ha hk hkn => ?_⟩
  · by_cases e : a = j
    · subst e
      rw [swp_left]
      by_cases e2 : k = h
      · subst e2; rw [swp_right]; exact hle
      · rw [swp_other f a h k hne e2]
        exact hle.trans (hr.1 a k e2 hk hkn)
    · by_cases e2 : a = h
      · subst e2
        rw [swp_right, swp_other f j a k hne (by unfold Kid at hk; omega)]
        exact hr.2 j k hj hk hkn
      · have e3 : k ≠ h := by unfold Kid at hk hj; omega
        rw [swp_other f j h a e e2, swp_other f j h k hne e3]
        exact hr.1 a k e3 hk hkn
  · have e0 : a ≠ j := by unfold Kid at ha; omega
    have e1 : a ≠ h := by unfold Kid at ha hj; omega
    rw [swp_other f j h a e0 e1]
    have h1 := hr.1 a j hjh ha (by unfold Kid at hj; omega)
    by_cases e2 : k = h
    · subst e2; rw [swp_right]; exact h1
    · rw [swp_other f j h k (by unfold Kid at hk; omega) e2]
      exact h1.trans (hr.1 j k e2 hk hkn)

theorem Hr.rest {f : Nat → It} {n h : Nat} (hr : Hr f n h) (hle : ∀ j, Kid j h → Ple (f j).2 (f h).2) : Hp f 0 n := by
  intro j k _ hk hn
  by_cases e : k = h
  · subst e; exact hle j hk
  · exact hr.1 j k e hk hn

/-- Strictly rarer, or as rare and earlier. -/
def Pls (a b : Pt) : Bool := if a.ct = b.ct then decide (a.pl < b.pl) else decide (a.ct < b.ct)

theorem Pls_yes {a b : Pt} (h : Pls a b = true) : Ple a b := by
  unfold Pls at h
  unfold Ple
  split at h <;> simp at h <;> omega

theorem Pls_no {a b : Pt} (h : Pls a b = false) : Ple b a := by
  unfold Pls at h
  unfold Ple
  split at h <;> simp at h <;> omega

end Go.Proofs.YtiahbicodlgmhaaGreatDoor.Lim

/- Parts in memory; a queue of them; its methods Len, Less, Swap. -/
namespace Go.Proofs.YtiahbicodlgmhaaGreatDoor.Lim
open Go.RowKit

/-- A pointer to a part, or none. -/
def pv : Option Nat → Value
  | none => .pointer none
  | some b => .pointer (some ⟨b, 0, none⟩)

/-- A pointer to a part. -/
abbrev pp (b : Nat) : Value := .pointer (some ⟨b, 0, none⟩)

/-- A part's cells. -/
def pcells (c p : Int) (l r : Option Nat) : Nat → Value
  | 0 => .int .i64 c
  | 1 => .int .i64 p
  | 2 => pv l
  | _ => pv r

/-- The part t lies in block b. -/
inductive IsP (w : World) : Nat → Pt → Prop where
  | leaf (b : Nat) (c : Int) (s : Nat) : w.rowIs b 201 4 (pcells c s none none) → IsP w b (.leaf c s)
  | node (b : Nat) (c p : Int) (l r : Pt) (bl br : Nat) : w.rowIs b 201 4 (pcells c p (some bl) (some br)) → IsP w bl l → IsP w br r → IsP w b (.node c p l r)

theorem IsP.row {w : World} {b : Nat} {t : Pt} (h : IsP w b t) : ∃ l r, w.rowIs b 201 4 (pcells t.ct t.pl l r) := by
  cases h with
  | leaf b c s h => exact ⟨_, _, h⟩
  | node b c p l r bl br h => exact ⟨_, _, h⟩

theorem IsP.lt {w : World} {b : Nat} {t : Pt} (h : IsP w b t) : b < w.heap.size := by
  obtain ⟨l, r, h⟩ := h.row
  exact h.lt

/-- All parts stay. -/
structure Kp (w w' : World) : Prop where
  size : w.heap.size ≤ w'.heap.size
  keep : ∀ b f, w.rowIs b 201 4 f → w'.rowIs b 201 4 f

theorem Kp.refl (w : World) : Kp w w := ⟨Nat.le_refl _, fun _ _ h => h⟩
theorem Kp.trans {a b c : World} (h : Kp a b) (k : Kp b c) : Kp a c := ⟨Nat.le_trans h.size k.size, fun x f hx => k.keep x f (h.keep x f hx)⟩
theorem Kp.ofBelow {a b : World} (h : Below a.heap.size a b) : Kp a b := ⟨h.size, fun x _ hx => hx.of_block (h.block x hx.lt)⟩
theorem Kp.drew (w : World) : Kp w w.drew := ⟨Nat.le_refl _, fun _ _ h => h⟩

theorem rowIs_type {w : World} {b t t' n n' : Nat} {f f' : Nat → Value} (h : w.rowIs b t n f) (h' : w.rowIs b t' n' f') : t = t' := by
  obtain ⟨c, hb, _⟩ := h
  obtain ⟨c', hb', _⟩ := h'
  rw [hb] at hb'
  injection hb' with e
  injection e

theorem Kp.ofFr {P : Nat → Prop} {w w' : World} (h : Fr P w w') (hp : ∀ b f, P b → ¬ w.rowIs b 201 4 f) : Kp w w' :=
  ⟨h.size, fun b f hr => rowIs_fr hr h (fun hb => hp b f hb hr)⟩

theorem IsP.kp {w w' : World} (k : Kp w w') {b : Nat} {t : Pt} (h : IsP w b t) : IsP w' b t := by
  induction h with
  | leaf b c s h => exact .leaf b c s (k.keep _ _ h)
  | node b c p l r bl br h _ _ ih1 ih2 => exact .node b c p l r bl br (k.keep _ _ h) ih1 ih2

/-- A queue's array: its first m cells are those parts. -/
structure Ar (w : World) (A m c : Nat) (f : Nat → It) : Prop where
  le : m ≤ c
  cap : c ≤ maxLen
  row : ∃ g, w.rowIs A 198 c g ∧ ∀ j, j < m → g j = pp (f j).1
  prt : ∀ j, j < m → IsP w (f j).1 (f j).2

theorem Ar.cell {w : World} {A m c : Nat} {f : Nat → It} (h : Ar w A m c f) {j : Nat} (hj : j < m) : w.cell? ⟨A, j, none⟩ = some (pp (f j).1) := by
  obtain ⟨g, hr, hg⟩ := h.row
  rw [hr.cell (by have := h.le; omega), hg j hj]

theorem Ar.frozen {w : World} {A m c : Nat} {f : Nat → It} (h : Ar w A m c f) (j : Nat) : w.frozen? ⟨A, j, none⟩ = false := by
  obtain ⟨g, hr, hg⟩ := h.row
  exact hr.frozen j

theorem Ar.not85 {w : World} {A m c : Nat} {f : Nat → It} (h : Ar w A m c f) (f' : Nat → Value) : ¬ w.rowIs A 201 4 f' := by
  obtain ⟨g, hr, hg⟩ := h.row
  intro h'
  have := rowIs_type hr h'
  omega

theorem Ar.fr {P : Nat → Prop} {w w' : World} {A m c : Nat} {f : Nat → It} (h : Ar w A m c f) (hf : Fr P w w') (hA : ¬ P A) (hk : Kp w w') : Ar w' A m c f := by
  obtain ⟨g, hr, hg⟩ := h.row
  exact ⟨h.le, h.cap, ⟨g, rowIs_fr hr hf hA, hg⟩, fun j hj => (h.prt j hj).kp hk⟩

theorem Ar.drew {w : World} {A m c : Nat} {f : Nat → It} (h : Ar w A m c f) : Ar w.drew A m c f :=
  ⟨h.le, h.cap, h.row, fun j hj => (h.prt j hj).kp (Kp.drew w)⟩

/-- The list of pointers. -/
abbrev pps (f : Nat → It) (m : Nat) : List Value := (fst f m).map (fun x => pp x.1)

theorem pps_get (f : Nat → It) (m j : Nat) (h : j < m) : (pps f m)[j]? = some (pp (f j).1) := by simp [fst, h]

theorem Ar.own {w : World} {A m c : Nat} {f : Nat → It} (h : Ar w A m c f) : w.ownsRow 0 198 1 (.slice (some ⟨A, 0, none⟩) m c) m (pps f m) := by
  obtain ⟨g, ⟨cs, hb, hs, hc⟩, hg⟩ := h.row
  have hle := h.le
  refine ⟨by simp [fst], .inr ⟨A, c, cs, rfl, Nat.zero_le _, hb, hle, h.cap, by omega, ?_⟩⟩
  apply List.ext_getElem?
  intro j
  by_cases hj : j < m
  · rw [pps_get f m j hj, List.getElem?_take, if_pos (by omega)]
    have := hc j (by omega)
    rw [hg j hj] at this
    simpa using this
  · rw [List.getElem?_eq_none (by simp; omega), List.getElem?_eq_none (by simp [fst]; omega)]

theorem Ar.ofOwn {w : World} {base A m c : Nat} {f : Nat → It} (h : w.ownsRow base 198 1 (.slice (some ⟨A, 0, none⟩) m c) m (pps f m)) (hp : ∀ j, j < m → IsP w (f j).1 (f j).2) : Ar w A m c f := by
  rcases h.2 with ⟨e, _⟩ | ⟨g, cap, cur, e, _, hh, hle, hcap, hsz, hrest⟩
  · cases e
  · cases e
    refine ⟨hle, hcap, ⟨fun j => cur.getD j undef, ⟨cur, hh, by omega, fun i hi => ?_⟩, fun j hj => ?_⟩, hp⟩
    · rw [Array.getElem?_eq_getElem (by omega)]
      simp [Array.getD, show i < cur.size by omega]
    · have h1 := pps_get f m j hj
      rw [← hrest, List.getElem?_take, if_pos (by omega)] at h1
      have h2 : cur[j]? = some (pp (f j).1) := by simpa using h1
      show cur.getD j undef = _
      rw [Array.getD_eq_getD_getElem?, h2]
      rfl

/-- Its cells, as they are read. -/
theorem Ar.cells {w : World} {A m c : Nat} {f : Nat → It} (h : Ar w A m c f) {j : Nat} (hj : j < m) : ∃ b, (f j).1 = b ∧ w.cell? ⟨A, j, none⟩ = some (pp b) ∧ w.cell? ⟨b, 0, none⟩ = some (.int .i64 (f j).2.ct) ∧ w.cell? ⟨b, 1, none⟩ = some (.int .i64 (f j).2.pl) := by
  obtain ⟨l, r, hr⟩ := (h.prt j hj).row
  exact ⟨_, rfl, h.cell hj, hr.cell (i := 0) (by omega), hr.cell (i := 1) (by omega)⟩

theorem qlen_any (a : Option Addr) (m c : Nat) (w : World) : Calls Tryz.prog 154 #[.slice a m c] w fun e w' => e = .returned (.int .i64 m) ∧ w' = w := by
  go_enter Tryz.func154, Tryz.ntmps154
  go_wp2
  go_ret
  exact ⟨rfl, rfl⟩

set_option maxHeartbeats 1000000 in
theorem less_any (A m c i j : Nat) (f : Nat → It) (w : World) (h : Ar w A m c f) (hi : i < m) (hj : j < m) :
    Calls Tryz.prog 185 #[.slice (some ⟨A, 0, none⟩) m c, .int .i64 i, .int .i64 j] w fun e w' => e = .returned (.bool (Pls (f i).2 (f j).2)) ∧ ∃ n, w' = w.drewN n := by
  obtain ⟨bi, _, c1, c2, c3⟩ := h.cells hi
  obtain ⟨bj, _, d1, d2, d3⟩ := h.cells hj
  have hle := h.le
  clear h
  unfold Pls
  generalize (f i).2.ct = ci at *
  generalize (f j).2.ct = cj at *
  generalize (f i).2.pl = pi at *
  generalize (f j).2.pl = pj at *
  by_cases hc : ci = cj
  · rw [if_pos hc]
    subst hc
    go_enter Tryz.func185, Tryz.ntmps185
    go_wp2_with fail
    go_region
    go_wp2_with fail
    go_region
    go_wp2_with fail
    go_ret
    exact ⟨rfl, 2, rfl⟩
  · rw [if_neg hc]
    have hb : (ci == cj) = false := by simp [hc]
    go_enter Tryz.func185, Tryz.ntmps185
    go_wp2_with fail
    go_region
    go_wp2_with fail
    go_region
    go_wp2_with fail
    go_ret
    exact ⟨rfl, 2, rfl⟩

/-- Two of its cells changed. -/
theorem Ar.swap {w : World} {A m c : Nat} {f : Nat → It} (h : Ar w A m c f) (i j : Nat) (hi : i < m) (hj : j < m) :
    Ar ((w.setCell ⟨A, i, none⟩ (pp (f j).1)).setCell ⟨A, j, none⟩ (pp (f i).1)) A m c (swp f i j) := by
  have hn := h.not85
  obtain ⟨g, hr, hg⟩ := h.row
  have hk : Kp w ((w.setCell ⟨A, i, none⟩ (pp (f j).1)).setCell ⟨A, j, none⟩ (pp (f i).1)) :=
    Kp.ofFr (P := fun k => k = A) (((Fr.refl (fun k => k = A) w).setCell rfl _).setCell rfl _) (fun b f' hb => by subst hb; exact hn f')
  refine ⟨h.le, h.cap, ⟨_, (hr.set i _).set j _, fun k hk => ?_⟩, fun k hkm => ?_⟩
  · unfold swp
    by_cases e1 : k = i
    · by_cases e2 : k = j
      · rw [if_pos e2, if_pos e1]; subst e1; subst e2; rfl
      · rw [if_neg e2, if_pos e1, if_pos e1]
    · by_cases e2 : k = j
      · rw [if_pos e2, if_neg e1, if_pos e2]
      · rw [if_neg e2, if_neg e1, if_neg e1, if_neg e2]; exact hg k hk
  · unfold swp
    by_cases e1 : k = i
    · rw [if_pos e1]; exact (h.prt j hj).kp hk
    · rw [if_neg e1]
      by_cases e2 : k = j
      · rw [if_pos e2]; exact (h.prt i hi).kp hk
      · rw [if_neg e2]; exact (h.prt k hkm).kp hk

set_option maxHeartbeats 1000000 in
theorem swap_any (A m c i j : Nat) (f : Nat → It) (w : World) (h : Ar w A m c f) (hi : i < m) (hj : j < m) :
    Calls Tryz.prog 188 #[.slice (some ⟨A, 0, none⟩) m c, .int .i64 i, .int .i64 j] w fun e w' => e = .returned (.tuple #[]) ∧ Ar w' A m c (swp f i j) ∧ Fr (fun k => k = A) w w' := by
  have c1 := h.cell hi
  have d1 := h.cell hj
  have z1 := h.frozen i
  have z2 := h.frozen j
  have hle := h.le
  have hs := h.drew.swap i j hi hj
  have hf : Fr (fun k => k = A) w ((w.drew.setCell ⟨A, i, none⟩ (pp (f j).1)).setCell ⟨A, j, none⟩ (pp (f i).1)) := (((Fr.refl (fun k => k = A) w).drew).setCell rfl _).setCell rfl _
  have c3 : (w.setCell ⟨A, i, none⟩ (pp (f j).1)).cell? ⟨A, j, none⟩ = some (pp (f j).1) := by
    obtain ⟨g, hr, hg⟩ := h.row
    rw [(hr.set i (pp (f j).1)).cell (i := j) (by omega)]
    by_cases e : j = i
    · rw [if_pos e]
    · rw [if_neg e, hg j hj]
  have z3 : (w.setCell ⟨A, i, none⟩ (pp (f j).1)).frozen? ⟨A, j, none⟩ = false := by
    obtain ⟨g, hr, hg⟩ := h.row
    exact (hr.set i (pp (f j).1)).frozen j
  clear h
  generalize (f i).1 = bi at *
  generalize (f j).1 = bj at *
  go_enter Tryz.func188, Tryz.ntmps188
  go_wp2_with fail
  go_region
  go_wp2_with fail
  go_end0
  exact ⟨rfl, hs, hf⟩

/-- The queue: a cell with its slice. -/
structure IsQ (w : World) (Q A m c : Nat) (f : Nat → It) : Prop where
  box : w.rowIs Q 208 1 (fun _ => .slice (some ⟨A, 0, none⟩) m c)
  arr : Ar w A m c f

theorem load96 {Q A m c : Nat} {w : World} (h : w.rowIs Q 208 1 (fun _ => .slice (some ⟨A, 0, none⟩) m c)) : (loadVar 208 ⟨Q, 0, none⟩).run Tryz.prog w = .ok (.slice (some ⟨A, 0, none⟩) m c) w := by
  have c0 := h.cell (i := 0) (by omega)
  simp [loadVar, go_sem, c0]

theorem wrapnil (xt : TypeId) (a : Addr) (s u : String) : Builtin.ssaWrapNilChk_ #[xt] xt #[.pointer (some a), strVal s, strVal u] = pure (.pointer (some a)) := rfl

theorem method_via {Q A m c g : Nat} {name : String} {w : World} (h : w.rowIs Q 208 1 (fun _ => .slice (some ⟨A, 0, none⟩) m c)) {i : TypeInfo} {x : Method} (hi : Tryz.prog.info? 203 = some i)
    (hx : i.methods.find? (fun x => x.name == name) = some x) (hp : x.path = #[]) (hf : x.func = some (g, false)) (n : Nat) :
    Sem.run Tryz.prog (method (n + 1) 203 (.pointer (some ⟨Q, 0, none⟩)) name) w = .ok (g, .slice (some ⟨A, 0, none⟩) m c) w := by
  have c0 := load96 h
  simp [method, typeInfo, hi, hx, hp, hf, follow, receiverAt, run_underlying Tryz.underlying203, Place.get, wrapnil, asAddr, c0]

end Go.Proofs.YtiahbicodlgmhaaGreatDoor.Lim

/- container/heap's down. -/
namespace Go.Proofs.YtiahbicodlgmhaaGreatDoor.Lim
open Go.RowKit

theorem method_is {Q A m c g : Nat} {name : String} {w : World} (h : w.rowIs Q 208 1 (fun _ => .slice (some ⟨A, 0, none⟩) m c))
    (hi : (Tryz.prog.info? 203).map (fun i => (i.methods.find? (fun x => x.name == name)).map (fun x => (x.path, x.func))) = some (some (#[], some (g, false)))) (n : Nat) :
    Sem.run Tryz.prog (method (n + 1) 203 (.pointer (some ⟨Q, 0, none⟩)) name) w = .ok (g, .slice (some ⟨A, 0, none⟩) m c) w := by
  cases hq : Tryz.prog.info? 203 with
  | none => rw [hq] at hi; cases hi
  | some i =>
    rw [hq] at hi
    simp only [Option.map_some, Option.some.injEq] at hi
    cases hx : i.methods.find? (fun x => x.name == name) with
    | none => rw [hx] at hi; cases hi
    | some x =>
      rw [hx] at hi
      simp only [Option.map_some, Option.some.injEq, Prod.mk.injEq] at hi
      exact method_via h hq hx hi.1 hi.2 n

theorem IsQ.mLess {Q A m c : Nat} {f : Nat → It} {w : World} (h : IsQ w Q A m c f) : Sem.run Tryz.prog (method 335 203 (.pointer (some ⟨Q, 0, none⟩)) "Less") w = .ok (185, .slice (some ⟨A, 0, none⟩) m c) w :=
  method_is h.box (by kernel_rfl) 334

theorem IsQ.mSwap {Q A m c : Nat} {f : Nat → It} {w : World} (h : IsQ w Q A m c f) : Sem.run Tryz.prog (method 335 203 (.pointer (some ⟨Q, 0, none⟩)) "Swap") w = .ok (188, .slice (some ⟨A, 0, none⟩) m c) w :=
  method_is h.box (by kernel_rfl) 334

theorem IsQ.mLen {Q A m c : Nat} {f : Nat → It} {w : World} (h : IsQ w Q A m c f) : Sem.run Tryz.prog (method 335 203 (.pointer (some ⟨Q, 0, none⟩)) "Len") w = .ok (154, .slice (some ⟨A, 0, none⟩) m c) w :=
  method_is h.box (by kernel_rfl) 334

theorem Kp.drewN (w : World) (n : Nat) : Kp w (w.drewN n) := ⟨Nat.le_refl _, fun _ _ h => h⟩

theorem IsQ.drewN {Q A m c : Nat} {f : Nat → It} {w : World} (h : IsQ w Q A m c f) (n : Nat) : IsQ (w.drewN n) Q A m c f :=
  ⟨h.box, h.arr.le, h.arr.cap, h.arr.row, fun j hj => (h.arr.prt j hj).kp (Kp.drewN w n)⟩

theorem IsQ.ne {Q A m c : Nat} {f : Nat → It} {w : World} (h : IsQ w Q A m c f) : Q ≠ A := by
  obtain ⟨g, hr, _⟩ := h.arr.row
  intro e
  subst e
  have := rowIs_type h.box hr
  omega

theorem _root_.Go.Proofs.YtiahbicodlgmhaaGreatDoor.Fr.drewN {P : Nat → Prop} {a b : World} (h : Fr P a b) (n : Nat) : Fr P a (b.drewN n) := ⟨h.os, h.tape, h.output, h.size, h.block⟩

/-- The queue as it is while it is turned. -/
structure Dw (w : World) (Q A m c n : Nat) (f : Nat → It) (w' : World) (f' : Nat → It) : Prop where
  q : IsQ w' Q A m c f'
  perm : (fst f' n).Perm (fst f n)
  far : ∀ k, n ≤ k → f' k = f k
  fr : Fr (fun k => k = A) w w'

theorem Dw.refl {w : World} {Q A m c n : Nat} {f : Nat → It} (h : IsQ w Q A m c f) : Dw w Q A m c n f w f := ⟨h, List.Perm.refl _, fun _ _ => rfl, Fr.refl _ _⟩

theorem Dw.drewN {w w' : World} {Q A m c n : Nat} {f f' : Nat → It} (h : Dw w Q A m c n f w' f') (k : Nat) : Dw w Q A m c n f (w'.drewN k) f' := ⟨h.q.drewN k, h.perm, h.far, h.fr.drewN k⟩

theorem Dw.swap {w w' w'' : World} {Q A m c n : Nat} {f f' : Nat → It} (h : Dw w Q A m c n f w' f') (i j : Nat) (hi : i < n) (hj : j < n) (ha : Ar w'' A m c (swp f' i j)) (hf : Fr (fun k => k = A) w' w'') : Dw w Q A m c n f w'' (swp f' i j) :=
  ⟨⟨rowIs_fr h.q.box hf (fun e => h.q.ne e), ha⟩, (fst_swp f' i j n hi hj).trans h.perm, fun k hk => (swp_other f' i j k (by omega) (by omega)).trans (h.far k hk), h.fr.trans hf (fun _ _ e => e)⟩

theorem less_at {w wr : World} {Q A m c n : Nat} {f g : Nat → It} (D : Dw w Q A m c n f wr g) (i j : Nat) (x y : Int) (b : Bool) (hx : x = (i : Int)) (hy : y = (j : Int)) (hi : i < m) (hj : j < m) (hb : Pls (g i).2 (g j).2 = b) :
    Calls Tryz.prog 185 #[.slice (some ⟨A, 0, none⟩) m c, .int .i64 x, .int .i64 y] wr fun e w' => e = .returned (.bool b) ∧ Hid (Dw w Q A m c n f w' g) := by
  subst hx hy hb
  refine (less_any A m c i j g wr D.q.arr hi hj).mono ?_
  rintro e w' ⟨rfl, q, rfl⟩
  exact ⟨rfl, D.drewN q⟩

theorem swap_at {w wr : World} {Q A m c n : Nat} {f g : Nat → It} (D : Dw w Q A m c n f wr g) (i j : Nat) (x y : Int) (hx : x = (i : Int)) (hy : y = (j : Int)) (hi : i < n) (hj : j < n) (hn : n ≤ m) :
    Calls Tryz.prog 188 #[.slice (some ⟨A, 0, none⟩) m c, .int .i64 x, .int .i64 y] wr fun e w' => e = .returned (.tuple #[]) ∧ Hid (Dw w Q A m c n f w' (swp g i j)) := by
  subst hx hy
  refine (swap_any A m c i j g wr D.q.arr (by omega) (by omega)).mono ?_
  rintro e w' ⟨rfl, ha, hf⟩
  exact ⟨rfl, D.swap i j hi hj ha hf⟩

set_option maxRecDepth 100000 in
set_option maxHeartbeats 4000000 in
theorem down_any (Q A m c i0 n : Nat) (f : Nat → It) (w : World) (h : IsQ w Q A m c f) (hn : n ≤ m) (hi : i0 ≤ 1000000) (hm : m ≤ 1000000) (hp : Hp f (i0 + 1) n) :
    Calls Tryz.prog 165 #[.iface 203 (.pointer (some ⟨Q, 0, none⟩)), .int .i64 i0, .int .i64 n] w fun e w' => ∃ v f', e = .returned (.bool v) ∧ Dw w Q A m c n f w' f' ∧ Hp f' i0 n := by
  have D0 : Hid (Dw w Q A m c n f w f) := Dw.refl h
  have H0 : Hid (Hq f i0 n i0) := hp.toq
  clear h hp
  go_enter Tryz.func165, Tryz.ntmps165
  go_wp2
  go_loopw [7, 8, 9, 10] (fun iv _ _ _ wr => ∃ (k : Nat) (g : Nat → It), iv = .int .i64 k ∧ i0 ≤ k ∧ k ≤ 1000000 ∧ Hid (Dw w Q A m c n f wr g) ∧ Hid (Hq g i0 n k)) (fun iv _ _ _ _ => n - (intOf iv).toNat)
  case atStart => exact ⟨i0, f, rfl, Nat.le_refl _, hi, D0, H0⟩
  case round =>
    clear D0 H0
    obtain ⟨k, g, rfl, hk0, hk1, D, H⟩ := hrel
    have mL := D.out.q.mLess
    by_cases h1 : 2 * k + 1 < n
    · have d1 : decide ((n : Int) ≤ 2 * (k : Int) + 1) = false := by simp; omega
      have d2 : decide (2 * (k : Int) + 1 < 0) = false := by simp; omega
      have hkn : k < n := by omega
      by_cases h2 : 2 * k + 2 < n
      · have d3 : decide (2 * (k : Int) + 1 + 1 < (n : Int)) = true := by simp; omega
        cases hL1 : Pls (g (2 * k + 2)).2 (g (2 * k + 1)).2 with
        | true =>
          have HM : Hid (∀ k', Kid k k' → k' < n → Ple (g (2 * k + 2)).2 (g k').2) := fun k' hk' _ => by
            rcases hk' with rfl | rfl
            · exact Pls_yes hL1
            · exact Ple.refl _
          go_wp2_with fail
          refine (less_at D.out (2 * k + 2) (2 * k + 1) _ _ true (by omega) (by omega) (by omega) (by omega) hL1).mono ?_
          rintro e w1 ⟨rfl, D1⟩
          clear D hL1 mL
          have mL1 := D1.out.q.mLess
          cases hL2 : Pls (g (2 * k + 2)).2 (g k).2 with
          | true =>
            have HS : Hid (Hq (swp g k (2 * k + 2)) i0 n (2 * k + 2)) := H.out.sink hk0 (by unfold Kid; omega) (by omega) (Pls_yes hL2) HM.out
            clear H HM
            go_wp2_with fail
            refine (less_at D1.out (2 * k + 2) k _ _ true (by omega) rfl (by omega) (by omega) hL2).mono ?_
            rintro e w2 ⟨rfl, D2⟩
            have mS2 := D2.out.q.mSwap
            clear D1 hL2
            go_wp2_with fail
            refine (swap_at D2.out k (2 * k + 2) _ _ rfl (by omega) (by omega) (by omega) hn).mono ?_
            rintro e w3 ⟨rfl, D3⟩
            clear D2
            go_wp2_with fail
            go_roundw
            case rel => exact ⟨2 * k + 2, _, by go_num, by omega, by omega, D3, HS⟩
            case measure => simp [intOf]; omega
          | false =>
            have HR : Hid (Hp g i0 n) := H.out.rest (fun k' hk' hn' => (Pls_no hL2).trans (HM.out k' hk' hn'))
            clear H HM
            go_wp2_with fail
            refine (less_at D1.out (2 * k + 2) k _ _ false (by omega) rfl (by omega) (by omega) hL2).mono ?_
            rintro e w2 ⟨rfl, D2⟩
            clear D1 hL2
            go_wp2_with fail
            go_ret
            exact ⟨_, g, rfl, D2.out, HR.out⟩
        | false =>
          have HM : Hid (∀ k', Kid k k' → k' < n → Ple (g (2 * k + 1)).2 (g k').2) := fun k' hk' _ => by
            rcases hk' with rfl | rfl
            · exact Ple.refl _
            · exact Pls_no hL1
          go_wp2_with fail
          refine (less_at D.out (2 * k + 2) (2 * k + 1) _ _ false (by omega) (by omega) (by omega) (by omega) hL1).mono ?_
          rintro e w1 ⟨rfl, D1⟩
          clear D hL1 mL
          have mL1 := D1.out.q.mLess
          cases hL2 : Pls (g (2 * k + 1)).2 (g k).2 with
          | true =>
            have HS : Hid (Hq (swp g k (2 * k + 1)) i0 n (2 * k + 1)) := H.out.sink hk0 (by unfold Kid; omega) (by omega) (Pls_yes hL2) HM.out
            clear H HM
            go_wp2_with fail
            refine (less_at D1.out (2 * k + 1) k _ _ true (by omega) rfl (by omega) (by omega) hL2).mono ?_
            rintro e w2 ⟨rfl, D2⟩
            have mS2 := D2.out.q.mSwap
            clear D1 hL2
            go_wp2_with fail
            refine (swap_at D2.out k (2 * k + 1) _ _ rfl (by omega) (by omega) (by omega) hn).mono ?_
            rintro e w3 ⟨rfl, D3⟩
            clear D2
            go_wp2_with fail
            go_roundw
            case rel => exact ⟨2 * k + 1, _, by go_num, by omega, by omega, D3, HS⟩
            case measure => simp [intOf]; omega
          | false =>
            have HR : Hid (Hp g i0 n) := H.out.rest (fun k' hk' hn' => (Pls_no hL2).trans (HM.out k' hk' hn'))
            clear H HM
            go_wp2_with fail
            refine (less_at D1.out (2 * k + 1) k _ _ false (by omega) rfl (by omega) (by omega) hL2).mono ?_
            rintro e w2 ⟨rfl, D2⟩
            clear D1 hL2
            go_wp2_with fail
            go_ret
            exact ⟨_, g, rfl, D2.out, HR.out⟩
      · have d3 : decide (2 * (k : Int) + 1 + 1 < (n : Int)) = false := by simp; omega
        have HM : Hid (∀ k', Kid k k' → k' < n → Ple (g (2 * k + 1)).2 (g k').2) := fun k' hk' hn' => by
          rcases hk' with rfl | rfl
          · exact Ple.refl _
          · omega
        clear mL
        have mL1 := D.out.q.mLess
        cases hL2 : Pls (g (2 * k + 1)).2 (g k).2 with
        | true =>
          have HS : Hid (Hq (swp g k (2 * k + 1)) i0 n (2 * k + 1)) := H.out.sink hk0 (by unfold Kid; omega) (by omega) (Pls_yes hL2) HM.out
          clear H HM
          go_wp2_with fail
          refine (less_at D.out (2 * k + 1) k _ _ true (by omega) rfl (by omega) (by omega) hL2).mono ?_
          rintro e w2 ⟨rfl, D2⟩
          have mS2 := D2.out.q.mSwap
          clear D hL2
          go_wp2_with fail
          refine (swap_at D2.out k (2 * k + 1) _ _ rfl (by omega) (by omega) (by omega) hn).mono ?_
          rintro e w3 ⟨rfl, D3⟩
          clear D2
          go_wp2_with fail
          go_roundw
          case rel => exact ⟨2 * k + 1, _, by go_num, by omega, by omega, D3, HS⟩
          case measure => simp [intOf]; omega
        | false =>
          have HR : Hid (Hp g i0 n) := H.out.rest (fun k' hk' hn' => (Pls_no hL2).trans (HM.out k' hk' hn'))
          clear H HM
          go_wp2_with fail
          refine (less_at D.out (2 * k + 1) k _ _ false (by omega) rfl (by omega) (by omega) hL2).mono ?_
          rintro e w2 ⟨rfl, D2⟩
          clear D hL2
          go_wp2_with fail
          go_ret
          exact ⟨_, g, rfl, D2.out, HR.out⟩
    · have d1 : decide ((n : Int) ≤ 2 * (k : Int) + 1) = true := by simp; omega
      have HR : Hid (Hp g i0 n) := H.out.rest (fun k' hk' hn' => by unfold Kid at hk'; omega)
      clear H mL
      go_wp2
      go_ret
      exact ⟨_, g, rfl, D.out, HR.out⟩

end Go.Proofs.YtiahbicodlgmhaaGreatDoor.Lim
