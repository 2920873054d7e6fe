/- A slice of names; slices.Clone. -/
import Derived.Test.YtmjcikomcnokkaaDoorSrt
namespace Go.Proofs.YtmjcikomcnokkaaDoor
open Go.RowKit

/-- The cells of names. -/
def fl (d : Array (List Int)) : List Value := d.toList.flatMap fun x => vals (cl x) 20

theorem flm_len (l : List (List Int)) : (l.flatMap fun x => vals (cl x) 20).length = l.length * 20 := by
  induction l with
  | nil => rfl
  | cons x r ih => rw [List.flatMap_cons, List.length_append, ih, vals_len, List.length_cons]; omega

theorem fl_len (d : Array (List Int)) : (fl d).length = d.size * 20 := flm_len _

theorem flm_get (l : List (List Int)) (i j : Nat) (hi : i < l.length) (hj : j < 20) : (l.flatMap fun x => vals (cl x) 20)[i * 20 + j]? = some (cl (l.getD i default) j) := by
  induction l generalizing i with
  | nil => simp at hi
  | cons x r ih =>
    rw [List.flatMap_cons]
    cases i with
    | zero =>
      rw [List.getElem?_append_left (by rw [vals_len]; omega), Nat.zero_mul, Nat.zero_add, vals_get _ _ _ hj]
      rfl
    | succ i =>
      rw [List.getElem?_append_right (by rw [vals_len]; omega), vals_len, show (i + 1) * 20 + j - 20 = i * 20 + j by omega, ih i (by simpa using hi)]
      rfl

theorem bang_getD (d : Array (List Int)) (i : Nat) (hi : i < d.size) : d[i]! = d.toList.getD i default := by
  rw [getElem!_pos d i hi, List.getD, List.getElem?_eq_getElem (by simpa using hi)]
  simp

theorem fl_get (d : Array (List Int)) (i j : Nat) (hi : i < d.size) (hj : j < 20) : (fl d)[i * 20 + j]? = some (cl d[i]! j) := by
  rw [bang_getD d i hi]
  exact flm_get d.toList i j (by simpa using hi) hj

theorem fl_one (d : Array (List Int)) : ∀ u ∈ fl d, u.oneCell' = true := by
  intro u hu
  obtain ⟨x, _, hx⟩ := List.mem_flatMap.1 hu
  exact vals_one20 x u hx

/-- The slice v reads as the names d. -/
structure Is (w : World) (v : Value) (d : Array (List Int)) : Prop where
  sh : ∃ ao c, v = .slice ao d.size c ∧ d.size ≤ c ∧ (ao = none → d.size = 0 ∧ c = 0) ∧ ∀ ad, ao = some ad → ∀ i, i < d.size → ∀ j, j < 20 → w.cell? (ad.add (i * 20 + j)) = some (cl d[i]! j)
  ids : ∀ i, i < d.size → IsId d[i]!

theorem Is.keep {w w' : World} {v : Value} {d : Array (List Int)} (h : Is w v d) (hb : Below w.heap.size w w') : Is w' v d := by
  obtain ⟨ao, c, e, h1, h2, h3⟩ := h.sh
  exact ⟨⟨ao, c, e, h1, h2, fun ad had i hi j hj => by
    have := h3 ad had i hi j hj
    rw [hb.cell (World.block_lt_of_cell? w _ this)]
    exact this⟩, h.ids⟩

/-- A row of the call's own, of d. -/
theorem own_rw {w : World} {base : Nat} {v : Value} {n : Nat} {d : Array (List Int)} (h : w.ownsRow base 23 20 v n (fl d)) (hd : ∀ i, i < d.size → IsId d[i]!) (h0 : 0 < n) : d.size = n ∧ ∃ b c, v = sl b n c ∧ n ≤ c ∧ base ≤ b ∧ Rw w b (c * 20) d := by
  have hl : d.size = n := by have := h.1; rw [fl_len] at this; omega
  refine ⟨hl, ?_⟩
  rcases h.2 with ⟨_, e⟩ | ⟨g, cap, cur, rfl, hg, hh, hle, hmx, hsz, htk⟩
  · omega
  · refine ⟨g, cap, rfl, hle, hg, ⟨fun j => cur.toList.getD j undef, ⟨cur, hh, hsz, fun i hi => ?_⟩, fun i hi j hj => ?_⟩, by omega, hd⟩
    · show cur[i]? = some (cur.toList.getD i undef)
      rw [List.getD]
      simp [hsz, hi]
    · have := fl_get d i j hi hj
      rw [← htk] at this
      rw [List.getElem?_take, if_pos (by omega)] at this
      show cur.toList.getD (i * 20 + j) undef = _
      rw [List.getD, this]
      rfl

theorem Tryd.info23 : (Tryd.prog.info? 23).map (fun i => (i.zero, i.size, i.bytes)) = some (some (.agg zcs), 20, 20) := by kernel_rfl

theorem Is.cellsOf {w : World} {ad : Addr} {n c : Nat} {d : Array (List Int)} (h : Is w (.slice (some ad) n c) d) : ∀ j u, (fl d)[j]? = some u → w.cell? (ad.add j) = some u := by
  obtain ⟨ao, c', e, h1, h2, h3⟩ := h.sh
  injection e with e1 e2 e3
  intro j u hu
  have hj : j < d.size * 20 := by
    have := (List.getElem?_eq_some_iff.1 hu).1
    rwa [fl_len] at this
  have := fl_get d (j / 20) (j % 20) (by omega) (by omega)
  rw [show j / 20 * 20 + j % 20 = j by omega, hu] at this
  have g := h3 ad e1.symm (j / 20) (by omega) (j % 20) (by omega)
  rw [show j / 20 * 20 + j % 20 = j by omega] at g
  rw [g, ← this]

theorem Rw.is {w : World} {b N : Nat} {d : Array (List Int)} (h : Rw w b N d) (c : Nat) (hc : d.size ≤ c) : Is w (sl b d.size c) d := by
  obtain ⟨f, h1, h2⟩ := h.row
  have hle := h.le
  refine ⟨⟨_, _, rfl, hc, (fun e => by cases e), fun ad had i hi j hj => ?_⟩, h.ids⟩
  cases had
  rw [Addr.add_lit, Nat.zero_add, h1.cell (i := i * 20 + j) (by omega), h2 i hi j hj]

/-- A new row of names: nothing, or a block of one's own. -/
def Nw (B : Nat) (w : World) (v : Value) (d : Array (List Int)) : Prop :=
  (d.size = 0 ∧ ∃ ao c, v = .slice ao 0 c) ∨ (0 < d.size ∧ ∃ b c, v = sl b d.size c ∧ d.size ≤ c ∧ B ≤ b ∧ Rw w b (c * 20) d)

theorem nil_eq (w : World) : (binOp .eql 62 (.slice none 0 0) (.slice none 0 0)).run Tryd.prog w = .ok (.bool true) w := by kernel_rfl

theorem nil_ne (w : World) (ad : Addr) (n c : Nat) : (binOp .eql 62 (.slice (some ad) n c) (.slice none 0 0)).run Tryd.prog w = .ok (.bool false) w := by kernel_rfl

set_option maxRecDepth 100000 in
set_option maxHeartbeats 2000000 in
theorem clone_any (ao : Option Addr) (n c : Nat) (d : Array (List Int)) (w : World) (h : Is w (.slice ao n c) d) (hn : d.size = n) (hlim : n ≤ 100000) :
    Calls Tryd.prog 41 #[.slice ao n c] w fun e w' => ∃ v, e = .returned v ∧ Nw w.heap.size w' v d ∧ Below w.heap.size w w' := by
  obtain ⟨i0, hi, hz0, hz1, hz2⟩ := info_parts Tryd.info23
  cases ao with
  | none =>
    have h0 : n = 0 ∧ c = 0 := by
      obtain ⟨ao, c', e, h1, h2, h3⟩ := h.sh
      injection e with e1 e2 e3
      have := h2 e1.symm
      omega
    obtain ⟨rfl, rfl⟩ := h0
    have q := nil_eq w
    go_enter Tryd.func41, Tryd.ntmps41
    go_wp2
    go_ret
    exact ⟨_, rfl, .inl ⟨hn, _, _, rfl⟩, Below.refl _ _⟩
  | some ad =>
    have h' := h.keep ((Below.refl _ w).alloc (Nat.le_refl _) (.cells #[] 23))
    have hcs := h'.cellsOf
    have hown : (w.alloc (.cells #[] 23)).ownsRow w.heap.size 23 20 (.slice (some ⟨w.heap.size, 0, none⟩) 0 0) 0 [] :=
      World.ownsRow_lit (base := w.heap.size) (e := 23) (size := 20) w #[] 0 (Nat.le_refl _) (by unfold maxLen; omega) rfl
    have HI : Hid (∀ i, i < d.size → IsId d[i]!) := h.ids
    have HD : Hid (d.size = n) := hn
    have hl : (fl d).length = n * 20 := by rw [fl_len, hn]
    clear h h' hn
    have q := nil_ne w ad n c
    go_enter Tryd.func41, Tryd.ntmps41
    go_wp2_with (first
      | (at_builtin; refine wpList_append_own _ rfl _ _ 62 rfl w.heap.size 23 i0 (.agg zcs) 20 20 Tryd.underlying62 hi hz0 hz1 hz2 rfl (by decide) _ 0 [] rfl hown ad n c (fl d) rfl hl hcs (fl_one d) (by unfold maxLen; omega) (by omega) (by simp) ?_; intro v' w' h1 h2 h3))
    go_ret
    have hb : Below w.heap.size w w' := ((Below.refl _ w).alloc (Nat.le_refl _) _).grown h2 (by simp) (fun q hq => by cases hq; exact Nat.le_refl _)
    refine ⟨_, rfl, ?_, hb⟩
    rw [Nat.zero_add, List.nil_append] at h1
    by_cases h0 : 0 < n
    · obtain ⟨e1, b, c2, e2, e3, e4, e5⟩ := own_rw h1 HI.out h0
      refine .inr ⟨by omega, b, c2, ?_, by omega, e4, e5⟩
      rw [HD.out]
      exact e2
    · have hd0 : d.size = 0 := by have := HD.out; omega
      refine .inl ⟨hd0, ?_⟩
      rcases h1.2 with ⟨e, _⟩ | ⟨g, cap, cur, e, _⟩
      · exact ⟨none, 0, e⟩
      · exact ⟨_, cap, by rw [show n = 0 by omega] at e; exact e⟩

end Go.Proofs.YtmjcikomcnokkaaDoor
