/- A row of changes: add. -/
import Derived.Test.YtmpfbemdljfamaaWChg
namespace Go.Proofs.Ytmpfbemdljfamaa
open Go.RowKit Go.Maps

theorem Try.info57 : (Try.prog.info? 57).map (fun i => (i.zero, i.size, i.bytes)) = some (some .nilFunc, 1, 8) := by kernel_rfl
theorem Try.info51 : (Try.prog.info? 51).map (fun i => (i.zero, i.size, i.bytes)) = some (some (.pointer none), 1, 8) := by kernel_rfl

theorem Mp.keep {w w' : World} {b : Nat} {D : DataW Unit} (h : Mp w b D) (hb : Below w.heap.size w w') : Mp w' b D := h.fr (P := fun _ => False) (Fr.ofBelow hb) (fun h => h)

/-- What stays while a row's own blocks are written. -/
structure Stays (w w' : World) (O : Nat → Prop) (x : Rw) (u : Value) (c : Chg) (b : Nat) (D : DataW Unit) : Prop where
  mp : Mp w' b D
  fls : w'.ownsRow 0 51 1 x.fv x.fs.length (x.fs.map fun f => pv (some f))
  chg : IsChg w' O x.fs.length u c
  chs : ∀ i (hi : i < x.cs.length) v, IsChg w O x.fs.length v (x.cs[i]) → IsChg w' O x.fs.length v (x.cs[i])

theorem stays {w w' : World} {O : Nat → Prop} {r : Nat} {x : Rw} {u : Value} {c : Chg} {b : Nat} {D : DataW Unit} (h : IsRw w O r x) (hu : IsChg w O x.fs.length u c) (hm : Mp w b D) (hf : Fr (fun k => k = r ∨ x.cv.ownBlock = some k) w w') : Stays w w' O x u c b D := by
  obtain ⟨cl, hc, _⟩ := h.chs
  have k1 := kd_row h.row
  have hP : ∀ k, O k → (k = r ∨ x.cv.ownBlock = some k) → kd w k ≠ some 3 ∧ kd w k ≠ some 9 := by
    rintro k _ (rfl | e)
    · rw [k1]; decide
    · rw [kd_own hc e]; decide
  refine ⟨hm.fr hf ?_, ownsRow_fr h.fls hf ?_, hu.fr hf hP, fun i hi v hv => hv.fr hf hP⟩
  · rintro (rfl | e)
    · rw [kd_map hm] at k1; cases k1
    · have := kd_own hc e
      rw [kd_map hm] at this; cases this
  · rintro k e (rfl | e')
    · have := kd_own h.fls e
      rw [k1] at this; cases this
    · have a1 := kd_own hc e'
      rw [kd_own h.fls e] at a1; cases a1

/-- The row behind it. -/
structure Added (w w' : World) (O : Nat → Prop) (r : Nat) (x : Rw) (c : Chg) (b : Nat) (D : DataW Unit) : Prop where
  out : ∃ cv', IsRw w' (fun k => O k ∨ cv'.ownBlock = some k) r ⟨cv', x.fv, x.cs ++ [c], x.fs⟩ ∧ (∀ g, cv'.ownBlock = some g → x.cv.ownBlock = some g ∨ w.heap.size ≤ g)
  mp : Mp w' b (c.on x.fs D)
  fr : Fr (fun k => k = r ∨ x.cv.ownBlock = some k ∨ k = b) w w'

theorem added {w w2 w3 w4 : World} {O : Nat → Prop} {r : Nat} {x : Rw} {u : Value} {c : Chg} {b : Nat} {D : DataW Unit} {cl : List Value} {v' : Value} (h : IsRw w O r x) (hb : Mp w b D)
    (hc : w.ownsRow 0 57 1 x.cv x.cs.length cl) (hi : ∀ i (hi : i < x.cs.length), ∃ u, cl[i]? = some u ∧ IsChg w O x.fs.length u (x.cs[i]))
    (ho : w2.ownsRow 0 57 1 v' (x.cs.length + 1) (cl ++ [u])) (hg : ∀ g, v'.ownBlock = some g → x.cv.ownBlock = some g ∨ w.heap.size ≤ g)
    (hr2 : w3.rowIs r 67 2 (rc ⟨v', x.fv, x.cs ++ [c], x.fs⟩)) (hf23 : Fr (fun k => k = r) w2 w3) (hr2' : w2.rowIs r 67 2 (rc x)) (hf : Fr (fun k => k = r ∨ x.cv.ownBlock = some k) w w3) (hs : Stays w w3 O x u c b D)
    (hm4 : Mp w4 b (c.on x.fs D)) (hf4 : Fr (fun k => k = b) w3 w4) : Added w w4 O r x c b D := by
  have ho3 : w3.ownsRow 0 57 1 v' (x.cs.length + 1) (cl ++ [u]) := ownsRow_fr ho hf23 (fun k e hk => by
    have k1 := kd_own ho e
    rw [hk, kd_row hr2'] at k1
    cases k1)
  have hll : cl.length = x.cs.length := by simpa using hc.1
  have nb : ∀ k, kd w3 k ≠ none → ¬ k = b := fun k hk e => hk (by rw [e]; exact kd_map hs.mp)
  have R : IsRw w3 (fun k => O k ∨ v'.ownBlock = some k) r ⟨v', x.fv, x.cs ++ [c], x.fs⟩ := by
    refine ⟨hr2, ⟨cl ++ [u], by simpa using ho3, fun i hi' => ?_⟩, hs.fls, .inl h.own.1, fun g e => .inr e, fun g e => .inl (h.own.2.2 g e)⟩
    simp only [List.length_append, List.length_cons, List.length_nil] at hi'
    by_cases hlt : i < x.cs.length
    · obtain ⟨u', hu', hg'⟩ := hi i hlt
      refine ⟨u', by rw [List.getElem?_append_left (by omega)]; exact hu', ?_⟩
      have e : (x.cs ++ [c])[i]'(by simp; omega) = x.cs[i] := List.getElem_append_left hlt
      simp only [e]
      exact (hs.chs i hlt u' hg').mono (fun k hk => .inl hk) (Nat.le_refl _)
    · have hie : i = x.cs.length := by omega
      subst hie
      refine ⟨u, by rw [List.getElem?_append_right (by omega)]; simp [hll], ?_⟩
      have e : (x.cs ++ [c])[x.cs.length]'(by simp) = c := by simp
      simp only [e]
      exact hs.chg.mono (fun k hk => .inl hk) (Nat.le_refl _)
  refine ⟨⟨v', R.fr hf4 ?_ ?_ ?_ ?_, hg⟩, hm4, ?_⟩
  · exact nb _ (by rw [kd_row hr2]; simp)
  · exact fun g e => nb _ (by rw [kd_own ho3 e]; simp)
  · exact fun g e => nb _ (by rw [kd_own hs.fls e]; simp)
  · intro k _ hk
    subst hk
    rw [kd_map hs.mp]
    exact ⟨by simp, by simp⟩
  · exact (hf.weak (P' := fun k => k = r ∨ x.cv.ownBlock = some k ∨ k = b) (fun i e => e.elim .inl fun e => .inr (.inl e))).trans hf4 (fun i _ e => .inr (.inr e))

set_option maxRecDepth 100000 in
set_option maxHeartbeats 1000000 in
theorem add_made (r : Nat) (O : Nat → Prop) (x : Rw) (n0 : ByteArray) (p b1 b2 : Nat) (b : Nat) (D : DataW Unit) (w : World) (h : IsRw w O r x) (hu : IsChg w O x.fs.length (.func (.func 53) #[] #[.pointer (some ⟨b1, 0, none⟩), .pointer (some ⟨b2, 0, none⟩)]) (.made n0 p)) (hm : Mp w b D) (hD : Maps.size D < maxLen) (hl : x.cs.length < 1000000) :
    Calls Try.prog 28 #[.pointer (some ⟨r, 0, none⟩), .map (some b), .func (.func 53) #[] #[.pointer (some ⟨b1, 0, none⟩), .pointer (some ⟨b2, 0, none⟩)]] w fun e w' => e = .returned (.tuple #[]) ∧ Added w w' O r x (.made n0 p) b D := by
  have Hh : Hid (IsRw w O r x) := h
  have Hu : Hid (IsChg w O x.fs.length (.func (.func 53) #[] #[.pointer (some ⟨b1, 0, none⟩), .pointer (some ⟨b2, 0, none⟩)]) (.made n0 p)) := hu
  have Hm : Hid (Mp w b D) := hm
  obtain ⟨cl, hc, hi⟩ := h.chs
  have Hc : Hid (w.ownsRow 0 57 1 x.cv x.cs.length cl) := hc
  have Hi : Hid (∀ i (hi : i < x.cs.length), ∃ u, cl[i]? = some u ∧ IsChg w O x.fs.length u (x.cs[i])) := hi
  have c0 := h.row.cell (i := 0) (by omega)
  simp only [rc] at c0
  obtain ⟨av, cv, hv⟩ := own_shape hc
  rw [hv] at c0 hc
  have HV : Hid (x.cv = Value.slice av x.cs.length cv) := hv
  obtain ⟨n, hn⟩ : ∃ n, n = x.cs.length := ⟨_, rfl⟩
  rw [← hn] at c0 hc hl
  have HN : Hid (n = x.cs.length) := hn
  have hne : ∀ k, (Value.slice av n cv).ownBlock = some k → k ≠ r := fun k e hk => by
    have := kd_own hc e
    rw [hk, kd_row h.row] at this
    cases this
  obtain ⟨fa, fcp, hfv⟩ := own_shape h.fls
  have HF : Hid (x.fv = Value.slice fa x.fs.length fcp) := hfv
  have hc' := ownsRow_fr (P := fun _ => False) hc (Fr.ofBelow (new_below w (.cells #[.func (.func 53) #[] #[.pointer (some ⟨b1, 0, none⟩), .pointer (some ⟨b2, 0, none⟩)]] 57))) (fun _ _ h => h)
  have hra := h.row.alloc (.cells #[.func (.func 53) #[] #[.pointer (some ⟨b1, 0, none⟩), .pointer (some ⟨b2, 0, none⟩)]] 57)
  clear h hu hm hi hv hn hc hfv
  go_enter Try.func28, Try.ntmps28
  go_wp2_with (at_builtin; refine wpList_app rfl _ _ 64 rfl 57 .nilFunc 8 Try.underlying64 Try.info57 rfl (.slice av n cv) n _ rfl hc' (some ⟨w.heap.size, 0, none⟩) 1 1 [.func (.func 53) #[] #[.pointer (some ⟨b1, 0, none⟩), .pointer (some ⟨b2, 0, none⟩)]] rfl rfl (fun e => by cases e) ?_ ?_ (by unfold maxLen; omega) (by omega) ?_)
  · rintro ad hh j u hj
    cases hh
    match j with
    | 0 =>
      cases hj
      simp [Addr.add]
    | j + 1 => cases hj
  · intro u hu
    cases List.mem_singleton.1 hu
    rfl
  · intro av' cv' w2 ho2 hg2 hl2
    have hr1 := rowIs_fr hra (fr_grown hg2) (fun e => hne _ e rfl)
    have c1 := hr1.cell (i := 0) (by omega)
    have f1 := hr1.frozen 0
    simp only [rc] at c1
    have hr3 := set_row (g := rc ⟨.slice av' (n + 1) cv', x.fv, x.cs ++ [.made n0 p], x.fs⟩) hr1 0 (.slice av' (n + 1) cv') (by
      intro j hj
      match j, hj with
      | 0, _ | 1, _ => rfl)
    have hf2 : Fr (fun k => k = r ∨ x.cv.ownBlock = some k) w w2 := (Fr.ofBelow (new_below w _)).trans (fr_grown hg2) (fun i _ e => by rw [HV.out, ← HN.out]; exact .inr e)
    have hf3 : Fr (fun k => k = r ∨ x.cv.ownBlock = some k) w (w2.setCell ⟨r, 0, none⟩ (.slice av' (n + 1) cv')) := hf2.trans (set_fr w2 r 0 _) (fun i _ e => .inl e)
    have hs := stays Hh.out Hu.out Hm.out hf3
    have hl3 : ∀ g, (Value.slice av' (n + 1) cv').ownBlock = some g → x.cv.ownBlock = some g ∨ w.heap.size ≤ g := fun g e => by
      rw [HV.out, ← HN.out]
      rcases hl2 g e with e | e
      · exact .inl e
      · exact .inr (by rw [e]; simp)
    have c3 := hr3.cell (i := 1) (by omega)
    simp only [rc] at c3
    rw [HF.out] at c3
    have hcall : Calls Try.prog 53 #[.map (some b), x.fv, .pointer (some ⟨b1, 0, none⟩), .pointer (some ⟨b2, 0, none⟩)] (w2.setCell ⟨r, 0, none⟩ (.slice av' (n + 1) cv')) fun e w' => e = .returned (.tuple #[]) ∧ Mp w' b ((Chg.made n0 p).on x.fs D) ∧ Fr (fun k => k = b) (w2.setCell ⟨r, 0, none⟩ (.slice av' (n + 1) cv')) w' := (by cases hs.chg with | made _ _ _ _ h1 h2 _ _ hp hn => exact made_on b D x.fv x.fs n0 p b1 b2 _ hs.mp hs.fls h1 h2 hp hn hD)
    rw [HF.out] at hcall
    clear hl2 hg2 hf2 hc' hra hne
    go_wp2_with (go_at_call 53; refine hcall.mono ?_; rintro e w4 ⟨rfl, hm4, hf4⟩)
    go_end0
    have e := HN.out
    subst e
    exact ⟨rfl, added Hh.out Hm.out Hc.out Hi.out ho2 hl3 hr3 (set_fr w2 r 0 _) hr1 hf3 hs hm4 hf4⟩

set_option maxRecDepth 100000 in
set_option maxHeartbeats 1000000 in
theorem add_renamed (r : Nat) (O : Nat → Prop) (x : Rw) (n0 m0 : ByteArray) (b1 b2 : Nat) (b : Nat) (D : DataW Unit) (w : World) (h : IsRw w O r x) (hu : IsChg w O x.fs.length (.func (.func 54) #[] #[.pointer (some ⟨b1, 0, none⟩), .pointer (some ⟨b2, 0, none⟩)]) (.renamed n0 m0)) (hm : Mp w b D) (hD : Maps.size D < maxLen) (hl : x.cs.length < 1000000) :
    Calls Try.prog 28 #[.pointer (some ⟨r, 0, none⟩), .map (some b), .func (.func 54) #[] #[.pointer (some ⟨b1, 0, none⟩), .pointer (some ⟨b2, 0, none⟩)]] w fun e w' => e = .returned (.tuple #[]) ∧ Added w w' O r x (.renamed n0 m0) b D := by
  have Hh : Hid (IsRw w O r x) := h
  have Hu : Hid (IsChg w O x.fs.length (.func (.func 54) #[] #[.pointer (some ⟨b1, 0, none⟩), .pointer (some ⟨b2, 0, none⟩)]) (.renamed n0 m0)) := hu
  have Hm : Hid (Mp w b D) := hm
  obtain ⟨cl, hc, hi⟩ := h.chs
  have Hc : Hid (w.ownsRow 0 57 1 x.cv x.cs.length cl) := hc
  have Hi : Hid (∀ i (hi : i < x.cs.length), ∃ u, cl[i]? = some u ∧ IsChg w O x.fs.length u (x.cs[i])) := hi
  have c0 := h.row.cell (i := 0) (by omega)
  simp only [rc] at c0
  obtain ⟨av, cv, hv⟩ := own_shape hc
  rw [hv] at c0 hc
  have HV : Hid (x.cv = Value.slice av x.cs.length cv) := hv
  obtain ⟨n, hn⟩ : ∃ n, n = x.cs.length := ⟨_, rfl⟩
  rw [← hn] at c0 hc hl
  have HN : Hid (n = x.cs.length) := hn
  have hne : ∀ k, (Value.slice av n cv).ownBlock = some k → k ≠ r := fun k e hk => by
    have := kd_own hc e
    rw [hk, kd_row h.row] at this
    cases this
  obtain ⟨fa, fcp, hfv⟩ := own_shape h.fls
  have HF : Hid (x.fv = Value.slice fa x.fs.length fcp) := hfv
  have hc' := ownsRow_fr (P := fun _ => False) hc (Fr.ofBelow (new_below w (.cells #[.func (.func 54) #[] #[.pointer (some ⟨b1, 0, none⟩), .pointer (some ⟨b2, 0, none⟩)]] 57))) (fun _ _ h => h)
  have hra := h.row.alloc (.cells #[.func (.func 54) #[] #[.pointer (some ⟨b1, 0, none⟩), .pointer (some ⟨b2, 0, none⟩)]] 57)
  clear h hu hm hi hv hn hc hfv
  go_enter Try.func28, Try.ntmps28
  go_wp2_with (at_builtin; refine wpList_app rfl _ _ 64 rfl 57 .nilFunc 8 Try.underlying64 Try.info57 rfl (.slice av n cv) n _ rfl hc' (some ⟨w.heap.size, 0, none⟩) 1 1 [.func (.func 54) #[] #[.pointer (some ⟨b1, 0, none⟩), .pointer (some ⟨b2, 0, none⟩)]] rfl rfl (fun e => by cases e) ?_ ?_ (by unfold maxLen; omega) (by omega) ?_)
  · rintro ad hh j u hj
    cases hh
    match j with
    | 0 =>
      cases hj
      simp [Addr.add]
    | j + 1 => cases hj
  · intro u hu
    cases List.mem_singleton.1 hu
    rfl
  · intro av' cv' w2 ho2 hg2 hl2
    have hr1 := rowIs_fr hra (fr_grown hg2) (fun e => hne _ e rfl)
    have c1 := hr1.cell (i := 0) (by omega)
    have f1 := hr1.frozen 0
    simp only [rc] at c1
    have hr3 := set_row (g := rc ⟨.slice av' (n + 1) cv', x.fv, x.cs ++ [.renamed n0 m0], x.fs⟩) hr1 0 (.slice av' (n + 1) cv') (by
      intro j hj
      match j, hj with
      | 0, _ | 1, _ => rfl)
    have hf2 : Fr (fun k => k = r ∨ x.cv.ownBlock = some k) w w2 := (Fr.ofBelow (new_below w _)).trans (fr_grown hg2) (fun i _ e => by rw [HV.out, ← HN.out]; exact .inr e)
    have hf3 : Fr (fun k => k = r ∨ x.cv.ownBlock = some k) w (w2.setCell ⟨r, 0, none⟩ (.slice av' (n + 1) cv')) := hf2.trans (set_fr w2 r 0 _) (fun i _ e => .inl e)
    have hs := stays Hh.out Hu.out Hm.out hf3
    have hl3 : ∀ g, (Value.slice av' (n + 1) cv').ownBlock = some g → x.cv.ownBlock = some g ∨ w.heap.size ≤ g := fun g e => by
      rw [HV.out, ← HN.out]
      rcases hl2 g e with e | e
      · exact .inl e
      · exact .inr (by rw [e]; simp)
    have c3 := hr3.cell (i := 1) (by omega)
    simp only [rc] at c3
    rw [HF.out] at c3
    have hcall : Calls Try.prog 54 #[.map (some b), x.fv, .pointer (some ⟨b1, 0, none⟩), .pointer (some ⟨b2, 0, none⟩)] (w2.setCell ⟨r, 0, none⟩ (.slice av' (n + 1) cv')) fun e w' => e = .returned (.tuple #[]) ∧ Mp w' b ((Chg.renamed n0 m0).on x.fs D) ∧ Fr (fun k => k = b) (w2.setCell ⟨r, 0, none⟩ (.slice av' (n + 1) cv')) w' := (by cases hs.chg with | renamed _ _ _ _ h1 h2 _ _ hn hm => exact renamed_on b D x.fv x.fs n0 m0 b1 b2 _ hs.mp h1 h2 hn hm hD)
    rw [HF.out] at hcall
    clear hl2 hg2 hf2 hc' hra hne
    go_wp2_with (go_at_call 54; refine hcall.mono ?_; rintro e w4 ⟨rfl, hm4, hf4⟩)
    go_end0
    have e := HN.out
    subst e
    exact ⟨rfl, added Hh.out Hm.out Hc.out Hi.out ho2 hl3 hr3 (set_fr w2 r 0 _) hr1 hf3 hs hm4 hf4⟩

set_option maxRecDepth 100000 in
set_option maxHeartbeats 1000000 in
theorem add_removed (r : Nat) (O : Nat → Prop) (x : Rw) (n0 : ByteArray) (b1 : Nat) (b : Nat) (D : DataW Unit) (w : World) (h : IsRw w O r x) (hu : IsChg w O x.fs.length (.func (.func 66) #[] #[.pointer (some ⟨b1, 0, none⟩)]) (.removed n0)) (hm : Mp w b D) (hl : x.cs.length < 1000000) :
    Calls Try.prog 28 #[.pointer (some ⟨r, 0, none⟩), .map (some b), .func (.func 66) #[] #[.pointer (some ⟨b1, 0, none⟩)]] w fun e w' => e = .returned (.tuple #[]) ∧ Added w w' O r x (.removed n0) b D := by
  have Hh : Hid (IsRw w O r x) := h
  have Hu : Hid (IsChg w O x.fs.length (.func (.func 66) #[] #[.pointer (some ⟨b1, 0, none⟩)]) (.removed n0)) := hu
  have Hm : Hid (Mp w b D) := hm
  obtain ⟨cl, hc, hi⟩ := h.chs
  have Hc : Hid (w.ownsRow 0 57 1 x.cv x.cs.length cl) := hc
  have Hi : Hid (∀ i (hi : i < x.cs.length), ∃ u, cl[i]? = some u ∧ IsChg w O x.fs.length u (x.cs[i])) := hi
  have c0 := h.row.cell (i := 0) (by omega)
  simp only [rc] at c0
  obtain ⟨av, cv, hv⟩ := own_shape hc
  rw [hv] at c0 hc
  have HV : Hid (x.cv = Value.slice av x.cs.length cv) := hv
  obtain ⟨n, hn⟩ : ∃ n, n = x.cs.length := ⟨_, rfl⟩
  rw [← hn] at c0 hc hl
  have HN : Hid (n = x.cs.length) := hn
  have hne : ∀ k, (Value.slice av n cv).ownBlock = some k → k ≠ r := fun k e hk => by
    have := kd_own hc e
    rw [hk, kd_row h.row] at this
    cases this
  obtain ⟨fa, fcp, hfv⟩ := own_shape h.fls
  have HF : Hid (x.fv = Value.slice fa x.fs.length fcp) := hfv
  have hc' := ownsRow_fr (P := fun _ => False) hc (Fr.ofBelow (new_below w (.cells #[.func (.func 66) #[] #[.pointer (some ⟨b1, 0, none⟩)]] 57))) (fun _ _ h => h)
  have hra := h.row.alloc (.cells #[.func (.func 66) #[] #[.pointer (some ⟨b1, 0, none⟩)]] 57)
  clear h hu hm hi hv hn hc hfv
  go_enter Try.func28, Try.ntmps28
  go_wp2_with (at_builtin; refine wpList_app rfl _ _ 64 rfl 57 .nilFunc 8 Try.underlying64 Try.info57 rfl (.slice av n cv) n _ rfl hc' (some ⟨w.heap.size, 0, none⟩) 1 1 [.func (.func 66) #[] #[.pointer (some ⟨b1, 0, none⟩)]] rfl rfl (fun e => by cases e) ?_ ?_ (by unfold maxLen; omega) (by omega) ?_)
  · rintro ad hh j u hj
    cases hh
    match j with
    | 0 =>
      cases hj
      simp [Addr.add]
    | j + 1 => cases hj
  · intro u hu
    cases List.mem_singleton.1 hu
    rfl
  · intro av' cv' w2 ho2 hg2 hl2
    have hr1 := rowIs_fr hra (fr_grown hg2) (fun e => hne _ e rfl)
    have c1 := hr1.cell (i := 0) (by omega)
    have f1 := hr1.frozen 0
    simp only [rc] at c1
    have hr3 := set_row (g := rc ⟨.slice av' (n + 1) cv', x.fv, x.cs ++ [.removed n0], x.fs⟩) hr1 0 (.slice av' (n + 1) cv') (by
      intro j hj
      match j, hj with
      | 0, _ | 1, _ => rfl)
    have hf2 : Fr (fun k => k = r ∨ x.cv.ownBlock = some k) w w2 := (Fr.ofBelow (new_below w _)).trans (fr_grown hg2) (fun i _ e => by rw [HV.out, ← HN.out]; exact .inr e)
    have hf3 : Fr (fun k => k = r ∨ x.cv.ownBlock = some k) w (w2.setCell ⟨r, 0, none⟩ (.slice av' (n + 1) cv')) := hf2.trans (set_fr w2 r 0 _) (fun i _ e => .inl e)
    have hs := stays Hh.out Hu.out Hm.out hf3
    have hl3 : ∀ g, (Value.slice av' (n + 1) cv').ownBlock = some g → x.cv.ownBlock = some g ∨ w.heap.size ≤ g := fun g e => by
      rw [HV.out, ← HN.out]
      rcases hl2 g e with e | e
      · exact .inl e
      · exact .inr (by rw [e]; simp)
    have c3 := hr3.cell (i := 1) (by omega)
    simp only [rc] at c3
    rw [HF.out] at c3
    have hcall : Calls Try.prog 66 #[.map (some b), x.fv, .pointer (some ⟨b1, 0, none⟩)] (w2.setCell ⟨r, 0, none⟩ (.slice av' (n + 1) cv')) fun e w' => e = .returned (.tuple #[]) ∧ Mp w' b ((Chg.removed n0).on x.fs D) ∧ Fr (fun k => k = b) (w2.setCell ⟨r, 0, none⟩ (.slice av' (n + 1) cv')) w' := (by cases hs.chg with | removed _ _ h1 _ hn => exact removed_on b D x.fv x.fs n0 b1 _ hs.mp h1 hn)
    rw [HF.out] at hcall
    clear hl2 hg2 hf2 hc' hra hne
    go_wp2_with (go_at_call 66; refine hcall.mono ?_; rintro e w4 ⟨rfl, hm4, hf4⟩)
    go_end0
    have e := HN.out
    subst e
    exact ⟨rfl, added Hh.out Hm.out Hc.out Hi.out ho2 hl3 hr3 (set_fr w2 r 0 _) hr1 hf3 hs hm4 hf4⟩

end Go.Proofs.Ytmpfbemdljfamaa
