/- newChains, add. -/
import Derived.Test.YtgdodphpomkakaaWSame
namespace Go.Proofs.Ytgdodphpomkakaa
open Go.RowKit Go.Maps

theorem Try.info3 : (Try.prog.info? 3).map (fun i => (i.zero, i.size, i.bytes)) = some (some (.int .i64 0), 1, 8) := by kernel_rfl

set_option maxRecDepth 100000 in
set_option maxHeartbeats 1000000 in
theorem newChains_any (ao : Option Addr) (N c : Nat) (b : List Int) (w : World) (h : Rd w ao N c b) (hN : N ≤ 1000000) :
    Calls Try.prog 22 #[.slice ao N c] w fun e w' => ∃ R M g, e = .returned (.pointer (some ⟨R, 0, none⟩)) ∧ IsCh w' w.heap.size R ao N c M g b (fun _ => 0) (.map []) 0 ∧ Below w.heap.size w w' := by
  obtain ⟨i0, hi, hz0, hz1, hz2⟩ := info_parts Try.info3
  have HB : Hid (Rd w ao N c b) := h
  have hmm := @run_makeMap Try.prog
  clear h
  go_enter Try.func22, Try.ntmps22
  go_wp2_with (at_make; refine wpList_make_row _ rfl _ _ 52 rfl 3 i0 (.int .i64 0) Try.underlying52 hi hz0 hz1 rfl .i64 .i64 N rfl rfl (by rw [hz2]; omega) (by omega) ?_)
  go_ret
  have b1 : Below w.heap.size w (w.alloc (.map #[] 0)) := (Below.refl _ _).alloc (Nat.le_refl _) _
  have b2 := b1.alloc b1.size (.cells (madeCells #[Value.int .i64 0] N) 3)
  have b3 := b2.alloc b2.size (.cells #[Value.slice ao N c, Value.map (some w.heap.size), Value.slice (some ⟨w.heap.size + 1, 0, none⟩) N N] 54)
  have e1 : (w.alloc (.map #[] 0)).heap.size = w.heap.size + 1 := by simp
  have e2 : ((w.alloc (.map #[] 0)).alloc (.cells (madeCells #[Value.int .i64 0] N) 3)).heap.size = w.heap.size + 1 + 1 := by simp
  have hm := ((World.ownsMap_made w Try.prog 57 (plainElem (H := Unit) Try.prog 3)).alloc (.cells (madeCells #[Value.int .i64 0] N) 3)).alloc (.cells #[Value.slice ao N c, Value.map (some w.heap.size), Value.slice (some ⟨w.heap.size + 1, 0, none⟩) N N] 54)
  have hg := (World.rowIs_made (w.alloc (.map #[] 0)) (.int .i64 0) N 3).alloc (.cells #[Value.slice ao N c, Value.map (some w.heap.size), Value.slice (some ⟨w.heap.size + 1, 0, none⟩) N N] 54)
  have hr := World.rowIs_alloc ((w.alloc (.map #[] 0)).alloc (.cells (madeCells #[Value.int .i64 0] N) 3)) #[Value.slice ao N c, Value.map (some w.heap.size), Value.slice (some ⟨w.heap.size + 1, 0, none⟩) N N] 54 (chc ao N c w.heap.size (w.heap.size + 1)) (fun i hi => by simp at hi; rcases i with _ | _ | _ | i <;> first | rfl | omega)
  rw [e1] at hg
  rw [e2] at hr
  exact ⟨w.heap.size + 1 + 1, w.heap.size, w.heap.size + 1, rfl, ⟨hr, HB.out.keep b3, hm, fun _ _ _ _ => rfl, (fun h _ _ hh => by simp [pv] at hh), hg, (fun j hj => by omega), ⟨by omega, Nat.le_refl _, by omega⟩, HB.out.blk⟩, b3⟩

theorem IsCh.apart {w : World} {B R : Nat} {ao : Option Addr} {N c M g : Nat} {b : List Int} {A : Nat → Int} {D : DataW Unit} {p : Nat} (h : IsCh w B R ao N c M g b A D p) : R ≠ g ∧ R ≠ M ∧ M ≠ g := by
  have hR := rowIs_block h.row
  have hg := rowIs_block h.ahd
  obtain ⟨es, clock, hM, _⟩ := h.map
  refine ⟨?_, ?_, ?_⟩
  · rintro rfl
    rw [hR] at hg
    simp at hg
  · rintro rfl
    rw [hR] at hM
    simp at hM
  · rintro rfl
    rw [hg] at hM
    simp at hM

theorem IsCh.added {w W : World} {B R : Nat} {ao : Option Addr} {N c M g : Nat} {b : List Int} {A : Nat → Int} {D : DataW Unit} {p : Nat} (h : IsCh w B R ao N c M g b A D p) (h3 : p + 3 ≤ N) (hr : W.rowIs R 54 3 (chc ao N c M g)) (hrd : Rd W ao N c b)
    (hm : W.ownsMap Try.prog 57 (plainElem Try.prog 3) M (p + 1) (D.put (.int .u32 (H3 b p)) (.lit (.int .i64 p)))) (ha : W.rowIs g 3 N (fun j => if j = p then .int .i64 (pv b (H3 b p) p) else .int .i64 (A j))) :
    IsCh W B R ao N c M g b (fun j => if j = p then pv b (H3 b p) p else A j) (D.put (.int .u32 (H3 b p)) (.lit (.int .i64 p))) (p + 1) := by
  have hl := h.rd.len
  have him := h.map.isMap
  have hother : ∀ x : Int, x ≠ H3 b p → pv b x (p + 1) = pv b x p := fun x hx => pv_other b x p (fun e => hx e.2.symm)
  have hsame : pv b (H3 b p) (p + 1) = p := pv_same b p (by omega)
  have hne : ∀ x : Int, x ≠ H3 b p → Lit.int .u32 x ≠ Lit.int .u32 (H3 b p) := fun x hx e => hx (by injection e)
  refine ⟨hr, hrd, hm, ?_, ?_, ha.congr (fun i _ => by split <;> rfl), ?_, h.low, h.src⟩
  · intro x x0 x1 hx
    by_cases he : x = H3 b p
    · rw [he, hsame] at hx; omega
    · rw [hother x he] at hx
      rw [has_put_other (hne x he)]
      exact h.no x x0 x1 hx
  · intro x x0 x1 hx
    by_cases he : x = H3 b p
    · rw [he, hsame]
      exact ⟨has_put_same him (by trivial) _, atKey_put_same him (by trivial) _ _⟩
    · rw [hother x he] at hx ⊢
      rw [has_put_other (hne x he), atKey_put_other (hne x he)]
      exact h.yes x x0 x1 hx
  · intro j hj h3'
    by_cases he : j = p
    · subst he
      simp
    · rw [if_neg he]
      exact h.link j (by omega) h3'

set_option maxRecDepth 100000 in
set_option maxHeartbeats 1000000 in
theorem add_any (B R : Nat) (ao : Option Addr) (N c M g : Nat) (b : List Int) (A : Nat → Int) (D : DataW Unit) (p : Nat) (w : World) (h : IsCh w B R ao N c M g b A D p) (hN : N ≤ 1000000) (hp : p < N) :
    Calls Try.prog 24 #[.pointer (some ⟨R, 0, none⟩), .int .i64 p] w fun e w' => ∃ A' D', e = .returned (.tuple #[]) ∧ IsCh w' B R ao N c M g b A' D' (p + 1) ∧ Fr (fun k => k = M ∨ k = g) w w' := by
  by_cases hj3 : p + 3 ≤ N
  · have hh := hash_yes R ao N c M g b p w h.row h.rd hj3 hN
    have hf := fun W (hW : Below w.heap.size w W) => first_any B R ao N c M g b A D p p W (h.keep hW) hN (by omega)
    have e : fst3 b N p p = pv b (H3 b p) p := if_pos hj3
    rw [e] at hf
    have HC : Hid (IsCh w B R ao N c M g b A D p) := h
    have HNE : Hid (R ≠ g ∧ R ≠ M ∧ M ≠ g) := h.apart
    have HAdd : Hid (∀ W : World, W.rowIs R 54 3 (chc ao N c M g) → Rd W ao N c b → W.ownsMap Try.prog 57 (plainElem Try.prog 3) M (p + 1) (D.put (.int .u32 (H3 b p)) (.lit (.int .i64 p))) → W.rowIs g 3 N (fun j => if j = p then .int .i64 (pv b (H3 b p) p) else .int .i64 (A j)) → IsCh W B R ao N c M g b (fun j => if j = p then pv b (H3 b p) p else A j) (D.put (.int .u32 (H3 b p)) (.lit (.int .i64 p))) (p + 1)) := fun W => h.added hj3
    have hrg := H3_range h.rd.byt p
    have hkey := keyOf_int_mk (P := Try.prog) (k := 57) Try.underlying57 (u32_wf _ hrg.1 (by omega))
    clear h e
    go_enter Try.func24, Try.ntmps24
    go_wp2_with fail
    refine hh.mono ?_
    rintro e w1 ⟨rfl, hb1⟩
    have h1 := HC.out.keep hb1
    have c1 := h1.row.cell (i := 1) (by omega)
    have c2 := h1.row.cell (i := 2) (by omega)
    have a0 := h1.ahd.cell (i := p) (by omega)
    have a1 := h1.ahd.frozen p
    simp only [chc] at c1 c2
    generalize pv b (H3 b p) p = y at *
    go_wp2_with fail
    go_region_with (go_at_call 25; refine (hf _ (hb1.trans ((drew_keep w1).mono hb1.size))).mono ?_; rintro e w2 ⟨rfl, hb2⟩; have h2 := (h1.keep (drew_keep w1)).keep hb2; have a2 := h2.ahd.cell (i := p) (by omega); have a3 := h2.ahd.frozen p; have c3 := h2.row.cell (i := 2) (by omega); simp only [chc] at c3)
    all_goals
      have h3 := (h2.ahd.set p (.int .i64 y))
      have r3 := h2.row.setOther (a := ⟨g, p, none⟩) HNE.out.1 (.int .i64 y)
      have m3 := h2.map.setCell (a := ⟨g, p, none⟩) HNE.out.2.2 (.int .i64 y)
      have F3 : Fr (fun k => k = M ∨ k = g) w (w2.setCell ⟨g, p, none⟩ (.int .i64 y)) := (((Fr.ofBelow hb1).trans (P' := fun _ => False) (Fr.ofBelow ((drew_keep w1).trans (hb2.mono (Nat.le_refl _)))) (fun _ _ h => h.elim)).setCell (p := ⟨g, p, none⟩) (.inr rfl) _)
      have d3 := h2.rd.fr ((Fr.refl (fun k => k = g) w2).setCell (p := ⟨g, p, none⟩) rfl (.int .i64 y)) (fun ad e hn e2 => by have := h2.src ad e hn; have := h2.low; omega)
      have c1 := r3.cell (i := 1) (by omega)
      simp only [chc] at c1
      generalize w2.setCell ⟨g, p, none⟩ (.int .i64 y) = W at *
      clear hf hh h1 a0 a1 c2 h2 a2 a3 c3 hb2
      go_wp2_with (at_mapUpdate; refine wpList_mapUpdate_own _ rfl _ _ _ 51 rfl 57 3 Try.law57 Try.underlying51 _ M p _ rfl m3 (by unfold maxLen; omega) _ _ _ rfl rfl hkey _ [] (plainElem_int Try.underlying3 (WalkArith.wf_i64 (by omega))) ?_; intro w4 m4 g4)
      go_end0
      have F4 : Fr (fun k => k = M) W w4 := (Fr.refl _ W).grown g4 (fun k _ e => by cases e; rfl)
      refine ⟨rfl, ⟨_, _, HAdd.out w4 (rowIs_fr r3 F4 HNE.out.2.1) (d3.fr F4 (fun ad e hn e2 => by have := HC.out.src ad e hn; have := HC.out.low; omega)) m4 (rowIs_fr h3 F4 (fun e => HNE.out.2.2 e.symm))⟩, F3.trans F4 (fun _ _ e => .inl e)⟩
  · have hh := hash_no R ao N c M g p w h.row (by omega) hN (by omega)
    have HC : Hid (IsCh w B R ao N c M g b A D p) := h
    clear h
    go_enter Try.func24, Try.ntmps24
    go_wp2_with fail
    refine hh.mono ?_
    rintro e w1 ⟨rfl, hb1⟩
    go_wp2
    go_end0
    have hpv : ∀ h, pv b h (p + 1) = pv b h p := fun h => pv_other b h p (fun hh => by have := HC.out.rd.len; omega)
    have h1 := HC.out.keep hb1
    exact ⟨A, D, rfl, ⟨h1.row, h1.rd, h1.map.mono (by omega), (fun h h0 h9 hh => by rw [hpv] at hh; exact h1.no h h0 h9 hh), (fun h h0 h9 hh => by rw [hpv] at hh ⊢; exact h1.yes h h0 h9 hh), h1.ahd, (fun j hj h3 => h1.link j (by omega) h3), h1.low, h1.src⟩, Fr.ofBelow hb1⟩

end Go.Proofs.Ytgdodphpomkakaa
