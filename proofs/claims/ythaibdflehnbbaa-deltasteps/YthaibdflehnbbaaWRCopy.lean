/- readCopy. -/
import Derived.Test.YthaibdflehnbbaaWRead
namespace Go.Proofs.Ythaibdflehnbbaa
open Go.RowKit

theorem IsR.fr {P : Nat → Prop} {w w' : World} {R : Nat} {ao : Option Addr} {n c : Nat} {xs : List Int} {p : Nat} {er : Int} (h : IsR w R ao n c xs p er) (hf : Fr P w w') (hR : ¬ P R)
    (hs : ∀ ad, ao = some ad → 0 < n → ¬ P ad.block) : IsR w' R ao n c xs p er := by
  have hb : w'.heap[R]? = w.heap[R]? := hf.block R h.lt hR
  exact ⟨(World.cell?_of_block (w := w) (a := ⟨R, 0, none⟩) hb).trans h.row, (World.cell?_of_block (w := w) (a := ⟨R, 1, none⟩) hb).trans h.pos, (World.cell?_of_block (w := w) (a := ⟨R, 2, none⟩) hb).trans h.err,
    (World.frozen?_of_block (w := w) (a := ⟨R, 1, none⟩) hb).trans h.f1, (World.frozen?_of_block (w := w) (a := ⟨R, 2, none⟩) hb).trans h.f2, h.rd.fr hf hs, h.sep, h.le, h.lim⟩

theorem At.fr {P : Nat → Prop} {w w' : World} {R : Nat} {ao : Option Addr} {n c : Nat} {xs : List Int} {oy : Option (List Int)} (h : At w R ao n c xs oy) (hf : Fr P w w') (hR : ¬ P R)
    (hs : ∀ ad, ao = some ad → 0 < n → ¬ P ad.block) : At w' R ao n c xs oy := by
  cases oy with
  | none => obtain ⟨p, h⟩ := h; exact ⟨p, h.fr hf hR hs⟩
  | some ys => obtain ⟨p, h, e⟩ := h; exact ⟨p, h.fr hf hR hs, e⟩

theorem At.src {w : World} {R : Nat} {ao : Option Addr} {n c : Nat} {xs : List Int} {oy : Option (List Int)} (h : At w R ao n c xs oy) : ∀ ad, ao = some ad → 0 < n → ad.block < w.heap.size := by
  cases oy with
  | none => obtain ⟨p, h⟩ := h; exact h.rd.blk
  | some ys => obtain ⟨p, h, e⟩ := h; exact h.rd.blk

theorem set_fr (w : World) (a : Addr) (v : Value) : Fr (fun k => k = a.block) w (w.setCell a v) := (Fr.refl (fun k => k = a.block) w).setCell (p := a) rfl v

/-- Four cells. -/
def fo (a b c d : Value) : Nat → Value
  | 0 => a
  | 1 => b
  | 2 => c
  | _ => d

theorem fo_new (w : World) (x y z u : Value) (t : TypeId) : (w.alloc (.cells #[x, y, z, u] t)).rowIs w.heap.size t 4 (fo x y z u) :=
  World.rowIs_alloc w #[x, y, z, u] t (fo x y z u) (fun i hi => by simp at hi; rcases i with _ | _ | _ | _ | i <;> first | rfl | omega)

theorem fo_set1 {w : World} {b t : Nat} {x y z u : Value} (h : w.rowIs b t 4 (fo x y z u)) (v : Value) : (w.setCell ⟨b, 1, none⟩ v).rowIs b t 4 (fo x v z u) :=
  (h.set 1 v).congr (fun i hi => by rcases i with _ | _ | _ | _ | i <;> first | rfl | omega)

theorem fo_set2 {w : World} {b t : Nat} {x y z u : Value} (h : w.rowIs b t 4 (fo x y z u)) (v : Value) : (w.setCell ⟨b, 2, none⟩ v).rowIs b t 4 (fo x y v u) :=
  (h.set 2 v).congr (fun i hi => by rcases i with _ | _ | _ | _ | i <;> first | rfl | omega)

theorem Try.size42 : (Try.prog.info? 42).map (·.size) = some 4 := by kernel_rfl

theorem fo_one (x y z u : Value) (hx : x.oneCell' = true) (hy : y.oneCell' = true) (hz : z.oneCell' = true) (hu : u.oneCell' = true) : ∀ j, (fo x y z u j).oneCell' = true := by
  intro j
  rcases j with _ | _ | _ | j
  · exact hx
  · exact hy
  · exact hz
  · exact hu

theorem grown_fr {P : Nat → Prop} {w w' : World} (h : Fr P w w') {R : Nat} (hP : ∀ k, k < w.heap.size → P k → k = R) : w.grownBy w' (some R) :=
  ⟨h.os, h.tape, h.output, h.size, fun k hk hn => h.block k hk (fun hp => hn (by rw [hP k hk hp]))⟩

set_option maxRecDepth 100000 in
set_option maxHeartbeats 1000000 in
theorem copy_at (R : Nat) (ao : Option Addr) (n c : Nat) (xs : List Int) (oy : Option (List Int)) (s : Int) (w : World) (h : At w R ao n c xs oy) :
    Calls Try.prog 50 #[.pointer (some ⟨R, 0, none⟩), .int .i64 s] w fun e w' => ∃ f m oc, e = .returned (.agg #[.bool true, .int .i64 f, .int .i64 m, .slice none 0 0]) ∧ oy.bind (cpr s) = oc.map (fun r => (⟨true, f, m, []⟩, r)) ∧ At w' R ao n c xs oc ∧ w.grownBy w' (some R) := by
  have hlt := h.lt
  have HA0 : Hid (At w R ao n c xs oy) := h
  clear h
  go_enter Try.func50, Try.ntmps50
  go_wp2_with fail
  have hA : At ((w.alloc (.cells #[.bool false, .int .i64 0, .int .i64 0, .slice none 0 0] 42)).alloc (.cells #[.bool true, .int .i64 0, .int .i64 0, .slice none 0 0] 42)) R ao n c xs oy := (HA0.out.keep (new_below _ _)).keep (new_below _ _)
  have r4 := (fo_new w (.bool false) (.int .i64 0) (.int .i64 0) (.slice none 0 0) 42).alloc (.cells #[.bool true, .int .i64 0, .int .i64 0, .slice none 0 0] 42)
  have r5 := fo_new (w.alloc (.cells #[.bool false, .int .i64 0, .int .i64 0, .slice none 0 0] 42)) (.bool true) (.int .i64 0) (.int .i64 0) (.slice none 0 0) 42
  have e5 : (w.alloc (.cells #[.bool false, .int .i64 0, .int .i64 0, .slice none 0 0] 42)).heap.size = w.heap.size + 1 := by simp
  rw [e5] at r5
  have f0 : Fr (fun k => k = R ∨ w.heap.size ≤ k) w ((w.alloc (.cells #[.bool false, .int .i64 0, .int .i64 0, .slice none 0 0] 42)).alloc (.cells #[.bool true, .int .i64 0, .int .i64 0, .slice none 0 0] 42)) := ((Fr.refl _ w).alloc _).alloc _
  refine (sparse_at R ao n c xs oy s 4 _ hA (by decide)).mono ?_
  rintro e w1 ⟨v, oc, rfl, hv0, hv1, hsp, hA1, hg1⟩
  have g1 := Fr.ofGrown hg1
  have r4' := rowIs_fr r4 g1 (by omega)
  have r5' := rowIs_fr r5 g1 (by omega)
  have f1 : Fr (fun k => k = R ∨ w.heap.size ≤ k) w w1 := f0.trans g1 (fun i _ e => .inl e)
  clear r4 r5 f0 e5 hA g1 hg1
  obtain ⟨p4, hp4⟩ : ∃ p, p = w.heap.size := ⟨_, rfl⟩
  obtain ⟨p5, hp5⟩ : ∃ p, p = w.heap.size + 1 := ⟨_, rfl⟩
  rw [← hp5] at r5' ⊢
  rw [← hp4] at r4' ⊢
  have d1 := r5'.cell (i := 1) (by omega)
  have d2 := r5'.frozen 1
  simp only [fo] at d1
  have r5s := fo_set1 r5' (.int .i64 v)
  have r4s := r4'.setOther (a := ⟨p5, 1, none⟩) (by simp; omega) (.int .i64 v)
  have hsrc := HA0.out.src
  have A1 : At (w1.setCell ⟨p5, 1, none⟩ (.int .i64 v)) R ao n c xs oc := hA1.fr (set_fr w1 ⟨p5, 1, none⟩ _) (by show ¬ R = p5; omega) (fun ad e hn e2 => by have := hsrc ad e hn; have : ad.block = p5 := e2; omega)
  have f2 : Fr (fun k => k = R ∨ w.heap.size ≤ k) w (w1.setCell ⟨p5, 1, none⟩ (.int .i64 v)) := f1.setCell (p := ⟨p5, 1, none⟩) (.inr (by show w.heap.size ≤ p5; omega)) _
  have HP4 : Hid (p4 = w.heap.size) := hp4
  have HP5 : Hid (p5 = w.heap.size + 1) := hp5
  clear hp4 hp5 r4' r5' f1 hA1
  go_wp2_with fail
  generalize w1.setCell ⟨p5, 1, none⟩ (.int .i64 v) = W at *
  refine (sparse_at R ao n c xs oc (s / 16) 3 W A1 (by decide)).mono ?_
  rintro e w2 ⟨v2, oc2, rfl, hu0, hu1, hsp2, hA2, hg2⟩
  have g2 := Fr.ofGrown hg2
  have r4' := rowIs_fr r4s g2 (by have := HP4.out; omega)
  have r5' := rowIs_fr r5s g2 (by have := HP5.out; omega)
  have f3 : Fr (fun k => k = R ∨ w.heap.size ≤ k) w w2 := f2.trans g2 (fun i _ e => .inl e)
  clear r4s r5s f2 A1 g2 hg2 d1 d2
  have d1 := r5'.cell (i := 2) (by omega)
  have d2 := r5'.frozen 2
  simp only [fo] at d1
  have r5s := fo_set2 r5' (.int .i64 v2)
  have r4s := r4'.setOther (a := ⟨p5, 2, none⟩) (by have := HP4.out; have := HP5.out; simp; omega) (.int .i64 v2)
  have A1 : At (w2.setCell ⟨p5, 2, none⟩ (.int .i64 v2)) R ao n c xs oc2 := hA2.fr (set_fr w2 ⟨p5, 2, none⟩ _) (by have := HP5.out; show ¬ R = p5; omega) (fun ad e hn e2 => by have := hsrc ad e hn; have := HP5.out; have : ad.block = p5 := e2; omega)
  have f4 : Fr (fun k => k = R ∨ w.heap.size ≤ k) w (w2.setCell ⟨p5, 2, none⟩ (.int .i64 v2)) := f3.setCell (p := ⟨p5, 2, none⟩) (.inr (by have := HP5.out; show w.heap.size ≤ p5; omega)) _
  have HC : Hid (oy.bind (cpr s) = oc2.map (fun r => (⟨true, v, if v2 = 0 then 65536 else v2, []⟩, r))) := by
    show _ = _
    have e : oy.bind (cpr s) = (oy.bind (spl s 4 0)).bind (fun p => (spl (s / 16) 3 0 p.2).map fun q => (⟨true, p.1, if q.1 = 0 then 65536 else q.1, []⟩, q.2)) := by
      cases oy <;> rfl
    rw [e, hsp]
    cases oc with
    | none =>
      cases oc2 with
      | none => rfl
      | some r => simp at hsp2
    | some r =>
      simp only [Option.bind_some, Option.map_some] at hsp2 ⊢
      rw [hsp2]
      cases oc2 <;> rfl
  clear f3 hA2 r4' r5' hsp hsp2
  by_cases hz : v2 = 0
  · subst hz
    have k1 := r5s.cell (i := 2) (by omega)
    have k2 := r5s.frozen 2
    simp only [fo] at k1
    have r5t := fo_set2 r5s (.int .i64 65536)
    have r4t := r4s.setOther (a := ⟨p5, 2, none⟩) (by have := HP4.out; have := HP5.out; simp; omega) (.int .i64 65536)
    have A2 : At ((w2.setCell ⟨p5, 2, none⟩ (.int .i64 0)).setCell ⟨p5, 2, none⟩ (.int .i64 65536)) R ao n c xs oc2 := A1.fr (set_fr _ ⟨p5, 2, none⟩ _) (by have := HP5.out; show ¬ R = p5; omega) (fun ad e hn e2 => by have := hsrc ad e hn; have := HP5.out; have : ad.block = p5 := e2; omega)
    have f5 : Fr (fun k => k = R ∨ w.heap.size ≤ k) w ((w2.setCell ⟨p5, 2, none⟩ (.int .i64 0)).setCell ⟨p5, 2, none⟩ (.int .i64 65536)) := f4.setCell (p := ⟨p5, 2, none⟩) (.inr (by have := HP5.out; show w.heap.size ≤ p5; omega)) _
    go_wp2_with (first
      | (refine wpList_ld0 rfl 42 _ rfl p5 rfl _ r5t 4 (by omega) Try.underlying42 rfl Try.size42 ?_)
      | (refine wpList_st rfl 42 _ _ rfl p4 rfl _ rfl r4t Try.size42 (fo_one _ _ _ _ rfl rfl rfl rfl) ?_; intro w9 h9 f9))
    have A9 : At w9 R ao n c xs oc2 := A2.fr f9 (by have := HP4.out; omega) (fun ad e hn e2 => by have := hsrc ad e hn; have := HP4.out; omega)
    have f10 : Fr (fun k => k = R ∨ w.heap.size ≤ k) w w9 := f5.trans f9 (fun i _ e => .inr (by have := HP4.out; omega))
    exact bodyPost_ret (results_row rfl _ rfl h9 Try.underlying42 rfl Try.size42) rfl ⟨v, 65536, oc2, rfl, by have := HC.out; simpa using this, A9, grown_fr f10 (fun k hk h => by omega)⟩
  · go_wp2_with (first
      | (refine wpList_ld0 rfl 42 _ rfl p5 rfl _ r5s 4 (by omega) Try.underlying42 rfl Try.size42 ?_)
      | (refine wpList_st rfl 42 _ _ rfl p4 rfl _ rfl r4s Try.size42 (fo_one _ _ _ _ rfl rfl rfl rfl) ?_; intro w9 h9 f9))
    have A9 : At w9 R ao n c xs oc2 := A1.fr f9 (by have := HP4.out; omega) (fun ad e hn e2 => by have := hsrc ad e hn; have := HP4.out; omega)
    have f10 : Fr (fun k => k = R ∨ w.heap.size ≤ k) w w9 := f4.trans f9 (fun i _ e => .inr (by have := HP4.out; omega))
    exact bodyPost_ret (results_row rfl _ rfl h9 Try.underlying42 rfl Try.size42) rfl ⟨v, v2, oc2, rfl, by have := HC.out; simpa [hz] using this, A9, grown_fr f10 (fun k hk h => by omega)⟩

end Go.Proofs.Ythaibdflehnbbaa
