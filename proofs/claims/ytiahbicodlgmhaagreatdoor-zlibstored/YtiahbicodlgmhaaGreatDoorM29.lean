/- ZPutb, ZBlks. -/
import Derived.Test.YtiahbicodlgmhaaGreatDoorM28
/- put: the kind that costs the least. -/
namespace Go.Proofs.YtiahbicodlgmhaaGreatDoor.Z
open Go.RowKit

/-- A kind's cells. -/
def kdc (c p : Nat) : Nat → Value
  | 0 => .func (.func c) #[] #[]
  | _ => .func (.func p) #[] #[]

/-- All kinds'. -/
def kdc6 : Nat → Value
  | 0 => .func (.func 73) #[] #[]
  | 1 => .func (.func 32) #[] #[]
  | 2 => .func (.func 74) #[] #[]
  | 3 => .func (.func 75) #[] #[]
  | 4 => .func (.func 76) #[] #[]
  | _ => .func (.func 77) #[] #[]

theorem kdc_one (c p : Nat) : ∀ j, (kdc c p j).oneCell' = true := by
  intro j
  rcases j with _ | j <;> rfl

theorem size92 : (Tryz.prog.info? 92).map (·.size) = some 2 := by kernel_rfl

theorem kinds_any (w : World) : Calls Tryz.prog 45 #[] w fun e w' => ∃ g, e = .returned (.slice (some ⟨g, 0, none⟩) 3 3) ∧ w'.rowIs g 92 6 kdc6 ∧ w.heap.size ≤ g ∧ Below w.heap.size w w' := by
  go_enter Tryz.func45, Tryz.ntmps45
  go_wp2
  go_ret
  exact ⟨_, rfl, World.rowIs_alloc w _ 92 _ (fun i hi => by simp at hi; rcases i with _ | _ | _ | _ | _ | _ | i <;> first | rfl | omega), Nat.le_refl _, (Below.refl _ _).alloc (Nat.le_refl _) _⟩

/-- What the costs' region keeps. -/
structure Cq (w : World) (C5 K7 g c p k r : Nat) (W : World) : Prop where
  bel : Below w.heap.size w W
  r5 : W.rowIs C5 92 2 (kdc c p)
  r7 : W.rowIs K7 92 2 (kdc k r)
  rg : W.rowIs g 92 6 kdc6

theorem Cq.keep {w : World} {C5 K7 g c p k r : Nat} {W W' : World} (h : Cq w C5 K7 g c p k r W) (hb : Below W.heap.size W W') : Cq w C5 K7 g c p k r W' :=
  ⟨h.bel.trans (hb.mono h.bel.size), h.r5.of_block (hb.block _ h.r5.lt), h.r7.of_block (hb.block _ h.r7.lt), h.rg.of_block (hb.block _ h.rg.lt)⟩

set_option maxRecDepth 100000 in
set_option maxHeartbeats 4000000 in
theorem choose_any (x B Q lo K : Nat) (A : Nat → Prop) (l : List Fd) (da : Option Addr) (N dc : Nat) (last : Bool) (is : List It) (hok : ∀ i ∈ is, i.ok) (sa : Option Addr) (sc g0 g1 f0 f1 T R0 R1 Rb nl nd vn : Nat) (L0 L1 Lc : Nat → Int) (qs : List Cl) (oa oc ca : Nat) (ta : Option Addr) (tc : Nat) (w : World) (h : Bk w x lo K (.slice da N dc) last is sa sc g0 g1 f0 f1 T R0 R1 Rb nl nd vn L0 L1 Lc qs oa oc ca ta tc) (hW : Wz w B Q A l) (hm : (stps is ++ [eos]).length ≤ 1000000) (hN : N ≤ 1000000) (hl : fb l ≤ 100000000) (cs cf ct : Int) (hcs : cs = sct (fb l) N) (hcf : cf = 3 + bct fl 288 dl 32 (stps is ++ [eos])) (hct : ct = 3 + tct Lc vn qs + bct L0 nl L1 nd (stps is ++ [eos])) (R : Ending → World → Prop)
    (hS : cs ≤ cf → cs ≤ ct → ∀ W, Below w.heap.size w W → Calls Tryz.prog 32 #[.pointer (some ⟨x, 0, none⟩), .pointer (some ⟨Q, 0, none⟩)] W fun e w' => e = .returned (.tuple #[]) ∧ R e w')
    (hF : cf < cs → cf ≤ ct → ∀ W, Below w.heap.size w W → Calls Tryz.prog 75 #[.pointer (some ⟨x, 0, none⟩), .pointer (some ⟨Q, 0, none⟩)] W fun e w' => e = .returned (.tuple #[]) ∧ R e w')
    (hT : ct < cs → ct < cf ∨ (cs ≤ cf) → ∀ W, Below w.heap.size w W → Calls Tryz.prog 77 #[.pointer (some ⟨x, 0, none⟩), .pointer (some ⟨Q, 0, none⟩)] W fun e w' => e = .returned (.tuple #[]) ∧ R e w') :
    Calls Tryz.prog 26 #[.pointer (some ⟨x, 0, none⟩), .pointer (some ⟨Q, 0, none⟩)] w fun e w' => e = .returned (.tuple #[]) ∧ R e w' := by
  have hKw := h.x0.K_le
  have hBk : ∀ W, Below w.heap.size w W → Bk W x lo K (.slice da N dc) last is sa sc g0 g1 f0 f1 T R0 R1 Rb nl nd vn L0 L1 Lc qs oa oc ca ta tc := fun W hW => h.mid (Mid.ofBelow (hW.mono hKw))
  have HLN : Hid (∀ W, Below w.heap.size w W → Calls Tryz.prog 46 #[.pointer (some ⟨Q, 0, none⟩)] W fun e w' => e = .returned (.int .i64 (fb l)) ∧ Below W.heap.size W w') := fun W hb => (zlen_any B Q A l W (hW.keep hb) (by omega)).mono (fun e w' hh => ⟨hh.1, by rw [hh.2]; exact (Below.refl _ _).drew⟩)
  have H73 : Hid (∀ W, Below w.heap.size w W → Calls Tryz.prog 73 #[.pointer (some ⟨x, 0, none⟩), .int .i64 (fb l)] W fun e w' => e = .returned (.int .i64 cs) ∧ Below W.heap.size W w') := fun W hb => (scost_any x da N dc (fb l) W ((hBk W hb).row.cell (i := 0) (by omega)) hN (by omega)).mono (fun e w' hh => ⟨by rw [hcs]; exact hh.1, by rw [hh.2]; exact Below.refl _ _⟩)
  have H74 : Hid (∀ W, Below w.heap.size w W → Calls Tryz.prog 74 #[.pointer (some ⟨x, 0, none⟩), .int .i64 (fb l)] W fun e w' => e = .returned (.int .i64 cf) ∧ Below W.heap.size W w') := fun W hb => by rw [hcf]; exact fcost_any x lo K _ last is hok sa sc g0 g1 f0 f1 T R0 R1 Rb nl nd vn L0 L1 Lc qs oa oc ca ta tc W (hBk W hb) (fb l) hm
  have H76 : Hid (∀ W, Below w.heap.size w W → Calls Tryz.prog 76 #[.pointer (some ⟨x, 0, none⟩), .int .i64 (fb l)] W fun e w' => e = .returned (.int .i64 ct) ∧ Below W.heap.size W w') := fun W hb => by rw [hct]; exact tdcost_any x lo K _ last is hok sa sc g0 g1 f0 f1 T R0 R1 Rb nl nd vn L0 L1 Lc qs oa oc ca ta tc W (hBk W hb) (fb l) hm
  have HS : Hid (cs ≤ cf → cs ≤ ct → ∀ W, Below w.heap.size w W → Calls Tryz.prog 32 #[.pointer (some ⟨x, 0, none⟩), .pointer (some ⟨Q, 0, none⟩)] W fun e w' => e = .returned (.tuple #[]) ∧ R e w') := hS
  have HF : Hid (cf < cs → cf ≤ ct → ∀ W, Below w.heap.size w W → Calls Tryz.prog 75 #[.pointer (some ⟨x, 0, none⟩), .pointer (some ⟨Q, 0, none⟩)] W fun e w' => e = .returned (.tuple #[]) ∧ R e w') := hF
  have HT : Hid (ct < cs → ct < cf ∨ (cs ≤ cf) → ∀ W, Below w.heap.size w W → Calls Tryz.prog 77 #[.pointer (some ⟨x, 0, none⟩), .pointer (some ⟨Q, 0, none⟩)] W fun e w' => e = .returned (.tuple #[]) ∧ R e w') := hT
  have hkd := kinds_any w
  clear hok h hW hm hN hl hcs hcf hct hS hF hT hKw hBk
  go_enter Tryz.func26, Tryz.ntmps26
  go_wp2_with fail
  refine hkd.mono ?_
  rintro e w1 ⟨g, rfl, hg, hgs, hb1⟩
  obtain ⟨C5, hC5⟩ : ∃ C5, C5 = w1.heap.size := ⟨_, rfl⟩
  have b2 : Below w1.heap.size w1 (w1.alloc (Obj.cells #[Value.nilFunc, Value.nilFunc] 92)) := (Below.refl _ _).alloc (Nat.le_refl _) _
  have HN5 : Hid ((w1.alloc (Obj.cells #[Value.nilFunc, Value.nilFunc] 92)).rowIs w1.heap.size 92 2 (fun _ => Value.nilFunc)) := World.rowIs_alloc w1 _ 92 _ (fun i hi => by simp at hi; rcases i with _ | _ | i <;> first | rfl | omega)
  have k0 := hg.cell (i := 0) (by omega)
  have k1 := hg.cell (i := 1) (by omega)
  simp only [kdc6] at k0 k1
  have HST0 : Hid (Below w.heap.size w (w1.alloc (Obj.cells #[Value.nilFunc, Value.nilFunc] 92)) ∧ (w1.alloc (Obj.cells #[Value.nilFunc, Value.nilFunc] 92)).rowIs g 92 6 kdc6) := ⟨hb1.trans (b2.mono hb1.size), hg.of_block (b2.block _ hg.lt)⟩
  have HGC : Hid (g ≠ C5 ∧ w.heap.size ≤ C5) := ⟨by have := hg.lt; omega, by rw [hC5]; exact hb1.size⟩
  have HC5E : Hid (C5 = w1.heap.size) := hC5
  clear hkd hg hgs hb1 hC5 b2
  go_wp2_with (refine wpList_st rfl 92 _ _ rfl w1.heap.size rfl (kdc 73 32) rfl HN5.out size92 (kdc_one _ _) ?_; intro W2 h2 f2)
  have HST : Hid (Below w.heap.size w W2 ∧ W2.rowIs g 92 6 kdc6 ∧ W2.rowIs C5 92 2 (kdc 73 32)) := by
    obtain ⟨q1, q2⟩ := HST0.out
    obtain ⟨q3, q4⟩ := HGC.out
    have q5 := HC5E.out
    exact ⟨q1.trans (f2.below _ q1.size (fun i hi e => by omega)), rowIs_fr q2 f2 (fun e => by omega), by rw [q5]; exact h2⟩
  rw [← HC5E.out]
  clear k0 k1 HC5E h2 f2 HN5 HST0
  go_loopw [15] (fun iv wr => Hid (Below w.heap.size w wr) ∧ Hid (wr.rowIs g 92 6 kdc6) ∧ ((iv = .int .i64 0 ∧ Hid (wr.rowIs C5 92 2 (kdc 73 32))) ∨ (iv = .int .i64 1 ∧ Hid (cs ≤ cf) ∧ Hid (wr.rowIs C5 92 2 (kdc 73 32))) ∨ (iv = .int .i64 1 ∧ Hid (cf < cs) ∧ Hid (wr.rowIs C5 92 2 (kdc 74 75))) ∨ (iv = .int .i64 2 ∧ ((Hid (cs ≤ cf ∧ cs ≤ ct) ∧ Hid (wr.rowIs C5 92 2 (kdc 73 32))) ∨ (Hid (cf < cs ∧ cf ≤ ct) ∧ Hid (wr.rowIs C5 92 2 (kdc 74 75))) ∨ (Hid (ct < cs ∧ (ct < cf ∨ cs ≤ cf)) ∧ Hid (wr.rowIs C5 92 2 (kdc 76 77))))))) (fun iv _ => 2 - (intOf iv).toNat)
  case atStart => exact ⟨HST.out.1, HST.out.2.1, .inl ⟨rfl, HST.out.2.2⟩⟩
  case round =>
    clear HST
    obtain ⟨HB, HG, ⟨rfl, HC⟩ | ⟨rfl, HX, HC⟩ | ⟨rfl, HX, HC⟩ | ⟨rfl, ⟨HX, HC⟩ | ⟨HX, HC⟩ | ⟨HX, HC⟩⟩⟩ := hrel
    · skip
      obtain ⟨K7, hK7⟩ : ∃ K7, K7 = wr.heap.size := ⟨_, rfl⟩
      have b1 : Below wr.heap.size wr (wr.alloc (Obj.cells #[Value.nilFunc, Value.nilFunc] 92)) := (Below.refl _ _).alloc (Nat.le_refl _) _
      have HN7 : Hid ((wr.alloc (Obj.cells #[Value.nilFunc, Value.nilFunc] 92)).rowIs wr.heap.size 92 2 (fun _ => Value.nilFunc)) := World.rowIs_alloc wr _ 92 _ (fun i hi => by simp at hi; rcases i with _ | _ | i <;> first | rfl | omega)
      have k0 := HG.out.cell (i := 2) (by omega)
      have k1 := HG.out.cell (i := 3) (by omega)
      simp only [kdc6] at k0 k1
      have HS0 : Hid (Below w.heap.size w (wr.alloc (Obj.cells #[Value.nilFunc, Value.nilFunc] 92)) ∧ (wr.alloc (Obj.cells #[Value.nilFunc, Value.nilFunc] 92)).rowIs C5 92 2 (kdc 73 32) ∧ (wr.alloc (Obj.cells #[Value.nilFunc, Value.nilFunc] 92)).rowIs g 92 6 kdc6 ∧ C5 < wr.heap.size ∧ g < wr.heap.size ∧ w.heap.size ≤ wr.heap.size) := ⟨HB.out.trans (b1.mono HB.out.size), HC.out.of_block (b1.block _ HC.out.lt), HG.out.of_block (b1.block _ HG.out.lt), HC.out.lt, HG.out.lt, HB.out.size⟩
      have HK7 : Hid (∀ W, Cq w C5 K7 g 73 32 74 75 W → W.cell? ⟨K7, 0, none⟩ = some (.func (.func 74) #[] #[])) := fun W hW => hW.r7.cell (i := 0) (by omega)
      have HC5 : Hid (∀ W, Cq w C5 K7 g 73 32 74 75 W → W.cell? ⟨C5, 0, none⟩ = some (.func (.func 73) #[] #[])) := fun W hW => hW.r5.cell (i := 0) (by omega)
      have HLEN : Hid (∀ W, Cq w C5 K7 g 73 32 74 75 W → Calls Tryz.prog 46 #[.pointer (some ⟨Q, 0, none⟩)] W fun e w' => e = .returned (.int .i64 (fb l)) ∧ Cq w C5 K7 g 73 32 74 75 w') := fun W hW => (HLN.out W hW.bel).mono (fun e w' hh => ⟨hh.1, hW.keep hh.2⟩)
      have HFC : Hid (∀ W, Cq w C5 K7 g 73 32 74 75 W → Calls Tryz.prog 74 #[.pointer (some ⟨x, 0, none⟩), .int .i64 (fb l)] W fun e w' => e = .returned (.int .i64 (cf)) ∧ Cq w C5 K7 g 73 32 74 75 w') := fun W hW => (H74.out W hW.bel).mono (fun e w' hh => ⟨hh.1, hW.keep hh.2⟩)
      have HSC : Hid (∀ W, Cq w C5 K7 g 73 32 74 75 W → Calls Tryz.prog 73 #[.pointer (some ⟨x, 0, none⟩), .int .i64 (fb l)] W fun e w' => e = .returned (.int .i64 (cs)) ∧ Cq w C5 K7 g 73 32 74 75 w') := fun W hW => (H73.out W hW.bel).mono (fun e w' hh => ⟨hh.1, hW.keep hh.2⟩)
      have HK7E : Hid (K7 = wr.heap.size) := hK7
      clear hK7 b1 HB HG HC
      go_wp2_with (refine wpList_st rfl 92 _ _ rfl wr.heap.size rfl (kdc 74 75) rfl HN7.out size92 (kdc_one _ _) ?_; intro W1 h1 f1)
      have HCW : Hid (Cq w C5 K7 g 73 32 74 75 W1) := by
        obtain ⟨q1, q2, q3, q4, q5, q6⟩ := HS0.out
        exact ⟨q1.trans (f1.below _ q1.size (fun i hi e => by omega)), rowIs_fr q2 f1 (fun e => by omega), by rw [HK7E.out]; exact h1, rowIs_fr q3 f1 (fun e => by omega)⟩
      rw [← HK7E.out]
      clear k0 k1 h1 f1 HN7
      refine wp_region_quiet (C := fun W => Cq w C5 K7 g 73 32 74 75 W) (by kernel_rfl) (by kernel_rfl) (HCW.out.keep (Below.refl _ _).drew) ?_
      refine wpQuiet_step (fun K hK => ?_)
      (go_simp; refine ⟨_, fun wq hs => rfl, hK _ ?_⟩; clear hK K)
      refine wpQuiet_step (fun K hK => ?_)
      (refine q_load (by rfl) 89 _ rfl ⟨K7, 0, none⟩ rfl (.func (.func 74) #[] #[]) (fun W hW => ld89 (HK7.out W hW)) (hK _ ?_); clear hK K)
      refine wpQuiet_step (fun K hK => ?_)
      (go_simp; refine ⟨_, fun wq hs => rfl, hK _ ?_⟩; clear hK K)
      refine wpQuiet_step (fun K hK => ?_)
      (go_simp; refine ⟨_, fun wq hs => rfl, hK _ ?_⟩; clear hK K)
      refine wpQuiet_step (fun K hK => ?_)
      (refine q_call1 (by rfl) 46 cf46 _ _ rfl (.pointer (some ⟨Q, 0, none⟩)) rfl (.int .i64 (fb l)) HLEN.out (hK _ ?_); clear hK K)
      refine wpQuiet_step (fun K hK => ?_)
      (refine q_callv2 (by rfl) 74 cf74 20 _ _ _ rfl rfl (.pointer (some ⟨x, 0, none⟩)) (.int .i64 (fb l)) rfl rfl (.int .i64 (cf)) HFC.out (hK _ ?_); clear hK K)
      refine wpQuiet_step (fun K hK => ?_)
      (go_simp; refine ⟨_, fun wq hs => rfl, hK _ ?_⟩; clear hK K)
      refine wpQuiet_step (fun K hK => ?_)
      (refine q_load (by rfl) 89 _ rfl ⟨C5, 0, none⟩ rfl (.func (.func 73) #[] #[]) (fun W hW => ld89 (HC5.out W hW)) (hK _ ?_); clear hK K)
      refine wpQuiet_step (fun K hK => ?_)
      (go_simp; refine ⟨_, fun wq hs => rfl, hK _ ?_⟩; clear hK K)
      refine wpQuiet_step (fun K hK => ?_)
      (go_simp; refine ⟨_, fun wq hs => rfl, hK _ ?_⟩; clear hK K)
      refine wpQuiet_step (fun K hK => ?_)
      (refine q_call1 (by rfl) 46 cf46 _ _ rfl (.pointer (some ⟨Q, 0, none⟩)) rfl (.int .i64 (fb l)) HLEN.out (hK _ ?_); clear hK K)
      refine wpQuiet_step (fun K hK => ?_)
      (refine q_callv2 (by rfl) 73 cf73 26 _ _ _ rfl rfl (.pointer (some ⟨x, 0, none⟩)) (.int .i64 (fb l)) rfl rfl (.int .i64 (cs)) HSC.out (hK _ ?_); clear hK K)
      refine wpQuiet_step (fun K hK => ?_)
      (go_simp; refine ⟨_, fun wq hs => rfl, hK _ ?_⟩; clear hK K)
      refine wpQuiet_nil ?_
      intro w3 hC3
      have HC3 : Hid (Cq w C5 K7 g 73 32 74 75 w3 ∧ C5 < K7 ∧ g < K7) := ⟨hC3, by rw [HK7E.out]; exact HS0.out.2.2.2.1, by rw [HK7E.out]; exact HS0.out.2.2.2.2.1⟩
      clear hC3 HCW HS0 HK7E
      by_cases hlt : cf < cs
      · have p0 := HC3.out.1.r7.cell (i := 0) (by omega)
        have p1 := HC3.out.1.r7.cell (i := 1) (by omega)
        simp only [kdc] at p0 p1
        have HLT : Hid (cf < cs) := hlt
        have dl : decide (cf < cs) = true := by simp [hlt]
        go_wp2_with (refine wpList_st rfl 92 _ _ rfl C5 rfl (kdc 74 75) rfl HC3.out.1.r5 size92 (kdc_one _ _) ?_; intro w4 h4 f4)
        have HB4 : Hid (Below w.heap.size w w4) := HC3.out.1.bel.trans (f4.below _ HC3.out.1.bel.size (fun i hi e => by have := HGC.out; omega))
        have HG4 : Hid (w4.rowIs g 92 6 kdc6) := rowIs_fr HC3.out.1.rg f4 (fun e => by have := HGC.out; omega)
        have HC4 : Hid (w4.rowIs C5 92 2 (kdc 74 75)) := h4
        clear p0 p1 h4 f4 HC3
        go_roundw
        case rel => exact ⟨HB4, HG4, .inr (.inr (.inl ⟨rfl, HLT, HC4⟩))⟩
        case measure => simp [intOf]
      · have HLT : Hid (cs ≤ cf) := by show cs ≤ cf; omega
        have dl : decide (cf < cs) = false := by simp [hlt]
        go_wp2
        have HB4 : Hid (Below w.heap.size w w3) := HC3.out.1.bel
        have HG4 : Hid (w3.rowIs g 92 6 kdc6) := HC3.out.1.rg
        have HC4 : Hid (w3.rowIs C5 92 2 (kdc 73 32)) := HC3.out.1.r5
        clear HC3
        go_roundw
        case rel => exact ⟨HB4, HG4, .inr (.inl ⟨rfl, HLT, HC4⟩)⟩
        case measure => simp [intOf]
    · skip
      obtain ⟨K7, hK7⟩ : ∃ K7, K7 = wr.heap.size := ⟨_, rfl⟩
      have b1 : Below wr.heap.size wr (wr.alloc (Obj.cells #[Value.nilFunc, Value.nilFunc] 92)) := (Below.refl _ _).alloc (Nat.le_refl _) _
      have HN7 : Hid ((wr.alloc (Obj.cells #[Value.nilFunc, Value.nilFunc] 92)).rowIs wr.heap.size 92 2 (fun _ => Value.nilFunc)) := World.rowIs_alloc wr _ 92 _ (fun i hi => by simp at hi; rcases i with _ | _ | i <;> first | rfl | omega)
      have k0 := HG.out.cell (i := 4) (by omega)
      have k1 := HG.out.cell (i := 5) (by omega)
      simp only [kdc6] at k0 k1
      have HS0 : Hid (Below w.heap.size w (wr.alloc (Obj.cells #[Value.nilFunc, Value.nilFunc] 92)) ∧ (wr.alloc (Obj.cells #[Value.nilFunc, Value.nilFunc] 92)).rowIs C5 92 2 (kdc 73 32) ∧ (wr.alloc (Obj.cells #[Value.nilFunc, Value.nilFunc] 92)).rowIs g 92 6 kdc6 ∧ C5 < wr.heap.size ∧ g < wr.heap.size ∧ w.heap.size ≤ wr.heap.size) := ⟨HB.out.trans (b1.mono HB.out.size), HC.out.of_block (b1.block _ HC.out.lt), HG.out.of_block (b1.block _ HG.out.lt), HC.out.lt, HG.out.lt, HB.out.size⟩
      have HK7 : Hid (∀ W, Cq w C5 K7 g 73 32 76 77 W → W.cell? ⟨K7, 0, none⟩ = some (.func (.func 76) #[] #[])) := fun W hW => hW.r7.cell (i := 0) (by omega)
      have HC5 : Hid (∀ W, Cq w C5 K7 g 73 32 76 77 W → W.cell? ⟨C5, 0, none⟩ = some (.func (.func 73) #[] #[])) := fun W hW => hW.r5.cell (i := 0) (by omega)
      have HLEN : Hid (∀ W, Cq w C5 K7 g 73 32 76 77 W → Calls Tryz.prog 46 #[.pointer (some ⟨Q, 0, none⟩)] W fun e w' => e = .returned (.int .i64 (fb l)) ∧ Cq w C5 K7 g 73 32 76 77 w') := fun W hW => (HLN.out W hW.bel).mono (fun e w' hh => ⟨hh.1, hW.keep hh.2⟩)
      have HTC : Hid (∀ W, Cq w C5 K7 g 73 32 76 77 W → Calls Tryz.prog 76 #[.pointer (some ⟨x, 0, none⟩), .int .i64 (fb l)] W fun e w' => e = .returned (.int .i64 (ct)) ∧ Cq w C5 K7 g 73 32 76 77 w') := fun W hW => (H76.out W hW.bel).mono (fun e w' hh => ⟨hh.1, hW.keep hh.2⟩)
      have HSC : Hid (∀ W, Cq w C5 K7 g 73 32 76 77 W → Calls Tryz.prog 73 #[.pointer (some ⟨x, 0, none⟩), .int .i64 (fb l)] W fun e w' => e = .returned (.int .i64 (cs)) ∧ Cq w C5 K7 g 73 32 76 77 w') := fun W hW => (H73.out W hW.bel).mono (fun e w' hh => ⟨hh.1, hW.keep hh.2⟩)
      have HK7E : Hid (K7 = wr.heap.size) := hK7
      clear hK7 b1 HB HG HC
      go_wp2_with (refine wpList_st rfl 92 _ _ rfl wr.heap.size rfl (kdc 76 77) rfl HN7.out size92 (kdc_one _ _) ?_; intro W1 h1 f1)
      have HCW : Hid (Cq w C5 K7 g 73 32 76 77 W1) := by
        obtain ⟨q1, q2, q3, q4, q5, q6⟩ := HS0.out
        exact ⟨q1.trans (f1.below _ q1.size (fun i hi e => by omega)), rowIs_fr q2 f1 (fun e => by omega), by rw [HK7E.out]; exact h1, rowIs_fr q3 f1 (fun e => by omega)⟩
      rw [← HK7E.out]
      clear k0 k1 h1 f1 HN7
      refine wp_region_quiet (C := fun W => Cq w C5 K7 g 73 32 76 77 W) (by kernel_rfl) (by kernel_rfl) (HCW.out.keep (Below.refl _ _).drew) ?_
      refine wpQuiet_step (fun K hK => ?_)
      (go_simp; refine ⟨_, fun wq hs => rfl, hK _ ?_⟩; clear hK K)
      refine wpQuiet_step (fun K hK => ?_)
      (refine q_load (by rfl) 89 _ rfl ⟨K7, 0, none⟩ rfl (.func (.func 76) #[] #[]) (fun W hW => ld89 (HK7.out W hW)) (hK _ ?_); clear hK K)
      refine wpQuiet_step (fun K hK => ?_)
      (go_simp; refine ⟨_, fun wq hs => rfl, hK _ ?_⟩; clear hK K)
      refine wpQuiet_step (fun K hK => ?_)
      (go_simp; refine ⟨_, fun wq hs => rfl, hK _ ?_⟩; clear hK K)
      refine wpQuiet_step (fun K hK => ?_)
      (refine q_call1 (by rfl) 46 cf46 _ _ rfl (.pointer (some ⟨Q, 0, none⟩)) rfl (.int .i64 (fb l)) HLEN.out (hK _ ?_); clear hK K)
      refine wpQuiet_step (fun K hK => ?_)
      (refine q_callv2 (by rfl) 76 cf76 20 _ _ _ rfl rfl (.pointer (some ⟨x, 0, none⟩)) (.int .i64 (fb l)) rfl rfl (.int .i64 (ct)) HTC.out (hK _ ?_); clear hK K)
      refine wpQuiet_step (fun K hK => ?_)
      (go_simp; refine ⟨_, fun wq hs => rfl, hK _ ?_⟩; clear hK K)
      refine wpQuiet_step (fun K hK => ?_)
      (refine q_load (by rfl) 89 _ rfl ⟨C5, 0, none⟩ rfl (.func (.func 73) #[] #[]) (fun W hW => ld89 (HC5.out W hW)) (hK _ ?_); clear hK K)
      refine wpQuiet_step (fun K hK => ?_)
      (go_simp; refine ⟨_, fun wq hs => rfl, hK _ ?_⟩; clear hK K)
      refine wpQuiet_step (fun K hK => ?_)
      (go_simp; refine ⟨_, fun wq hs => rfl, hK _ ?_⟩; clear hK K)
      refine wpQuiet_step (fun K hK => ?_)
      (refine q_call1 (by rfl) 46 cf46 _ _ rfl (.pointer (some ⟨Q, 0, none⟩)) rfl (.int .i64 (fb l)) HLEN.out (hK _ ?_); clear hK K)
      refine wpQuiet_step (fun K hK => ?_)
      (refine q_callv2 (by rfl) 73 cf73 26 _ _ _ rfl rfl (.pointer (some ⟨x, 0, none⟩)) (.int .i64 (fb l)) rfl rfl (.int .i64 (cs)) HSC.out (hK _ ?_); clear hK K)
      refine wpQuiet_step (fun K hK => ?_)
      (go_simp; refine ⟨_, fun wq hs => rfl, hK _ ?_⟩; clear hK K)
      refine wpQuiet_nil ?_
      intro w3 hC3
      have HC3 : Hid (Cq w C5 K7 g 73 32 76 77 w3 ∧ C5 < K7 ∧ g < K7) := ⟨hC3, by rw [HK7E.out]; exact HS0.out.2.2.2.1, by rw [HK7E.out]; exact HS0.out.2.2.2.2.1⟩
      clear hC3 HCW HS0 HK7E
      by_cases hlt : ct < cs
      · have p0 := HC3.out.1.r7.cell (i := 0) (by omega)
        have p1 := HC3.out.1.r7.cell (i := 1) (by omega)
        simp only [kdc] at p0 p1
        have HLT : Hid (ct < cs) := hlt
        have dl : decide (ct < cs) = true := by simp [hlt]
        go_wp2_with (refine wpList_st rfl 92 _ _ rfl C5 rfl (kdc 76 77) rfl HC3.out.1.r5 size92 (kdc_one _ _) ?_; intro w4 h4 f4)
        have HB4 : Hid (Below w.heap.size w w4) := HC3.out.1.bel.trans (f4.below _ HC3.out.1.bel.size (fun i hi e => by have := HGC.out; omega))
        have HG4 : Hid (w4.rowIs g 92 6 kdc6) := rowIs_fr HC3.out.1.rg f4 (fun e => by have := HGC.out; omega)
        have HC4 : Hid (w4.rowIs C5 92 2 (kdc 76 77)) := h4
        clear p0 p1 h4 f4 HC3
        go_roundw
        case rel => exact ⟨HB4, HG4, .inr (.inr (.inr ⟨rfl, .inr (.inr ⟨⟨HLT.out, .inr HX.out⟩, HC4⟩)⟩))⟩
        case measure => simp [intOf]
      · have HLT : Hid (cs ≤ ct) := by show cs ≤ ct; omega
        have dl : decide (ct < cs) = false := by simp [hlt]
        go_wp2
        have HB4 : Hid (Below w.heap.size w w3) := HC3.out.1.bel
        have HG4 : Hid (w3.rowIs g 92 6 kdc6) := HC3.out.1.rg
        have HC4 : Hid (w3.rowIs C5 92 2 (kdc 73 32)) := HC3.out.1.r5
        clear HC3
        go_roundw
        case rel => exact ⟨HB4, HG4, .inr (.inr (.inr ⟨rfl, .inl ⟨⟨HX.out, HLT.out⟩, HC4⟩⟩))⟩
        case measure => simp [intOf]
    · skip
      obtain ⟨K7, hK7⟩ : ∃ K7, K7 = wr.heap.size := ⟨_, rfl⟩
      have b1 : Below wr.heap.size wr (wr.alloc (Obj.cells #[Value.nilFunc, Value.nilFunc] 92)) := (Below.refl _ _).alloc (Nat.le_refl _) _
      have HN7 : Hid ((wr.alloc (Obj.cells #[Value.nilFunc, Value.nilFunc] 92)).rowIs wr.heap.size 92 2 (fun _ => Value.nilFunc)) := World.rowIs_alloc wr _ 92 _ (fun i hi => by simp at hi; rcases i with _ | _ | i <;> first | rfl | omega)
      have k0 := HG.out.cell (i := 4) (by omega)
      have k1 := HG.out.cell (i := 5) (by omega)
      simp only [kdc6] at k0 k1
      have HS0 : Hid (Below w.heap.size w (wr.alloc (Obj.cells #[Value.nilFunc, Value.nilFunc] 92)) ∧ (wr.alloc (Obj.cells #[Value.nilFunc, Value.nilFunc] 92)).rowIs C5 92 2 (kdc 74 75) ∧ (wr.alloc (Obj.cells #[Value.nilFunc, Value.nilFunc] 92)).rowIs g 92 6 kdc6 ∧ C5 < wr.heap.size ∧ g < wr.heap.size ∧ w.heap.size ≤ wr.heap.size) := ⟨HB.out.trans (b1.mono HB.out.size), HC.out.of_block (b1.block _ HC.out.lt), HG.out.of_block (b1.block _ HG.out.lt), HC.out.lt, HG.out.lt, HB.out.size⟩
      have HK7 : Hid (∀ W, Cq w C5 K7 g 74 75 76 77 W → W.cell? ⟨K7, 0, none⟩ = some (.func (.func 76) #[] #[])) := fun W hW => hW.r7.cell (i := 0) (by omega)
      have HC5 : Hid (∀ W, Cq w C5 K7 g 74 75 76 77 W → W.cell? ⟨C5, 0, none⟩ = some (.func (.func 74) #[] #[])) := fun W hW => hW.r5.cell (i := 0) (by omega)
      have HLEN : Hid (∀ W, Cq w C5 K7 g 74 75 76 77 W → Calls Tryz.prog 46 #[.pointer (some ⟨Q, 0, none⟩)] W fun e w' => e = .returned (.int .i64 (fb l)) ∧ Cq w C5 K7 g 74 75 76 77 w') := fun W hW => (HLN.out W hW.bel).mono (fun e w' hh => ⟨hh.1, hW.keep hh.2⟩)
      have HTC : Hid (∀ W, Cq w C5 K7 g 74 75 76 77 W → Calls Tryz.prog 76 #[.pointer (some ⟨x, 0, none⟩), .int .i64 (fb l)] W fun e w' => e = .returned (.int .i64 (ct)) ∧ Cq w C5 K7 g 74 75 76 77 w') := fun W hW => (H76.out W hW.bel).mono (fun e w' hh => ⟨hh.1, hW.keep hh.2⟩)
      have HFC : Hid (∀ W, Cq w C5 K7 g 74 75 76 77 W → Calls Tryz.prog 74 #[.pointer (some ⟨x, 0, none⟩), .int .i64 (fb l)] W fun e w' => e = .returned (.int .i64 (cf)) ∧ Cq w C5 K7 g 74 75 76 77 w') := fun W hW => (H74.out W hW.bel).mono (fun e w' hh => ⟨hh.1, hW.keep hh.2⟩)
      have HK7E : Hid (K7 = wr.heap.size) := hK7
      clear hK7 b1 HB HG HC
      go_wp2_with (refine wpList_st rfl 92 _ _ rfl wr.heap.size rfl (kdc 76 77) rfl HN7.out size92 (kdc_one _ _) ?_; intro W1 h1 f1)
      have HCW : Hid (Cq w C5 K7 g 74 75 76 77 W1) := by
        obtain ⟨q1, q2, q3, q4, q5, q6⟩ := HS0.out
        exact ⟨q1.trans (f1.below _ q1.size (fun i hi e => by omega)), rowIs_fr q2 f1 (fun e => by omega), by rw [HK7E.out]; exact h1, rowIs_fr q3 f1 (fun e => by omega)⟩
      rw [← HK7E.out]
      clear k0 k1 h1 f1 HN7
      refine wp_region_quiet (C := fun W => Cq w C5 K7 g 74 75 76 77 W) (by kernel_rfl) (by kernel_rfl) (HCW.out.keep (Below.refl _ _).drew) ?_
      refine wpQuiet_step (fun K hK => ?_)
      (go_simp; refine ⟨_, fun wq hs => rfl, hK _ ?_⟩; clear hK K)
      refine wpQuiet_step (fun K hK => ?_)
      (refine q_load (by rfl) 89 _ rfl ⟨K7, 0, none⟩ rfl (.func (.func 76) #[] #[]) (fun W hW => ld89 (HK7.out W hW)) (hK _ ?_); clear hK K)
      refine wpQuiet_step (fun K hK => ?_)
      (go_simp; refine ⟨_, fun wq hs => rfl, hK _ ?_⟩; clear hK K)
      refine wpQuiet_step (fun K hK => ?_)
      (go_simp; refine ⟨_, fun wq hs => rfl, hK _ ?_⟩; clear hK K)
      refine wpQuiet_step (fun K hK => ?_)
      (refine q_call1 (by rfl) 46 cf46 _ _ rfl (.pointer (some ⟨Q, 0, none⟩)) rfl (.int .i64 (fb l)) HLEN.out (hK _ ?_); clear hK K)
      refine wpQuiet_step (fun K hK => ?_)
      (refine q_callv2 (by rfl) 76 cf76 20 _ _ _ rfl rfl (.pointer (some ⟨x, 0, none⟩)) (.int .i64 (fb l)) rfl rfl (.int .i64 (ct)) HTC.out (hK _ ?_); clear hK K)
      refine wpQuiet_step (fun K hK => ?_)
      (go_simp; refine ⟨_, fun wq hs => rfl, hK _ ?_⟩; clear hK K)
      refine wpQuiet_step (fun K hK => ?_)
      (refine q_load (by rfl) 89 _ rfl ⟨C5, 0, none⟩ rfl (.func (.func 74) #[] #[]) (fun W hW => ld89 (HC5.out W hW)) (hK _ ?_); clear hK K)
      refine wpQuiet_step (fun K hK => ?_)
      (go_simp; refine ⟨_, fun wq hs => rfl, hK _ ?_⟩; clear hK K)
      refine wpQuiet_step (fun K hK => ?_)
      (go_simp; refine ⟨_, fun wq hs => rfl, hK _ ?_⟩; clear hK K)
      refine wpQuiet_step (fun K hK => ?_)
      (refine q_call1 (by rfl) 46 cf46 _ _ rfl (.pointer (some ⟨Q, 0, none⟩)) rfl (.int .i64 (fb l)) HLEN.out (hK _ ?_); clear hK K)
      refine wpQuiet_step (fun K hK => ?_)
      (refine q_callv2 (by rfl) 74 cf74 26 _ _ _ rfl rfl (.pointer (some ⟨x, 0, none⟩)) (.int .i64 (fb l)) rfl rfl (.int .i64 (cf)) HFC.out (hK _ ?_); clear hK K)
      refine wpQuiet_step (fun K hK => ?_)
      (go_simp; refine ⟨_, fun wq hs => rfl, hK _ ?_⟩; clear hK K)
      refine wpQuiet_nil ?_
      intro w3 hC3
      have HC3 : Hid (Cq w C5 K7 g 74 75 76 77 w3 ∧ C5 < K7 ∧ g < K7) := ⟨hC3, by rw [HK7E.out]; exact HS0.out.2.2.2.1, by rw [HK7E.out]; exact HS0.out.2.2.2.2.1⟩
      clear hC3 HCW HS0 HK7E
      by_cases hlt : ct < cf
      · have p0 := HC3.out.1.r7.cell (i := 0) (by omega)
        have p1 := HC3.out.1.r7.cell (i := 1) (by omega)
        simp only [kdc] at p0 p1
        have HLT : Hid (ct < cf) := hlt
        have dl : decide (ct < cf) = true := by simp [hlt]
        go_wp2_with (refine wpList_st rfl 92 _ _ rfl C5 rfl (kdc 76 77) rfl HC3.out.1.r5 size92 (kdc_one _ _) ?_; intro w4 h4 f4)
        have HB4 : Hid (Below w.heap.size w w4) := HC3.out.1.bel.trans (f4.below _ HC3.out.1.bel.size (fun i hi e => by have := HGC.out; omega))
        have HG4 : Hid (w4.rowIs g 92 6 kdc6) := rowIs_fr HC3.out.1.rg f4 (fun e => by have := HGC.out; omega)
        have HC4 : Hid (w4.rowIs C5 92 2 (kdc 76 77)) := h4
        clear p0 p1 h4 f4 HC3
        go_roundw
        case rel => exact ⟨HB4, HG4, .inr (.inr (.inr ⟨rfl, .inr (.inr ⟨⟨by have := HX.out; have := HLT.out; omega, .inl HLT.out⟩, HC4⟩)⟩))⟩
        case measure => simp [intOf]
      · have HLT : Hid (cf ≤ ct) := by show cf ≤ ct; omega
        have dl : decide (ct < cf) = false := by simp [hlt]
        go_wp2
        have HB4 : Hid (Below w.heap.size w w3) := HC3.out.1.bel
        have HG4 : Hid (w3.rowIs g 92 6 kdc6) := HC3.out.1.rg
        have HC4 : Hid (w3.rowIs C5 92 2 (kdc 74 75)) := HC3.out.1.r5
        clear HC3
        go_roundw
        case rel => exact ⟨HB4, HG4, .inr (.inr (.inr ⟨rfl, .inr (.inl ⟨⟨HX.out, HLT.out⟩, HC4⟩)⟩))⟩
        case measure => simp [intOf]
    · skip
      have p1 := HC.out.cell (i := 1) (by omega)
      simp only [kdc] at p1
      have hc := HS.out HX.out.1 HX.out.2 wr HB.out
      go_wp2_with (go_at_call 32; refine hc.mono ?_; rintro e w5 ⟨rfl, h5⟩)
      go_end0
      exact ⟨rfl, h5⟩
    · skip
      have p1 := HC.out.cell (i := 1) (by omega)
      simp only [kdc] at p1
      have hc := HF.out HX.out.1 HX.out.2 wr HB.out
      go_wp2_with (go_at_call 75; refine hc.mono ?_; rintro e w5 ⟨rfl, h5⟩)
      go_end0
      exact ⟨rfl, h5⟩
    · skip
      have p1 := HC.out.cell (i := 1) (by omega)
      simp only [kdc] at p1
      have hc := HT.out HX.out.1 HX.out.2 wr HB.out
      go_wp2_with (go_at_call 77; refine hc.mono ?_; rintro e w5 ⟨rfl, h5⟩)
      go_end0
      exact ⟨rfl, h5⟩

end Go.Proofs.YtiahbicodlgmhaaGreatDoor.Z

/- newBlocks, where all tokens fit one block. -/
namespace Go.Proofs.YtiahbicodlgmhaaGreatDoor.Z
open Go.RowKit

theorem sl45a (ao : Option Addr) (n c : Nat) (h : n ≤ c) (hn : ao = none → n = 0 ∧ c = 0) (W : World) : (Instr.slice 45 (.slice ao n c) none (some (.int .i64 n)) none).run Tryz.prog W = .ok (.slice ao n c) W := by
  cases ao with
  | none =>
    obtain ⟨rfl, rfl⟩ := hn rfl
    simp [go_sem, Instr.slice, Instr.sliceBounds, Instr.sliceBound]
  | some ad =>
    simp [go_sem, Instr.slice, Instr.sliceBounds, Instr.sliceBound]
    intro h'
    omega

theorem sl45b (ao : Option Addr) (n c : Nat) (h : n ≤ c) (hn : ao = none → n = 0 ∧ c = 0) : ∃ a, ∀ W, (Instr.slice 45 (.slice ao n c) (some (.int .i64 n)) none none).run Tryz.prog W = .ok (.slice a 0 (c - n)) W := by
  cases ao with
  | none =>
    obtain ⟨rfl, rfl⟩ := hn rfl
    exact ⟨none, fun W => by simp [go_sem, Instr.slice, Instr.sliceBounds, Instr.sliceBound]⟩
  | some ad =>
    exact ⟨if c = n then some ad else some (ad.add (n * 3)), fun W => by simp [go_sem, Instr.slice, Instr.sliceBounds, Instr.sliceBound]⟩

theorem Bk.wide {w : World} {x lo lo' K K' : Nat} {d : Value} {last : Bool} {is : List It} {sa : Option Addr} {sc g0 g1 f0 f1 T R0 R1 Rb nl nd vn : Nat} {L0 L1 Lc : Nat → Int} {qs : List Cl} {oa oc ca : Nat} {ta : Option Addr} {tc : Nat} (h : Bk w x lo K d last is sa sc g0 g1 f0 f1 T R0 R1 Rb nl nd vn L0 L1 Lc qs oa oc ca ta tc) (hl : lo' ≤ lo) (hk : K ≤ K') (hw : K' ≤ w.heap.size) : Bk w x lo' K' d last is sa sc g0 g1 f0 f1 T R0 R1 Rb nl nd vn L0 L1 Lc qs oa oc ca ta tc :=
  ⟨h.row, h.ss, h.c0, h.c1, (h.x0.lower hl).upper hk hw, (h.x1.lower hl).upper hk hw, h.tg.wide hl hk hw, ⟨by have := h.bx; omega, by have := h.bx; omega⟩, fun ad had => ⟨by have := h.bs ad had; omega, by have := h.bs ad had; omega⟩, ⟨by have := h.b0; omega, by have := h.b0; omega⟩, ⟨by have := h.b1; omega, by have := h.b1; omega⟩⟩

set_option maxRecDepth 100000 in
set_option maxHeartbeats 4000000 in
theorem newBlocks_any (da : Option Addr) (N dc : Nat) (bs : List Int) (ao : Option Addr) (n c : Nat) (ts : List Lzz.Tok) (w : World) (hr : Rd w da N dc bs) (h : Lzz.Tk w ao n ts) (hnc : n ≤ c) (hnn : ao = none → n = 0 ∧ c = 0) (hn : n ≤ 16384) (hN : N ≤ 16384) (hf : Lzz.Fnd bs N ts) (hT : Tab w 1) :
    Calls Tryz.prog 24 #[.slice da N dc, .slice ao n c] w fun e w' => ∃ g cap x is da' dc', e = .returned (.slice (some ⟨g, 0, none⟩) 1 cap) ∧ w'.cell? ⟨g, 0, none⟩ = some (.pointer (some ⟨x, 0, none⟩)) ∧ (∀ W, Rd W da N dc bs → Rd W da' N dc' bs) ∧ Its ts is ∧ (∃ K sa sc g0 g1 f0 f1 T R0 R1 Rb nl nd vn L0 L1 Lc qs oa oc ca ta tc, K ≤ w'.heap.size ∧ Bk w' x w.heap.size K (.slice da' N dc') true is sa sc g0 g1 f0 f1 T R0 R1 Rb nl nd vn L0 L1 Lc qs oa oc ca ta tc) ∧ Below w.heap.size w w' := by
  have hsz := Lzz.size_all ao n c ts w h (by omega)
  have htot := hf.all
  rw [htot, show min N 262145 = N by omega] at hsz
  have hlen := hr.len
  have e1 := sl45a ao n c hnc hnn
  obtain ⟨a2, e2⟩ := sl45b ao n c hnc hnn
  have e3 : ∀ W, Rd W da N dc bs → (Instr.slice 22 (.slice da N dc) none (some (.int .i64 N)) none).run Tryz.prog W = .ok (.slice (if dc = 0 then da else Option.map (fun x => x.add 0) da) N (dc - 0)) W := fun W hW => Sum.run_sub (p := 0) (m := N) hW (by omega) none (some (.int .i64 N)) (.inr ⟨rfl, rfl⟩) (.inl (by rw [Nat.zero_add]))
  have e4 : ∀ W, Rd W da N dc bs → (Instr.slice 22 (.slice da N dc) (some (.int .i64 N)) none none).run Tryz.prog W = .ok (.slice (if dc = N then da else Option.map (fun x => x.add N) da) 0 (dc - N)) W := fun W hW => Sum.run_sub (p := N) (m := 0) hW (by omega) (some (.int .i64 N)) none (.inl rfl) (.inr ⟨rfl, rfl⟩)
  obtain ⟨da', hda'⟩ : ∃ da', da' = (if dc = 0 then da else Option.map (fun x => x.add 0) da) := ⟨_, rfl⟩
  obtain ⟨da2, hda2⟩ : ∃ da2, da2 = (if dc = N then da else Option.map (fun x => x.add N) da) := ⟨_, rfl⟩
  rw [← hda'] at e3
  rw [← hda2] at e4
  have HSUB : Hid (∀ W, Rd W da N dc bs → Rd W da' N (dc - 0) bs) := fun W hW => by
    have := hW.sub 0 N (by omega)
    rw [List.drop_zero, List.take_of_length_le (by omega), ← hda'] at this
    exact this
  have HRD : Hid (∀ W, Below w.heap.size w W → Rd W da N dc bs) := fun W hW => hr.keep hW
  have HE3 : Hid (∀ W, Rd W da N dc bs → (Instr.slice 22 (.slice da N dc) none (some (.int .i64 N)) none).run Tryz.prog W = .ok (.slice da' N (dc - 0)) W) := e3
  have HE4 : Hid (∀ W, Rd W da N dc bs → (Instr.slice 22 (.slice da N dc) (some (.int .i64 N)) none none).run Tryz.prog W = .ok (.slice da2 0 (dc - N)) W) := e4
  have HTK : Hid (Lzz.Tk w ao n ts) := h
  have HOK : Hid (∀ t ∈ ts, okS t) := fnd_okS hf
  have HT : Hid (Tab w 1) := hT
  have HMN : Hid ((n : Int) = min (n : Int) 16384) := by show (n : Int) = min (n : Int) 16384; omega
  clear hr h hnc hnn hf hT htot hlen e3 e4 hda' hda2
  go_enter Tryz.func24, Tryz.ntmps24
  go_wp2_with fail
  go_loopg [0, 1, 5, 6] 1 (fun gk bv tv lv ev wr => (ev = .bool false ∧ gk = 1 ∧ bv = .slice da N dc ∧ tv = .slice ao n c ∧ lv = .slice none 0 0 ∧ wr = w) ∨ (ev = .bool true ∧ ∃ g cap x is, lv = .slice (some ⟨g, 0, none⟩) 1 cap ∧ Hid (wr.cell? ⟨g, 0, none⟩ = some (.pointer (some ⟨x, 0, none⟩)) ∧ Its ts is ∧ (∃ K sa sc g0 g1 f0 f1 T R0 R1 Rb nl nd vn L0 L1 Lc qs oa oc ca ta tc, K ≤ wr.heap.size ∧ Bk wr x w.heap.size K (.slice da' N (dc - 0)) true is sa sc g0 g1 f0 f1 T R0 R1 Rb nl nd vn L0 L1 Lc qs oa oc ca ta tc) ∧ Below w.heap.size w wr)))
  case atStart => exact .inl ⟨rfl, rfl, rfl, rfl, rfl, rfl⟩
  case round =>
    rcases hrel with ⟨rfl, hgk, rfl, rfl, rfl, rfl⟩ | ⟨rfl, g, cap, x, is, rfl, HR⟩
    · go_wp2_with (first
        | (refine Lzz.wpList_min rfl 3 _ _ rfl (n : Int) 16384 rfl rfl (n : Int) HMN.out ?_)
        | (go_at_call 38; refine hsz.mono ?_; rintro e w1 ⟨rfl, hb1⟩))
      have q1 := HE3.out w1.drew (HRD.out _ hb1.drew)
      have hnb := newBlock_any da' N (dc - 0) ao n c ts true w1.drew ((HTK.out.keep hb1.drew)) (by omega) HOK.out (fun j hj => by
        have := HT.out j hj
        rw [hb1.drew.cell (World.block_lt_of_cell? _ _ this)]
        exact this)
      go_region_with (go_at_call 39; refine hnb.mono ?_; rintro e w2 ⟨x, is, rfl, hits, hbk, hb2⟩)
      simp only [List.getElem_toArray, List.getElem_cons_zero, List.getElem_cons_succ, Act.put, List.setIfInBounds_toArray, List.set_cons_zero, List.set_cons_succ]
      obtain ⟨cap, hcap⟩ : ∃ cap, cap = (Question.appendCap 1 0 47).cut (w2.tape w2.drawn (Question.appendCap 1 0 47)) := ⟨_, rfl⟩
      rw [← hcap]
      obtain ⟨zs, hzs⟩ : ∃ zs, zs = #[Value.pointer (some ⟨x, 0, none⟩)] ++ Builtin.zeroCells #[Value.pointer none] (cap - 1) := ⟨_, rfl⟩
      obtain ⟨W3, hW3⟩ : ∃ W3, W3 = ((w2.alloc (Obj.cells #[Value.pointer (some ⟨x, 0, none⟩)] 47)).alloc (Obj.cells zs 47)).drew := ⟨_, rfl⟩
      have b3 : Below w2.heap.size w2 W3 := by
        rw [hW3]
        have e1 : Below w2.heap.size w2 (w2.alloc (Obj.cells #[Value.pointer (some ⟨x, 0, none⟩)] 47)) := (Below.refl _ _).alloc (Nat.le_refl _) _
        exact (e1.alloc e1.size _).drew
      have hc3 : W3.cell? ⟨w2.heap.size + 1, 0, none⟩ = some (.pointer (some ⟨x, 0, none⟩)) := by
        have hz0 : zs[0]? = some (.pointer (some ⟨x, 0, none⟩)) := by rw [hzs, Array.getElem?_append_left (by simp)]; rfl
        have hr := (World.rowIs_alloc (w2.alloc (Obj.cells #[Value.pointer (some ⟨x, 0, none⟩)] 47)) zs 47 (fun j => zs.getD j undef) (fun i hi => by simp [hi])).drew
        have h0 : 0 < zs.size := by rw [hzs]; simp; omega
        have := hr.cell (i := 0) h0
        rw [← hW3, show (w2.alloc (Obj.cells #[Value.pointer (some ⟨x, 0, none⟩)] 47)).heap.size = w2.heap.size + 1 by simp] at this
        rw [this]
        simp [hz0]
      have B2 := hb1.drew.trans (hb2.mono hb1.drew.size)
      have B3 := B2.trans (b3.mono B2.size)
      have HRES : Hid (W3.drew.cell? ⟨w2.heap.size + 1, 0, none⟩ = some (.pointer (some ⟨x, 0, none⟩)) ∧ Its ts is ∧ (∃ K sa sc g0 g1 f0 f1 T R0 R1 Rb nl nd vn L0 L1 Lc qs oa oc ca ta tc, K ≤ W3.drew.heap.size ∧ Bk W3.drew x wr.heap.size K (.slice da' N (dc - 0)) true is sa sc g0 g1 f0 f1 T R0 R1 Rb nl nd vn L0 L1 Lc qs oa oc ca ta tc) ∧ Below wr.heap.size wr W3.drew) := by
        obtain ⟨sa, sc, g0, g1, f0, f1, T, R0, R1, Rb, nl, nd, vn, L0, L1, Lc, qs, oa, oc, ca, ta, tc, hbk⟩ := hbk
        refine ⟨hc3, hits, ⟨w2.heap.size, sa, sc, g0, g1, f0, f1, T, R0, R1, Rb, nl, nd, vn, L0, L1, Lc, qs, oa, oc, ca, ta, tc, b3.drew.size, ?_⟩, B3.drew⟩
        have := hbk.mid (Mid.ofBelow b3.drew)
        exact this.wide hb1.drew.size (Nat.le_refl _) b3.drew.size
      have q2 := HE4.out W3.drew (HRD.out _ B3.drew)
      rw [← hzs, ← hW3]
      clear hsz hnb hb1 hb2 hbk hits q1 hcap hzs hW3 b3 hc3 B2 B3
      by_cases hdc : dc = N
      all_goals
        go_wp2_with fail
        go_region
        go_wp2
        go_roundg 0
        case measure => omega
        case rel => exact .inr ⟨rfl, w2.heap.size + 1, cap, x, is, rfl, HRES⟩
    · obtain ⟨q1, q2, q3, q4⟩ := HR.out
      clear HR
      go_wp2
      go_ret
      exact ⟨g, cap, x, is, da', dc - 0, rfl, q1, HSUB.out, q2, q3, q4⟩

end Go.Proofs.YtiahbicodlgmhaaGreatDoor.Z
