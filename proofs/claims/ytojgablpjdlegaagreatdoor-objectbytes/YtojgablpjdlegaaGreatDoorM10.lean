/- ObF, WSearch, WFd, XLess, XRow, XOf, XFind. -/
import Derived.Test.YtojgablpjdlegaaGreatDoorM09
import Derived.Test.YtojgablpjdlegaaGreatDoorM05
import Derived.Test.YtojgablpjdlegaaGreatDoorM03
/- May a commit be? (Without parents.) -/
namespace Go.Proofs.YtojgablpjdlegaaGreatDoor
open Go.RowKit

theorem load_cell {w : World} {b i t n : Nat} {f : Nat → Value} (h : w.rowIs b t n f) (hi : i < n) (ty : TypeId) (v : Value) (hv : f i = v) (hl : ∀ W, W.cell? ⟨b, i, none⟩ = some v → (loadVar ty ⟨b, i, none⟩).run Tryz.prog W = .ok v W) : (loadVar ty ⟨b, i, none⟩).run Tryz.prog w = .ok v w :=
  hl w (by rw [← hv]; exact h.cell hi)

theorem ld9 (W : World) (ad : Addr) (s : ByteArray) (h : W.cell? ad = some (.string s)) : (loadVar 9 ad).run Tryz.prog W = .ok (.string s) W := by simp [go_sem, h]

theorem ld45 (W : World) (ad : Addr) (a : Option Addr) (n c : Nat) (h : W.cell? ad = some (.slice a n c)) : (loadVar 45 ad).run Tryz.prog W = .ok (.slice a n c) W := by simp [go_sem, h]

set_option maxRecDepth 100000 in
set_option maxHeartbeats 2000000 in
theorem mayBe0 (t : List Int) (a c m : List UInt8) (w : World) (ha : ∀ W, Calls Tryz.prog 101 #[sv a, .int .i64 200] W fun e w' => e = .returned (.bool true) ∧ Below W.heap.size W w') (hc : ∀ W, Calls Tryz.prog 101 #[sv c, .int .i64 200] W fun e w' => e = .returned (.bool true) ∧ Below W.heap.size W w') :
    Calls Tryz.prog 73 #[cmv t (.slice none 0 0) a c m] w fun e w' => e = .returned (.bool true) ∧ Below w.heap.size w w' := by
  have hz := zero47
  obtain ⟨W, hW⟩ : ∃ W, W = w.alloc (Obj.cells (vals (cf t (.slice none 0 0) a c m) 24).toArray 47) := ⟨_, rfl⟩
  have r1 : W.rowIs w.heap.size 47 24 (cf t (.slice none 0 0) a c m) := by rw [hW]; exact rowIs_vals _ _ _ _
  have HB : Hid (Below w.heap.size w W) := by rw [hW]; exact new_below _ _
  have H : Hid (∀ V, Below W.heap.size W V → (loadVar 9 ⟨w.heap.size, 21, none⟩).run Tryz.prog V = .ok (sv a) V ∧ Calls Tryz.prog 101 #[sv a, .int .i64 200] V (fun e w' => e = .returned (.bool true) ∧ Below W.heap.size W w') ∧ (loadVar 9 ⟨w.heap.size, 22, none⟩).run Tryz.prog V = .ok (sv c) V ∧ Calls Tryz.prog 101 #[sv c, .int .i64 200] V (fun e w' => e = .returned (.bool true) ∧ Below W.heap.size W w') ∧ (loadVar 45 ⟨w.heap.size, 20, none⟩).run Tryz.prog V = .ok (.slice none 0 0) V ∧ Calls Tryz.prog 61 #[.slice none 0 0] V (fun e w' => e = .returned (.slice none 0 0) ∧ Below W.heap.size W w')) := fun V hV => by
    have rV := rowIs_fr (P := fun _ => False) r1 (Fr.ofBelow hV) (fun h => h)
    exact ⟨ld9 V _ _ (rV.cell (i := 21) (by omega)), (ha V).mono (fun e w' ⟨h1, h2⟩ => ⟨h1, hV.trans (h2.mono hV.size)⟩), ld9 V _ _ (rV.cell (i := 22) (by omega)), (hc V).mono (fun e w' ⟨h1, h2⟩ => ⟨h1, hV.trans (h2.mono hV.size)⟩), ld45 V _ _ _ _ (rV.cell (i := 20) (by omega)), (sort_nil V).mono (fun e w' ⟨h1, h2⟩ => ⟨h1, by rw [h2]; exact hV⟩)⟩
  have c101 : Hid (∀ vs w, (callFunc 101 vs).run Tryz.prog w = .ok (.enter 101 vs) w) := fun vs w => by simp [go_sem]
  have c61 : Hid (∀ vs w, (callFunc 61 vs).run Tryz.prog w = .ok (.enter 61 vs) w) := fun vs w => by simp [go_sem]
  clear ha hc r1
  go_enter Tryz.func73, Tryz.ntmps73
  go_wp2_with fail
  rw [← hW]
  clear hW
  refine wp_region_quiet (C := fun V => Below W.heap.size W V) (by kernel_rfl) (by kernel_rfl) (Below.refl _ _).drew ?_
  refine wpQuiet_step (fun K hK => ?_)
  (go_simp; refine ⟨_, fun wq hs => rfl, hK _ ?_⟩; clear hK K)
  refine wpQuiet_step (fun K hK => ?_)
  (refine q_load (by rfl) 9 _ rfl ⟨w.heap.size, 21, none⟩ rfl (sv a) (fun V hV => (H.out V hV).1) (hK _ ?_); clear hK K)
  refine wpQuiet_step (fun K hK => ?_)
  (refine q_call2 (by rfl) 101 c101.out _ _ _ rfl (sv a) (.int .i64 200) rfl rfl (.bool true) (fun V hV => (H.out V hV).2.1) (hK _ ?_); clear hK K)
  refine wpQuiet_step (fun K hK => ?_)
  (go_simp; refine ⟨_, fun wq hs => rfl, hK _ ?_⟩; clear hK K)
  refine wpQuiet_step (fun K hK => ?_)
  (go_simp; refine ⟨_, fun wq hs => rfl, hK _ ?_⟩; clear hK K)
  refine wpQuiet_step (fun K hK => ?_)
  (refine q_load (by rfl) 9 _ rfl ⟨w.heap.size, 22, none⟩ rfl (sv c) (fun V hV => (H.out V hV).2.2.1) (hK _ ?_); clear hK K)
  refine wpQuiet_step (fun K hK => ?_)
  (refine q_call2 (by rfl) 101 c101.out _ _ _ rfl (sv c) (.int .i64 200) rfl rfl (.bool true) (fun V hV => (H.out V hV).2.2.2.1) (hK _ ?_); clear hK K)
  refine wpQuiet_step (fun K hK => ?_)
  (go_simp; refine ⟨_, fun wq hs => rfl, hK _ ?_⟩; clear hK K)
  refine wpQuiet_step (fun K hK => ?_)
  (go_simp; refine ⟨_, fun wq hs => rfl, hK _ ?_⟩; clear hK K)
  refine wpQuiet_step (fun K hK => ?_)
  (go_simp; refine ⟨_, fun wq hs => rfl, hK _ ?_⟩; clear hK K)
  refine wpQuiet_step (fun K hK => ?_)
  (refine q_load (by rfl) 45 _ rfl ⟨w.heap.size, 20, none⟩ rfl (.slice none 0 0) (fun V hV => (H.out V hV).2.2.2.2.1) (hK _ ?_); clear hK K)
  refine wpQuiet_step (fun K hK => ?_)
  (go_simp; refine ⟨_, fun wq hs => rfl, hK _ ?_⟩; clear hK K)
  refine wpQuiet_step (fun K hK => ?_)
  (go_simp; refine ⟨_, fun wq hs => rfl, hK _ ?_⟩; clear hK K)
  refine wpQuiet_step (fun K hK => ?_)
  (go_simp; refine ⟨_, fun wq hs => rfl, hK _ ?_⟩; clear hK K)
  refine wpQuiet_step (fun K hK => ?_)
  (go_simp; refine ⟨_, fun wq hs => rfl, hK _ ?_⟩; clear hK K)
  refine wpQuiet_step (fun K hK => ?_)
  (go_simp; refine ⟨_, fun wq hs => rfl, hK _ ?_⟩; clear hK K)
  refine wpQuiet_step (fun K hK => ?_)
  (refine q_load (by rfl) 45 _ rfl ⟨w.heap.size, 20, none⟩ rfl (.slice none 0 0) (fun V hV => (H.out V hV).2.2.2.2.1) (hK _ ?_); clear hK K)
  refine wpQuiet_step (fun K hK => ?_)
  (refine q_call1 (by rfl) 61 c61.out _ _ rfl (.slice none 0 0) rfl (.slice none 0 0) (fun V hV => (H.out V hV).2.2.2.2.2) (hK _ ?_); clear hK K)
  refine wpQuiet_step (fun K hK => ?_)
  (go_simp; refine ⟨_, fun wq hs => rfl, hK _ ?_⟩; clear hK K)
  refine wpQuiet_step (fun K hK => ?_)
  (go_simp; refine ⟨_, fun wq hs => rfl, hK _ ?_⟩; clear hK K)
  refine wpQuiet_step (fun K hK => ?_)
  (refine q_load (by rfl) 45 _ rfl ⟨w.heap.size, 20, none⟩ rfl (.slice none 0 0) (fun V hV => (H.out V hV).2.2.2.2.1) (hK _ ?_); clear hK K)
  refine wpQuiet_step (fun K hK => ?_)
  (go_simp; refine ⟨_, fun wq hs => rfl, hK _ ?_⟩; clear hK K)
  refine wpQuiet_step (fun K hK => ?_)
  (go_simp; refine ⟨_, fun wq hs => rfl, hK _ ?_⟩; clear hK K)
  refine wpQuiet_step (fun K hK => ?_)
  (go_simp; refine ⟨_, fun wq hs => rfl, hK _ ?_⟩; clear hK K)
  refine wpQuiet_step (fun K hK => ?_)
  (go_simp; refine ⟨_, fun wq hs => rfl, hK _ ?_⟩; clear hK K)
  refine wpQuiet_nil ?_
  intro w1 hB1
  go_wp2_with fail
  go_ret
  exact ⟨rfl, HB.out.trans (hB1.mono HB.out.size)⟩

end Go.Proofs.YtojgablpjdlegaaGreatDoor

/- sort.Search over the closure of first. -/
namespace Go.Proofs.YtojgablpjdlegaaGreatDoor
open Go.RowKit

/-- k is the first place that is so. -/
def Fst (n : Nat) (F : Nat → Bool) (k : Nat) : Prop := k ≤ n ∧ (∀ q, q < k → F q = false) ∧ ∀ q, k ≤ q → q < n → F q = true

theorem Fst.one {n : Nat} {F : Nat → Bool} {k k' : Nat} (h : Fst n F k) (g : Fst n F k') : k = k' := by
  rcases Nat.lt_trichotomy k k' with e | e | e
  · have h1 := h.2.2 k (Nat.le_refl _) (by have := g.1; omega)
    rw [g.2.1 k e] at h1
    cases h1
  · exact e
  · have h1 := g.2.2 k' (Nat.le_refl _) (by have := h.1; omega)
    rw [h.2.1 k' e] at h1
    cases h1

end Go.Proofs.YtojgablpjdlegaaGreatDoor

/- oid.Find. -/
namespace Go.Proofs.YtojgablpjdlegaaGreatDoor
open Go.RowKit

/-- A row of names, rising, each once. -/
def Up (d : Array (List Int)) : Prop := ∀ i j, i < j → j < d.size → ltl d[i]! d[j]! = true

theorem up_mono {d : Array (List Int)} {n : Nat} (hn : d.size = n) (h : Up d) (z : List Int) : ∀ i j, i ≤ j → j < n → (fun i : Nat => !ltl d[i]! z) i = true → (fun i : Nat => !ltl d[i]! z) j = true := by
  intro i j hij hj hi
  by_cases e : i = j
  · subst e; exact hi
  · have h1 := h i j (by omega) (by omega)
    simp only [Bool.not_eq_true'] at hi ⊢
    by_cases h2 : ltl d[j]! z = true
    · rw [ltl_trans _ _ _ h1 h2] at hi
      cases hi
    · simpa using h2

/-- Where z stands in d, or would stand. -/
def wh (d : Array (List Int)) (z : List Int) (k : Nat) : Prop := Fst d.size (fun i : Nat => !ltl d[i]! z) k

theorem q_ixb {ops : Array Oper} {op : Oper} {a : Act} {C : World → Prop} {K : Act → Prop} {E : Prop} (hw : Region.wanted op (yielded ops a.tmps) = true) (t : TypeId) (x y : Operand) (ho : op.op = .indexAddr t x y) (b o n c i p : Nat) (e : Int) (hx : a.eval x = .slice (some ⟨b, o, none⟩) n c) (hy : a.eval y = .int .i64 e)
    (h : ∀ w, (Instr.indexAt t (.slice (some ⟨b, o, none⟩) n c) (.int .i64 e)).run Tryz.prog w = .ok (.pointer (some ⟨b, o + i * 20, none⟩)) w) (hp : p = o + i * 20) (hk : K (a.put op.dst (.pointer (some ⟨b, p, none⟩)))) : if Region.wanted op (yielded ops a.tmps) = true then op.quiet Tryz.prog a C K else E := by
  rw [if_pos hw]
  subst hp
  refine ⟨_, fun w _ => ?_, hk⟩
  unfold Oper.quietAt execOp
  simp only [ho, hx, hy]
  simp [h w, Oper.quietUpon]

theorem run_ixa33 (b o n c i : Nat) (e : Int) (he : e = i) (hi : i < n) (w : World) : (Instr.indexAt 45 (.slice (some ⟨b, o, none⟩) n c) (.int .i64 e)).run Tryz.prog w = .ok (.pointer (some ⟨b, o + i * 20, none⟩)) w := by
  subst he
  have hi2 : (i : Int) < (n : Int) := by omega
  clear hi
  simp [go_sem, hi2]

end Go.Proofs.YtojgablpjdlegaaGreatDoor

/- The document's Less. -/
namespace Go.Proofs.YtojgablpjdlegaaGreatDoor
open Go.RowKit

theorem drop_bt (x : List Int) (hx : IsId x) (k : Nat) (hk : k < 20) : x.drop k = bt x k :: x.drop (k + 1) := by
  have h := hx.1
  rw [List.drop_eq_getElem_cons (by omega)]
  congr 1
  unfold bt
  rw [List.getD_eq_getElem?_getD, List.getElem?_eq_getElem (by omega)]
  rfl

theorem ltl_at (x y : List Int) (hx : IsId x) (hy : IsId y) (k : Nat) (hk : k < 20) : ltl (x.drop k) (y.drop k) = if bt x k < bt y k then true else if bt y k < bt x k then false else ltl (x.drop (k + 1)) (y.drop (k + 1)) := by
  rw [drop_bt x hx k hk, drop_bt y hy k hk]
  rfl

set_option maxHeartbeats 4000000 in
set_option maxRecDepth 100000 in
theorem xless_any (x y : List Int) (hx0 : IsId x) (hy0 : IsId y) (w : World) : Calls Tryz.prog 123 #[idv x, idv y] w fun e w' => e = .returned (.bool (ltl x y)) ∧ Below w.heap.size w w' := by
  have hb0 := rowIs_vals w (cl x) 20 26
  obtain ⟨w1, hw1⟩ : ∃ w1, w.alloc (.cells (vals (cl x) 20).toArray 26) = w1 := ⟨_, rfl⟩
  have hza : ∀ o, (w.alloc o).heap.size = w.heap.size + 1 := fun o => by simp
  have hz1 : w1.heap.size = w.heap.size + 1 := by rw [← hw1]; exact hza _
  have hb1 := rowIs_vals w1 (cl y) 20 26
  rw [hz1] at hb1
  have hr0 : Hid ((w1.alloc (.cells (vals (cl y) 20).toArray 26)).rowIs w.heap.size 26 20 (cl x)) := by
    rw [hw1] at hb0
    exact World.rowIs.alloc hb0 _
  have hB0 : Hid (Below w.heap.size w (w1.alloc (.cells (vals (cl y) 20).toArray 26))) := by
    rw [← hw1]
    exact (new_below w _).alloc (new_below w _).size _
  have hr1 : Hid ((w1.alloc (.cells (vals (cl y) 20).toArray 26)).rowIs (w.heap.size + 1) 26 20 (cl y)) := hb1
  rw [← hw1] at hr0 hr1 hB0
  clear hb0 hb1 hz1 hw1 hza
  have HE0 : Hid (ltl (x.drop 0) (y.drop 0) = ltl x y) := rfl
  go_enter Tryz.func123, Tryz.ntmps123
  go_wp2_with fail
  go_loopw [5] (fun i wr => ∃ (k : Nat), k ≤ 20 ∧ i = .int .i64 k ∧ Hid (ltl (x.drop k) (y.drop k) = ltl x y) ∧ Hid (wr.rowIs w.heap.size 26 20 (cl x)) ∧ Hid (wr.rowIs (w.heap.size + 1) 26 20 (cl y)) ∧ Hid (Below w.heap.size w wr)) (fun i _ => 20 - (intOf i).toNat)
  case atStart => exact ⟨0, by omega, rfl, HE0, hr0, hr1, hB0⟩
  case round =>
    obtain ⟨k, hk, rfl, HE, H1, H2, HB⟩ := hrel
    clear hr0 hr1 hB0 HE0
    by_cases hlt : k < 20
    · have hbx := hx0.at k hlt
      have hby := hy0.at k hlt
      have hc1 : wr.cell? ⟨w.heap.size, k, none⟩ = some (.int .u8 (bt x k)) := H1.out.cell (i := k) hlt
      have hc2 : wr.cell? ⟨w.heap.size + 1, k, none⟩ = some (.int .u8 (bt y k)) := H2.out.cell (i := k) hlt
      have HA : Hid _ := ltl_at x y hx0 hy0 k hlt
      have H1d : Hid (wr.drew.rowIs w.heap.size 26 20 (cl x)) := rowIs_fr (P := fun _ => False) H1.out (Fr.refl _ wr).drew (fun h => h)
      have H2d : Hid (wr.drew.rowIs (w.heap.size + 1) 26 20 (cl y)) := rowIs_fr (P := fun _ => False) H2.out (Fr.refl _ wr).drew (fun h => h)
      have HBd : Hid (Below w.heap.size w wr.drew) := Below.trans HB.out ⟨rfl, rfl, rfl, Nat.le_refl _, fun _ _ => rfl⟩
      have HBe : Hid (Below w.heap.size w wr.drew.drew) := Below.trans HB.out ⟨rfl, rfl, rfl, Nat.le_refl _, fun _ _ => rfl⟩
      generalize bt x k = p at *
      generalize bt y k = q at *
      rcases Int.lt_trichotomy p q with hpq | hpq | hpq
      · have HV : Hid (ltl x y = true) := by rw [← HE.out, HA.out, if_pos hpq]; exact rfl
        have hne : ¬ p = q := by omega
        clear HE HA H1 H2 HB
        go_wp2_with fail
        go_region
        all_goals go_wp2_with fail
        all_goals go_region
        all_goals go_wp2_with fail
        all_goals go_ret
        all_goals exact ⟨by rw [HV.out]; rfl, HBe.out⟩
      · have HV : Hid (ltl (x.drop (k + 1)) (y.drop (k + 1)) = ltl x y) := by rw [← HE.out, HA.out, if_neg (by omega), if_neg (by omega)]; exact rfl
        clear HE HA H1 H2 HB
        go_wp2_with fail
        go_region
        all_goals go_wp2_with fail
        all_goals go_roundw
        case rel => exact ⟨k + 1, by omega, by go_num, HV, H1d, H2d, HBd⟩
        case measure => simp [intOf]; omega
      · have HV : Hid (ltl x y = false) := by rw [← HE.out, HA.out, if_neg (by omega), if_pos hpq]; exact rfl
        have hne : ¬ p = q := by omega
        have hnl : ¬ p < q := by omega
        clear HE HA H1 H2 HB
        go_wp2_with fail
        go_region
        all_goals go_wp2_with fail
        all_goals go_region
        all_goals go_wp2_with fail
        all_goals go_ret
        all_goals exact ⟨by rw [HV.out]; show Ending.returned (Value.bool (decide (p < q))) = _; rw [decide_eq_false (Int.not_lt.2 hnl)], HBe.out⟩
    · obtain rfl : k = 20 := by omega
      have HV : Hid (ltl x y = false) := by
        have h1 := hx0.1
        have h2 := hy0.1
        rw [← HE.out, List.drop_of_length_le (by omega), List.drop_of_length_le (by omega)]
        exact rfl
      clear HE
      go_wp2_with fail
      go_ret
      exact ⟨by rw [HV.out]; rfl, HB.out⟩

end Go.Proofs.YtojgablpjdlegaaGreatDoor

/- Rows of the document's names. -/
namespace Go.Proofs.YtojgablpjdlegaaGreatDoor
open Go.RowKit

/-- A row of the document's names in a block. -/
structure Rx (w : World) (b N : Nat) (d : Array (List Int)) : Prop where
  row : ∃ f, w.rowIs b 26 N f ∧ ∀ i, i < d.size → ∀ j, j < 20 → f (i * 20 + j) = cl d[i]! j
  le : d.size * 20 ≤ N
  ids : ∀ i, i < d.size → IsId d[i]!

theorem Rx.fr {P : Nat → Prop} {w w' : World} {b N : Nat} {d : Array (List Int)} (h : Rx w b N d) (hf : Fr P w w') (hb : ¬ P b) : Rx w' b N d := by
  obtain ⟨f, h1, h2⟩ := h.row
  exact ⟨⟨f, rowIs_fr h1 hf hb, h2⟩, h.le, h.ids⟩

theorem Rx.keep {w w' : World} {b N : Nat} {d : Array (List Int)} (h : Rx w b N d) (hf : Below w.heap.size w w') : Rx w' b N d := h.fr (P := fun _ => False) (Fr.ofBelow hf) (fun h => h)

theorem Rx.lt {w : World} {b N : Nat} {d : Array (List Int)} (h : Rx w b N d) : b < w.heap.size := by
  obtain ⟨f, h1, h2⟩ := h.row
  exact h1.lt

theorem Rx.load {w : World} {b N : Nat} {d : Array (List Int)} (h : Rx w b N d) (i : Nat) (hi : i < d.size) : (loadVar 26 ⟨b, i * 20, none⟩).run Tryz.prog w = .ok (idv d[i]!) w := by
  obtain ⟨f, h1, h2⟩ := h.row
  have hle := h.le
  rw [load_mid (P := Tryz.prog) 26 _ h1 20 (by omega) Tryz.underlying26 rfl size22, row_congr _ (cl d[i]!) 20 (fun j hj => h2 i hi j hj)]

/-- A slice of the document's names that the call has made. -/
structure Dn (B : Nat) (w : World) (v : Value) (d : Array (List Int)) : Prop where
  own : w.ownsRow B 26 20 v d.size (fl d)
  ids : ∀ i, i < d.size → IsId d[i]!

theorem Dn.keep {B : Nat} {w w' : World} {v : Value} {d : Array (List Int)} (h : Dn B w v d) (hf : Below w.heap.size w w') : Dn B w' v d :=
  ⟨ownsRow_fr (P := fun _ => False) h.own (Fr.ofBelow hf) (fun _ _ h => h), h.ids⟩

theorem Dn.row {B : Nat} {w : World} {v : Value} {d : Array (List Int)} (h : Dn B w v d) (h0 : 0 < d.size) : ∃ b c, v = .slice (some ⟨b, 0, none⟩) d.size c ∧ d.size ≤ c ∧ B ≤ b ∧ Rx w b (c * 20) d := by
  rcases h.own.2 with ⟨_, e⟩ | ⟨g, cap, cur, e, hg, hh, hle, hmx, hsz, htk⟩
  · omega
  · refine ⟨g, cap, e, hle, hg, ⟨fun j => cur.toList.getD j undef, ⟨cur, hh, hsz, fun i hi => ?_⟩, fun i hi j hj => ?_⟩, by omega, h.ids⟩
    · show cur[i]? = some (cur.toList.getD i undef)
      rw [List.getD]
      simp [hsz, hi]
    · have := fl_get d i j hi hj
      rw [← htk] at this
      rw [List.getElem?_take, if_pos (by omega)] at this
      show cur.toList.getD (i * 20 + j) undef = _
      rw [List.getD, this]
      rfl

theorem Dn.shape {B : Nat} {w : World} {v : Value} {d : Array (List Int)} (h : Dn B w v d) : ∃ ao c, v = .slice ao d.size c := by
  rcases h.own.2 with ⟨rfl, e⟩ | ⟨g, cap, cur, e, _⟩
  · exact ⟨none, 0, by rw [e]⟩
  · exact ⟨_, _, e⟩

theorem dn_nil (B : Nat) (w : World) : Dn B w (.slice none 0 0) #[] := ⟨World.ownsRow_nil _ _ _ _, fun i hi => by simp at hi⟩

theorem Tryz.info22 : (Tryz.prog.info? 26).map (fun i => (i.zero, i.size, i.bytes)) = some (some (.agg zcs), 20, 20) := by kernel_rfl

theorem run_bs1 (x : List Int) (w : World) : (Instr.buildSlice 50 1 #[(0, idv x)]).run Tryz.prog w = .ok (.slice (some ⟨w.heap.size, 0, none⟩) 1 1) (w.alloc (.cells (vals (cl x) 20).toArray 26)) := by kernel_rfl

theorem run_bs0 (w : World) : (Instr.buildSlice 50 0 #[]).run Tryz.prog w = .ok (.slice (some ⟨w.heap.size, 0, none⟩) 0 0) (w.alloc (.cells #[] 26)) := by kernel_rfl

theorem wpList_bs1 {ops : Array Oper} {rest : List Oper} {op : Oper} {a : Act} {w : World} {Q : Exit → Act → World → Prop} (hgd : op.guard = none) (y : Operand) (ho : op.op = .buildSlice 50 1 #[(0, y)]) (x : List Int) (hy : a.eval y = idv x)
    (hk : ∀ w', w' = w.alloc (.cells (vals (cl x) 20).toArray 26) → wpList Tryz.prog ops Q rest (a.put op.dst (.slice (some ⟨w.heap.size, 0, none⟩) 1 1)) w') : wpList Tryz.prog ops Q (op :: rest) a w := by
  refine wpList_plain hgd fun K hK => ?_
  have h := run_bs1 x w
  unfold Oper.wp
  simp only [execOp, ho, List.map_toArray, List.map_cons, List.map_nil, hy, Sem.run_bind, h, Result.andThen_ok, Sem.run_pure]
  exact hK _ _ (hk _ rfl)

theorem wpList_bs0 {ops : Array Oper} {rest : List Oper} {op : Oper} {a : Act} {w : World} {Q : Exit → Act → World → Prop} (hgd : op.guard = none) (ho : op.op = .buildSlice 50 0 #[])
    (hk : ∀ w', w' = w.alloc (.cells #[] 26) → wpList Tryz.prog ops Q rest (a.put op.dst (.slice (some ⟨w.heap.size, 0, none⟩) 0 0)) w') : wpList Tryz.prog ops Q (op :: rest) a w := by
  refine wpList_plain hgd fun K hK => ?_
  have h := run_bs0 w
  unfold Oper.wp
  simp only [execOp, ho, List.map_toArray, List.map_nil, Sem.run_bind, h, Result.andThen_ok, Sem.run_pure]
  exact hK _ _ (hk _ rfl)

theorem fl_push (d : Array (List Int)) (x : List Int) : fl (d.push x) = fl d ++ vals (cl x) 20 := by
  unfold fl
  rw [Array.toList_push, List.flatMap_append]
  simp

theorem push_get (d : Array (List Int)) (x : List Int) (i : Nat) (hi : i < d.size + 1) : (d.push x)[i]! = if i < d.size then d[i]! else x := by
  rw [getElem!_pos _ i (by simp; exact hi), Array.getElem_push]
  by_cases h : i < d.size
  · simp [h]
  · simp [h]

/-- One name more is put behind a row. -/
theorem wpList_app1 {ops : Array Oper} {rest : List Oper} {o : Oper} {a : Act} {w w0 : World} {Q : Exit → Act → World → Prop} (hgd : o.guard = none) (s y : Operand)
    (ho : o.op = .call { callee := .builtin .append, args := #[s, y], argTypes := #[50, 50] }) (B : Nat) (v : Value) (d : Array (List Int)) (x : List Int) (hx : IsId x) (hs : a.eval s = v) (hy : a.eval y = .slice (some ⟨w0.heap.size, 0, none⟩) 1 1)
    (hw : w = w0.alloc (.cells (vals (cl x) 20).toArray 26)) (h : Dn B w0 v d) (hlim : d.size < 100000) (hB : B ≤ w0.heap.size)
    (hk : ∀ v' w', Dn B w' v' (d.push x) → Below B w0 w' → wpList Tryz.prog ops Q rest (a.put o.dst v') w') : wpList Tryz.prog ops Q (o :: rest) a w := by
  obtain ⟨i0, hi, hz0, hz1, hz2⟩ := info_parts Tryz.info22
  have hb : Below w0.heap.size w0 w := by rw [hw]; exact new_below _ _
  have h' := h.keep hb
  have hr := rowIs_vals w0 (cl x) 20 26
  rw [← hw] at hr
  refine wpList_append_own w hgd s y 50 ho B 26 i0 (.agg zcs) 20 20 Tryz.underlying50 hi hz0 hz1 hz2 rfl (by decide) v d.size (fl d) hs h'.own ⟨w0.heap.size, 0, none⟩ 1 1 (vals (cl x) 20) hy (by rw [vals_len]) (fun j u hu => ?_) (vals_one20 x) (by unfold maxLen; omega) (by omega) (by have := hb.size; omega) ?_
  · have hj : j < 20 := by
      have := (List.getElem?_eq_some_iff.1 hu).1
      rwa [vals_len] at this
    rw [vals_get _ _ _ hj] at hu
    cases hu
    have := hr.cell (i := j) hj
    rw [Addr.add_lit, Nat.zero_add]
    exact this
  · intro v' w' g1 g2 g3
    refine hk v' w' ⟨by rw [fl_push, Array.size_push]; exact g1, fun i hi => ?_⟩ ?_
    · rw [Array.size_push] at hi
      rw [push_get d x i hi]
      split
      · rename_i e; exact h.ids i e
      · exact hx
    · refine ((hb.mono hB).trans ((Below.refl _ w).grown g2 (by have := hb.size; omega) (fun k hk => ?_)))
      rcases h.own.2 with ⟨e, _⟩ | ⟨g, cap, cur, e, hg, _⟩
      · rw [e] at hk; cases hk
      · rw [e] at hk; cases hk; exact hg

end Go.Proofs.YtojgablpjdlegaaGreatDoor

/- Of. -/
namespace Go.Proofs.YtojgablpjdlegaaGreatDoor
open Go.RowKit

theorem Is.plain {w : World} {ao : Option Addr} {n c : Nat} {d : Array (List Int)} (h : Is w (.slice ao n c) d) (h0 : 0 < d.size) : ∃ b off, ao = some ⟨b, off, none⟩ ∧ ∀ W, Below w.heap.size w W → ∀ i, i < d.size → (loadVar 27 ⟨b, off + i * 20, none⟩).run Tryz.prog W = .ok (idv d[i]!) W := by
  obtain ⟨ao', c', e, h1, h2, h3⟩ := h.sh
  injection e with e1 e2 e3
  subst e1
  cases ao with
  | none => have := (h2 rfl).1; omega
  | some ad =>
    obtain ⟨b, off, spot⟩ := ad
    have hc := h3 _ rfl 0 h0 0 (by omega)
    have hspot : spot = none := by simpa [Addr.add] using World.cell?_spot hc
    subst hspot
    refine ⟨b, off, rfl, fun W hW i hi => ?_⟩
    have hr : W.rangeAt b (off + i * 20) (vals (cl d[i]!) 20) := by
      intro j u hu
      have hj : j < 20 := by
        have := (List.getElem?_eq_some_iff.1 hu).1
        rwa [vals_len] at this
      rw [vals_get _ _ _ hj] at hu
      cases hu
      have := h3 _ rfl i hi j hj
      rw [Addr.add_lit] at this
      rw [hW.cell (World.block_lt_of_cell? w _ (by rw [Nat.add_assoc]; exact this)), Nat.add_assoc]
      exact this
    rw [run_loadVar_mid W b (off + i * 20) 27 _ _ hr Tryz.underlying27 rfl (by rw [vals_len]; exact size23)]

/-- The first k names of a row. -/
def fst (d : Array (List Int)) (k : Nat) : Array (List Int) := d.extract 0 k

theorem fst_push (d : Array (List Int)) (k : Nat) (hk : k < d.size) : (fst d k).push d[k]! = fst d (k + 1) := by
  unfold fst
  rw [getElem!_pos d k hk]
  exact Array.push_extract_getElem hk

set_option maxRecDepth 100000 in
set_option maxHeartbeats 2000000 in
theorem of_any (ao : Option Addr) (n c : Nat) (d : Array (List Int)) (w : World) (h : Is w (.slice ao n c) d) (hn : d.size = n) (hlim : n < 100000) :
    Calls Tryz.prog 80 #[.slice ao n c] w fun e w' => ∃ v, e = .returned v ∧ Dn w.heap.size w' v d ∧ Below w.heap.size w w' := by
  have HI : Hid (∀ i, i < d.size → IsId d[i]!) := h.ids
  have HP : Hid (0 < d.size → ∃ b off, ao = some ⟨b, off, none⟩ ∧ ∀ W, Below w.heap.size w W → ∀ i, i < d.size → (loadVar 27 ⟨b, off + i * 20, none⟩).run Tryz.prog W = .ok (idv d[i]!) W) := fun h0 => h.plain h0
  have HN : Hid (d.size = n) := hn
  clear h hn
  go_enter Tryz.func80, Tryz.ntmps80
  go_wp2_with fail
  go_loopw [3, 4] (fun s3 s4 wr => ∃ k : Nat, s4 = .int .i64 k ∧ k ≤ n ∧ Hid (Dn w.heap.size wr s3 (fst d k)) ∧ Hid (Below w.heap.size w wr))
    (fun _ s4 _ => n - (intOf s4).toNat)
  case atStart => exact ⟨0, rfl, Nat.zero_le _, by show Dn _ _ _ (d.extract 0 0); rw [show d.extract 0 0 = #[] by simp]; exact dn_nil _ _, Below.refl _ _⟩
  case round =>
    obtain ⟨k, rfl, hkn, HD, HB⟩ := hrel
    by_cases hlt : k < n
    · have hq : (k : Int) < (n : Int) := by omega
      obtain ⟨b, off, rfl, hld⟩ := HP.out (by rw [HN.out]; omega)
      have hld' := hld wr HB.out k (by rw [HN.out]; exact hlt)
      have hwk : IntKind.i64.wrap ((k : Int) + 1) = (k : Int) + 1 := by rw [IntKind.wrap_i64]; omega
      have hps := fst_push d k (by rw [HN.out]; exact hlt)
      have hid := HI.out k (by rw [HN.out]; exact hlt)
      obtain ⟨x, hx⟩ : ∃ x, d[k]! = x := ⟨_, rfl⟩
      rw [hx] at hld' hps hid
      have HS : Hid ((fst d k).push x = fst d (k + 1)) := hps
      have hsz : (fst d k).size < 100000 := by unfold fst; simp; have := HN.out; omega
      have HBs := HB.out.size
      have HLT : Hid (k < n) := hlt
      clear hld hx hps hkn
      go_wp2_with (first
        | (refine wpList_ldv rfl 27 _ rfl ⟨b, off + k * 20, none⟩ rfl (idv x) hld' ?_; clear hld')
        | (refine wpList_bs1 rfl _ rfl x rfl ?_; intro w1 hw1; have HW1 : Hid _ := hw1; clear hw1)
        | (refine wpList_app1 (w0 := wr) rfl _ _ rfl w.heap.size _ (fst d k) x hid rfl rfl HW1.out HD.out hsz HBs ?_; intro v' w' g1 g2; rw [HS.out] at g1; have G1 : Hid _ := g1; have G2 : Hid (Below w.heap.size w w') := HB.out.trans g2; clear g1 g2))
      exact ⟨⟨k + 1, by simp, HLT.out, G1, G2⟩, by simp [intOf]; have := HLT.out; omega⟩
    · obtain rfl : k = n := by omega
      have hq : ¬ (k : Int) < (k : Int) := by omega
      have HF : Hid (Dn w.heap.size wr u3 d) := by
        have := HD.out
        rwa [show fst d k = d by unfold fst; rw [← HN.out]; simp] at this
      clear HD
      go_wp2_with fail
      go_ret
      exact ⟨_, rfl, HF.out, HB.out⟩

end Go.Proofs.YtojgablpjdlegaaGreatDoor

/- The document's Find. -/
namespace Go.Proofs.YtojgablpjdlegaaGreatDoor
open Go.RowKit

theorem box22 (w W : World) (z : List Int) (hz : IsId z) (hW : Below (w.alloc (.cells (vals (cl z) 20).toArray 26)).heap.size (w.alloc (.cells (vals (cl z) 20).toArray 26)) W) :
    (loadVar 26 ⟨w.heap.size, 0, none⟩).run Tryz.prog W = .ok (idv z) W := by
  have h : Rx (w.alloc (.cells (vals (cl z) 20).toArray 26)) w.heap.size 20 #[z] := ⟨⟨cl z, rowIs_vals w (cl z) 20 26, fun i hi j hj => by
    have : i < 1 := hi
    obtain rfl : i = 0 := by omega
    rw [Nat.zero_mul, Nat.zero_add]; rfl⟩, Nat.le_refl _, fun i hi => by
    have : i < 1 := hi
    obtain rfl : i = 0 := by omega
    exact hz⟩
  exact (h.keep hW).load 0 (by show 0 < 1; omega)

theorem run_ixa35 (b o n c i : Nat) (e : Int) (he : e = i) (hi : i < n) (w : World) : (Instr.indexAt 50 (.slice (some ⟨b, o, none⟩) n c) (.int .i64 e)).run Tryz.prog w = .ok (.pointer (some ⟨b, o + i * 20, none⟩)) w := by
  subst he
  have hi2 : (i : Int) < (n : Int) := by omega
  clear hi
  simp [go_sem, hi2]

set_option maxRecDepth 100000 in
set_option maxHeartbeats 2000000 in
theorem xfind_any (B : Nat) (v : Value) (d : Array (List Int)) (z : List Int) (w : World) (h : Dn B w v d) (hu : Up d) (hz : IsId z) (hsz : d.size < 100000) :
    Calls Tryz.prog 96 #[v, idv z] w fun e w' => ∃ k, e = .returned (.tuple #[.int .i64 (k : Nat), .bool (decide (k < d.size) && decide (d[k]! = z))]) ∧ wh d z k ∧ Below w.heap.size w w' := by
  obtain ⟨ao, c, rfl⟩ := h.shape
  have HB0 : Hid (Below w.heap.size w (w.alloc (.cells (vals (cl z) 20).toArray 26))) := new_below _ _
  have HU : Hid (Up d) := hu
  have HP : Hid (0 < d.size → ∃ b, ao = some ⟨b, 0, none⟩ ∧ ∀ W, Below w.heap.size w W → ∀ i, i < d.size → (loadVar 26 ⟨b, i * 20, none⟩).run Tryz.prog W = .ok (idv d[i]!) W) := fun h0 => by
    obtain ⟨b, c', e, _, _, hr⟩ := h.row h0
    injection e with e1 e2 e3
    exact ⟨b, e1, fun W hW i hi => (hr.keep hW).load i hi⟩
  have HI : Hid (∀ i, i < d.size → IsId d[i]!) := h.ids
  obtain ⟨n, hn⟩ : ∃ n, d.size = n := ⟨_, rfl⟩
  have HN : Hid (d.size = n) := hn
  rw [hn] at HP HI hsz ⊢
  have HBox : Hid (∀ W, Below (w.alloc (.cells (vals (cl z) 20).toArray 26)).heap.size (w.alloc (.cells (vals (cl z) 20).toArray 26)) W → (loadVar 26 ⟨w.heap.size, 0, none⟩).run Tryz.prog W = .ok (idv z) W) := fun W hW => box22 w W z hz hW
  have c34 : Hid (∀ vs w, (callFunc 123 vs).run Tryz.prog w = .ok (.enter 123 vs) w) := fun vs w => by simp [go_sem]
  clear h hu hn
  go_enter Tryz.func96, Tryz.ntmps96
  go_wp2_with fail
  go_loopw [6] (fun s6 wr => ∃ k : Nat, s6 = .int .i64 k ∧ k ≤ n ∧ Hid (∀ q, q < k → ltl d[q]! z = true) ∧ Hid (Below (w.alloc (.cells (vals (cl z) 20).toArray 26)).heap.size (w.alloc (.cells (vals (cl z) 20).toArray 26)) wr))
    (fun s6 _ => n - (intOf s6).toNat)
  case atStart => exact ⟨0, rfl, Nat.zero_le _, fun q hq => by omega, Below.refl _ _⟩
  case round =>
    obtain ⟨k, rfl, hkn, HQ, HB⟩ := hrel
    by_cases hlt : k < n
    · have hq : (k : Int) < (n : Int) := by omega
      obtain ⟨b, rfl, hld⟩ := HP.out (by omega)
      have hid := HI.out k hlt
      have H : Hid (∀ W, Below wr.heap.size wr W → (loadVar 26 ⟨b, k * 20, none⟩).run Tryz.prog W = .ok (idv d[k]!) W ∧ (loadVar 26 ⟨w.heap.size, 0, none⟩).run Tryz.prog W = .ok (idv z) W ∧ Calls Tryz.prog 123 #[idv d[k]!, idv z] W (fun e w' => e = .returned (.bool (ltl d[k]! z)) ∧ Below wr.heap.size wr w')) := fun W hW => by
        have h1 := HB.out.trans (hW.mono HB.out.size)
        exact ⟨hld W (HB0.out.trans (h1.mono HB0.out.size)) k hlt, HBox.out W h1, (xless_any d[k]! z hid hz W).mono fun e w' ⟨g1, g2⟩ => ⟨g1, hW.trans (g2.mono hW.size)⟩⟩
      have HX1 : Hid (∀ q, q < k + 1 → ltl d[k]! z = true → ltl d[q]! z = true) := fun q hq2 h1 => by
        by_cases e : q = k
        · subst e; exact h1
        · exact HQ.out q (by omega)
      have HX2 : Hid (ltl d[k]! z = false → wh d z k) := fun h1 => by
        refine ⟨by rw [HN.out]; omega, fun q hq2 => by simp [HQ.out q hq2], fun q hq1 hq2 => ?_⟩
        have := up_mono rfl HU.out z k q hq1 hq2 (by simp [h1])
        exact this
      have he := fun W => eql_ids 26 Tryz.underlying26 hid hz W
      obtain ⟨x, hx⟩ : ∃ x, d[k]! = x := ⟨_, rfl⟩
      rw [hx] at H HX1 HX2 he
      have HX : Hid (d[k]! = x) := hx
      obtain ⟨t, ht⟩ : ∃ t, ltl x z = t := ⟨_, rfl⟩
      rw [ht] at H HX1 HX2
      obtain ⟨t2, ht2⟩ : ∃ t2, decide (x = z) = t2 := ⟨_, rfl⟩
      rw [ht2] at he
      have HT2 : Hid (decide (x = z) = t2) := ht2
      have hwk : IntKind.i64.wrap ((k : Int) + 1) = (k : Int) + 1 := by rw [IntKind.wrap_i64]; omega
      have HL : Hid (k < n) := hlt
      clear hid hld hx ht ht2
      go_wp2_with fail
      refine wp_region_quiet (C := fun W => Below wr.heap.size wr W) (by kernel_rfl) (by kernel_rfl) (Below.refl _ _).drew ?_
      repeat
        refine wpQuiet_step (fun K hK => ?_)
        first
          | (refine q_ixb (by rfl) 50 _ _ rfl b 0 n c k (k * 20) _ rfl rfl (fun w => run_ixa35 b 0 n c k _ rfl HL.out w) (by omega) (hK _ ?_); clear hK K)
          | (refine q_load (by rfl) 26 _ rfl ⟨b, k * 20, none⟩ rfl (idv x) (fun W hW => (H.out W hW).1) (hK _ ?_); clear hK K)
          | (refine q_load (by rfl) 26 _ rfl ⟨w.heap.size, 0, none⟩ rfl (idv z) (fun W hW => (H.out W hW).2.1) (hK _ ?_); clear hK K)
          | (refine q_call2 (by rfl) 123 c34.out _ _ _ rfl (idv x) (idv z) rfl rfl (.bool t) (fun W hW => (H.out W hW).2.2) (hK _ ?_); clear hK K)
          | (go_simp; refine ⟨_, fun wq hs => rfl, hK _ ?_⟩; clear hK K)
      refine wpQuiet_nil ?_
      intro w2 hB2
      have HB2 : Hid (Below wr.heap.size wr w2) := hB2
      clear hB2
      cases t with
      | true =>
        go_wp2_with fail
        go_roundw
        case rel => exact ⟨k + 1, by simp, HL.out, fun q hq => HX1.out q hq rfl, HB.out.trans (HB2.out.mono HB.out.size)⟩
        case measure => simp [intOf]; have := HL.out; omega
      | false =>
        go_wp2_with fail
        refine wp_region_quiet (C := fun W => Below wr.heap.size wr W) (by kernel_rfl) (by kernel_rfl) HB2.out.drew ?_
        repeat
          refine wpQuiet_step (fun K hK => ?_)
          first
            | (refine q_ixb (by rfl) 50 _ _ rfl b 0 n c k (k * 20) _ rfl rfl (fun w => run_ixa35 b 0 n c k _ rfl HL.out w) (by omega) (hK _ ?_); clear hK K)
            | (refine q_load (by rfl) 26 _ rfl ⟨b, k * 20, none⟩ rfl (idv x) (fun W hW => (H.out W hW).1) (hK _ ?_); clear hK K)
            | (refine q_load (by rfl) 26 _ rfl ⟨w.heap.size, 0, none⟩ rfl (idv z) (fun W hW => (H.out W hW).2.1) (hK _ ?_); clear hK K)
            | (go_simp; refine ⟨_, fun wq hs => rfl, hK _ ?_⟩; clear hK K)
        refine wpQuiet_nil ?_
        intro w3 hB3
        go_wp2_with fail
        go_ret2
        refine ⟨k, ?_, HX2.out trivial, HB0.out.trans ((HB.out.trans (hB3.mono HB.out.size)).mono HB0.out.size)⟩
        have e : (decide (k < n) && decide (d[k]! = z)) = t2 := by rw [HX.out, HT2.out]; simp [HL.out]
        rw [e]
        rfl
    · obtain rfl : k = n := by omega
      have hq : ¬ (k : Int) < (k : Int) := by omega
      clear HP HBox
      go_wp2_with fail
      go_ret2
      refine ⟨k, by simp, ⟨by rw [HN.out]; exact Nat.le_refl _, fun q hq2 => by simp [HQ.out q hq2], fun q h1 h2 => by have := HN.out; omega⟩, HB0.out.trans (HB.out.mono HB0.out.size)⟩

end Go.Proofs.YtojgablpjdlegaaGreatDoor
