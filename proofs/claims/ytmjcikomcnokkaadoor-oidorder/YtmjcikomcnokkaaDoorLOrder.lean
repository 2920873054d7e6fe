/- The law OidOrder. -/
import Derived.Test.YtmjcikomcnokkaaDoorLTexts
import Derived.Laws.IdiomStrings
namespace Go.Proofs.YtmjcikomcnokkaaDoor
open Go.RowKit Go.Shelf

theorem bl_ltl : ∀ x y : List Int, (∀ b ∈ x, 0 ≤ b ∧ b < 256) → (∀ b ∈ y, 0 ≤ b ∧ b < 256) → Op.bytesLess (x.map fun n => UInt8.ofNat n.toNat) (y.map fun n => UInt8.ofNat n.toNat) = ltl x y
  | [], [], _, _ => rfl
  | [], _ :: _, _, _ => rfl
  | _ :: _, [], _, _ => rfl
  | a :: r, b :: s, h, g => by
    have ha := h a (by simp)
    have hb := g b (by simp)
    have i := bl_ltl r s (fun c hc => h c (by simp [hc])) (fun c hc => g c (by simp [hc]))
    simp only [List.map_cons, Op.bytesLess, ltl, i, ofNat_lt a b ha hb]
    by_cases h1 : a < b
    · simp [h1]
    · rw [if_neg h1, decide_eq_false h1, Bool.false_or]
      by_cases h2 : b < a
      · rw [if_pos h2]
        have : (UInt8.ofNat a.toNat == UInt8.ofNat b.toNat) = false := by
          apply beq_eq_false_iff_ne.2
          intro e
          have := (ofNat_lt b a hb ha).2 h2
          rw [e] at this
          exact absurd this (by simp)
        rw [this, Bool.false_and]
      · rw [if_neg h2]
        have e : a = b := by omega
        subst e
        simp

theorem str_lss (x y : List Int) (hx : ∀ b ∈ x, 0 ≤ b ∧ b < 256) (hy : ∀ b ∈ y, 0 ≤ b ∧ b < 256) : Op.bytesLess (strOfNums x).toList (strOfNums y).toList = ltl x y := by
  rw [Lib.toList_data, Lib.toList_data, strOfNums_data, strOfNums_data, bl_ltl x y hx hy]

theorem run_bytes (s : ByteArray) (w : World) : ∃ C w', (convert 9 55 (.string s)).run Tryd.prog w = .ok (.slice (some ⟨w.heap.size, 0, none⟩) s.size C) w' ∧ s.size ≤ C ∧ (∀ j, j < s.size → w'.cell? ⟨w.heap.size, j, none⟩ = some (.int .u8 (bt (ns s) j)) ∧ w'.frozen? ⟨w.heap.size, j, none⟩ = false) ∧ Below w.heap.size w w' := by
  refine ⟨_, _, run_bytes_of_string (P := Tryd.prog) w 9 55 5 s Tryd.underlying9 Tryd.underlying55 Tryd.underlying5, ?_, ?_, ?_⟩
  · exact grownCap_ge _ _ _ _
  · intro j hj
    have hb : ∀ o : Obj, (w.drew.alloc o).heap[w.heap.size]? = some o := fun o => by
      show (w.heap.push o)[w.heap.size]? = some o
      simp
    have hd : j < s.data.size := hj
    have hr := bytesRow_at s (grownCap w s.size 0 5) j hd
    have hlt : j < (bytesRow s (grownCap w s.size 0 5)).size := (Array.getElem?_eq_some_iff.1 hr).1
    constructor
    · have e : bt (ns s) j = (s.data[j].toNat : Int) := by
        rw [bt_get (by rw [ns_len]; exact hj)]
        simp [ns]
      rw [e, ← hr]
      unfold World.cell?
      rw [hb]
      rfl
    · unfold World.frozen?
      rw [hb]
      show (decide (_ ≤ j) && decide (j < _)) = false
      rw [decide_eq_false (by omega)]
      rfl
  · exact (Below.refl _ _).drew.alloc (Nat.le_refl _) _

theorem hx_set_len (x : List Int) (hx0 : IsId x) (k : Nat) (c : Int) : ((hx x).set k c).length = 40 := by rw [List.length_set, hx_len, hx0.1]

theorem set_isS (l : List Int) (k : Nat) (c : Int) (h : ∀ b ∈ l, isS b) (hk : k < l.length) : (∀ b ∈ l.set k c, isS b) ↔ isS c := by
  constructor
  · intro g
    exact g c (List.mem_set hk c)
  · intro hc b hb
    rcases List.mem_or_eq_of_mem_set hb with hb | rfl
    · exact h b hb
    · exact hc

theorem set_bt (l : List Int) (k j : Nat) (c : Int) (hj : j < l.length) : bt (l.set k c) j = if j = k then c else bt l j := by
  unfold bt
  rw [List.getD, List.getElem?_set]
  by_cases h : k = j
  · subst h
    rw [if_pos rfl, if_pos rfl, if_pos hj]
    rfl
  · rw [if_neg h, if_neg (fun e => h e.symm)]
    rfl

/-- What Parse answers of a text with one sign turned. -/
theorem par_set (x : List Int) (hx0 : IsId x) (k : Nat) (hk : k < 40) (c : Int) :
    (c = bt (hx x) k → par ((hx x).set k c) = (x, 0)) ∧ (c ≠ bt (hx x) k → isS c → ∃ y, par ((hx x).set k c) = (y, 0) ∧ IsId y ∧ y ≠ x) ∧ (¬ isS c → par ((hx x).set k c) = (z20, 2)) := by
  have hl : (hx x).length = 40 := by rw [hx_len, hx0.1]
  have hS : ∀ b ∈ hx x, isS b := fun b hb => (hx_byt x hx0.2 b hb).1
  have hlen := hx_set_len x hx0 k c
  refine ⟨fun e => ?_, fun e hc => ?_, fun hc => ?_⟩
  · have : (hx x).set k c = hx x := by
      rw [e, bt_get (by omega)]
      simp
    rw [this, par_hx x hx0]
  · have hall := (set_isS (hx x) k c hS (by omega)).2 hc
    refine ⟨pr ((hx x).set k c), if_pos ⟨hlen, hall⟩, pr_id _ hlen hall, fun h => e ?_⟩
    have h2 := hx_pr ((hx x).set k c) (by omega) hall
    rw [h] at h2
    have h3 := set_bt (hx x) k k c (by omega)
    rw [if_pos rfl, ← h2] at h3
    exact h3.symm
  · exact if_neg (fun h => hc ((set_isS (hx x) k c hS (by omega)).1 h.2))

/-- What the regions read. -/
structure O3 (w : World) (A B : Nat) (x y : List Int) (W : World) : Prop where
  a : W.rowIs A 23 20 (cl x)
  b : W.rowIs B 23 20 (cl y)
  be : Below w.heap.size w W

theorem O3.keep {w W W' : World} {A B : Nat} {x y : List Int} (h : O3 w A B x y W) (hb : Below W.heap.size W W') : O3 w A B x y W' :=
  ⟨row_keep h.a hb, row_keep h.b hb, h.be.trans (hb.mono h.be.size)⟩

theorem order_ways (x y : List Int) : (ltl x y = true ∧ ltl y x = false ∧ x ≠ y) ∨ (ltl x y = false ∧ ltl y x = true ∧ x ≠ y) ∨ (ltl x y = false ∧ ltl y x = false ∧ x = y) := by
  cases h1 : ltl x y with
  | true => exact .inl ⟨rfl, ltl_asym x y h1, fun e => by subst e; rw [ltl_irr] at h1; cases h1⟩
  | false =>
    cases h2 : ltl y x with
    | true => exact .inr (.inl ⟨rfl, rfl, fun e => by subst e; rw [ltl_irr] at h2; cases h2⟩)
    | false => exact .inr (.inr ⟨rfl, rfl, ltl_total x y h1 h2⟩)

set_option maxRecDepth 100000 in
set_option maxHeartbeats 8000000 in
theorem order_any (x y : List Int) (hx0 : IsId x) (hy0 : IsId y) (k c : Int) (hc0 : 0 ≤ c) (hc1 : c < 256) (w : World) : Calls Tryd.prog 6 #[idv x, idv y, .int .i64 k, .int .u8 c] w fun e w' => e = .returned (.bool true) ∧ Below w.heap.size w w' := by
  have hk := known_yes
  have B0 : Hid (O3 w w.heap.size (w.heap.size + 1) x y ((w.alloc (.cells (vals (cl x) 20).toArray 23)).alloc (.cells (vals (cl y) 20).toArray 23))) := by
    have r2 := rowIs_vals (w.alloc (.cells (vals (cl x) 20).toArray 23)) (cl y) 20 23
    rw [show (w.alloc (.cells (vals (cl x) 20).toArray 23)).heap.size = w.heap.size + 1 by simp] at r2
    exact ⟨(rowIs_vals w (cl x) 20 23).alloc _, r2, ((Below.refl _ _).alloc (Nat.le_refl _) _).alloc (by simp) _⟩
  have hxy := fun W => less_any x y hx0 hy0 W
  have hyx := fun W => less_any y x hy0 hx0 W
  have hhx := fun W => hex_any x hx0 W
  have hhy := fun W => hex_any y hy0 W
  have hlt := str_lss (hx x) (hx y) (fun b hb => (hx_byt x hx0.2 b hb).2) (fun b hb => (hx_byt y hy0.2 b hb).2)
  rw [ltl_hx x y hx0.2 hy0.2] at hlt
  have heq := fun W => eql_ids 23 Tryd.underlying23 hx0 hy0 W
  have HTX : Hid (∃ t, t = strOfNums (hx x)) := ⟨_, rfl⟩
  obtain ⟨tx, htx⟩ := HTX.out
  obtain ⟨ty, hty⟩ : ∃ t, t = strOfNums (hx y) := ⟨_, rfl⟩
  rw [← htx] at hhx hlt
  rw [← hty] at hhy hlt
  have HX : Hid (tx = strOfNums (hx x)) := htx
  clear htx hty HTX
  have c11 : Hid (∀ vs w, (callFunc 11 vs).run Tryd.prog w = .ok (.enter 11 vs) w) := fun vs w => by simp [go_sem]
  have c21 : Hid (∀ vs w, (callFunc 21 vs).run Tryd.prog w = .ok (.enter 21 vs) w) := fun vs w => by simp [go_sem]
  go_enter Tryd.func6, Tryd.ntmps6
  go_wp2_with (go_at_call 8; refine (hk _).mono ?_; rintro e w1 ⟨rfl, b1⟩; have B1 : Hid (O3 w w.heap.size (w.heap.size + 1) x y w1) := B0.out.keep b1; clear b1 B0)
  go_cut [50] from 16 to 49 (fun v W => v = .bool false ∧ O3 w w.heap.size (w.heap.size + 1) x y W)
  case first =>
    rcases order_ways x y with ⟨h1, h2, h3⟩ | ⟨h1, h2, h3⟩ | ⟨h1, h2, h3⟩
    · rw [h1] at hxy hlt
      rw [h2] at hyx
      simp only [decide_eq_false h3] at heq
      clear hk h1 h2 h3
      refine wp_region_quiet (C := fun W => O3 w w.heap.size (w.heap.size + 1) x y W) (by kernel_rfl) (by kernel_rfl) (B1.out.keep (Below.refl _ _).drew) ?_
      refine wpQuiet_step (fun K hK => ?_)
      (refine q_load (by rfl) 23 _ rfl ⟨w.heap.size, 0, none⟩ rfl (idv x) (fun W hW => row_load hW.a) (hK _ ?_); clear hK K)
      refine wpQuiet_step (fun K hK => ?_)
      (refine q_load (by rfl) 23 _ rfl ⟨w.heap.size + 1, 0, none⟩ rfl (idv y) (fun W hW => row_load hW.b) (hK _ ?_); clear hK K)
      refine wpQuiet_step (fun K hK => ?_)
      (refine q_call2 (by rfl) 21 c21.out _ _ _ rfl (idv x) (idv y) rfl rfl (.bool true) (fun W hW => (hxy W).mono (fun e w' h => ⟨h.1, hW.keep h.2⟩)) (hK _ ?_); clear hK K)
      refine wpQuiet_step (fun K hK => ?_)
      (refine q_load (by rfl) 23 _ rfl ⟨w.heap.size, 0, none⟩ rfl (idv x) (fun W hW => row_load hW.a) (hK _ ?_); clear hK K)
      refine wpQuiet_step (fun K hK => ?_)
      (refine q_call1 (by rfl) 11 c11.out _ _ rfl (idv x) rfl (.string tx) (fun W hW => (hhx W).mono (fun e w' h => ⟨h.1, hW.keep h.2⟩)) (hK _ ?_); clear hK K)
      refine wpQuiet_step (fun K hK => ?_)
      (refine q_load (by rfl) 23 _ rfl ⟨w.heap.size + 1, 0, none⟩ rfl (idv y) (fun W hW => row_load hW.b) (hK _ ?_); clear hK K)
      refine wpQuiet_step (fun K hK => ?_)
      (refine q_call1 (by rfl) 11 c11.out _ _ rfl (idv y) rfl (.string ty) (fun W hW => (hhy W).mono (fun e w' h => ⟨h.1, hW.keep h.2⟩)) (hK _ ?_); clear hK K)
      refine wpQuiet_step (fun K hK => ?_)
      (go_simp; refine ⟨_, fun wq hs => rfl, hK _ ?_⟩; clear hK K)
      refine wpQuiet_step (fun K hK => ?_)
      (go_simp; refine ⟨_, fun wq hs => rfl, hK _ ?_⟩; clear hK K)
      refine wpQuiet_step (fun K hK => ?_)
      (go_simp; refine ⟨_, fun wq hs => rfl, hK _ ?_⟩; clear hK K)
      refine wpQuiet_step (fun K hK => ?_)
      (refine q_load (by rfl) 23 _ rfl ⟨w.heap.size, 0, none⟩ rfl (idv x) (fun W hW => row_load hW.a) (hK _ ?_); clear hK K)
      refine wpQuiet_step (fun K hK => ?_)
      (refine q_load (by rfl) 23 _ rfl ⟨w.heap.size + 1, 0, none⟩ rfl (idv y) (fun W hW => row_load hW.b) (hK _ ?_); clear hK K)
      refine wpQuiet_step (fun K hK => ?_)
      (refine q_call2 (by rfl) 21 c21.out _ _ _ rfl (idv x) (idv y) rfl rfl (.bool true) (fun W hW => (hxy W).mono (fun e w' h => ⟨h.1, hW.keep h.2⟩)) (hK _ ?_); clear hK K)
      refine wpQuiet_step (fun K hK => ?_)
      (go_simp; refine ⟨_, fun wq hs => rfl, hK _ ?_⟩; clear hK K)
      refine wpQuiet_step (fun K hK => ?_)
      (refine q_load (by rfl) 23 _ rfl ⟨w.heap.size + 1, 0, none⟩ rfl (idv y) (fun W hW => row_load hW.b) (hK _ ?_); clear hK K)
      refine wpQuiet_step (fun K hK => ?_)
      (refine q_load (by rfl) 23 _ rfl ⟨w.heap.size, 0, none⟩ rfl (idv x) (fun W hW => row_load hW.a) (hK _ ?_); clear hK K)
      refine wpQuiet_step (fun K hK => ?_)
      (refine q_call2 (by rfl) 21 c21.out _ _ _ rfl (idv y) (idv x) rfl rfl (.bool false) (fun W hW => (hyx W).mono (fun e w' h => ⟨h.1, hW.keep h.2⟩)) (hK _ ?_); clear hK K)
      refine wpQuiet_step (fun K hK => ?_)
      (go_simp; refine ⟨_, fun wq hs => rfl, hK _ ?_⟩; clear hK K)
      refine wpQuiet_step (fun K hK => ?_)
      (go_simp; refine ⟨_, fun wq hs => rfl, hK _ ?_⟩; clear hK K)
      refine wpQuiet_step (fun K hK => ?_)
      (go_simp; refine ⟨_, fun wq hs => rfl, hK _ ?_⟩; clear hK K)
      refine wpQuiet_step (fun K hK => ?_)
      (refine q_load (by rfl) 23 _ rfl ⟨w.heap.size, 0, none⟩ rfl (idv x) (fun W hW => row_load hW.a) (hK _ ?_); clear hK K)
      refine wpQuiet_step (fun K hK => ?_)
      (refine q_load (by rfl) 23 _ rfl ⟨w.heap.size + 1, 0, none⟩ rfl (idv y) (fun W hW => row_load hW.b) (hK _ ?_); clear hK K)
      refine wpQuiet_step (fun K hK => ?_)
      (go_simp; refine ⟨_, fun wq hs => rfl, hK _ ?_⟩; clear hK K)
      refine wpQuiet_step (fun K hK => ?_)
      (refine q_load (by rfl) 23 _ rfl ⟨w.heap.size, 0, none⟩ rfl (idv x) (fun W hW => row_load hW.a) (hK _ ?_); clear hK K)
      refine wpQuiet_step (fun K hK => ?_)
      (refine q_load (by rfl) 23 _ rfl ⟨w.heap.size + 1, 0, none⟩ rfl (idv y) (fun W hW => row_load hW.b) (hK _ ?_); clear hK K)
      refine wpQuiet_step (fun K hK => ?_)
      (refine q_call2 (by rfl) 21 c21.out _ _ _ rfl (idv x) (idv y) rfl rfl (.bool true) (fun W hW => (hxy W).mono (fun e w' h => ⟨h.1, hW.keep h.2⟩)) (hK _ ?_); clear hK K)
      refine wpQuiet_step (fun K hK => ?_)
      (go_simp; refine ⟨_, fun wq hs => rfl, hK _ ?_⟩; clear hK K)
      refine wpQuiet_step (fun K hK => ?_)
      (go_simp; refine ⟨_, fun wq hs => rfl, hK _ ?_⟩; clear hK K)
      (with_reducible refine wpQuiet_step (fun K hK => ?_); go_simp; with_reducible refine hK _ ?_; clear hK K)
      (with_reducible refine wpQuiet_step (fun K hK => ?_); go_simp; with_reducible refine hK _ ?_; clear hK K)
      (with_reducible refine wpQuiet_step (fun K hK => ?_); go_simp; with_reducible refine hK _ ?_; clear hK K)
      (with_reducible refine wpQuiet_step (fun K hK => ?_); go_simp; with_reducible refine hK _ ?_; clear hK K)
      refine wpQuiet_step (fun K hK => ?_)
      (go_simp; refine ⟨_, fun wq hs => rfl, hK _ ?_⟩; clear hK K)
      refine wpQuiet_step (fun K hK => ?_)
      (go_simp; refine ⟨_, fun wq hs => rfl, hK _ ?_⟩; clear hK K)
      refine wpQuiet_step (fun K hK => ?_)
      (go_simp; refine ⟨_, fun wq hs => rfl, hK _ ?_⟩; clear hK K)
      refine wpQuiet_nil ?_
      intro w2 hw2
      go_wp2_with fail
      go_meet
      exact ⟨rfl, hw2⟩
    · rw [h1] at hxy hlt
      rw [h2] at hyx
      simp only [decide_eq_false h3] at heq
      clear hk h1 h2 h3
      refine wp_region_quiet (C := fun W => O3 w w.heap.size (w.heap.size + 1) x y W) (by kernel_rfl) (by kernel_rfl) (B1.out.keep (Below.refl _ _).drew) ?_
      refine wpQuiet_step (fun K hK => ?_)
      (refine q_load (by rfl) 23 _ rfl ⟨w.heap.size, 0, none⟩ rfl (idv x) (fun W hW => row_load hW.a) (hK _ ?_); clear hK K)
      refine wpQuiet_step (fun K hK => ?_)
      (refine q_load (by rfl) 23 _ rfl ⟨w.heap.size + 1, 0, none⟩ rfl (idv y) (fun W hW => row_load hW.b) (hK _ ?_); clear hK K)
      refine wpQuiet_step (fun K hK => ?_)
      (refine q_call2 (by rfl) 21 c21.out _ _ _ rfl (idv x) (idv y) rfl rfl (.bool false) (fun W hW => (hxy W).mono (fun e w' h => ⟨h.1, hW.keep h.2⟩)) (hK _ ?_); clear hK K)
      refine wpQuiet_step (fun K hK => ?_)
      (refine q_load (by rfl) 23 _ rfl ⟨w.heap.size, 0, none⟩ rfl (idv x) (fun W hW => row_load hW.a) (hK _ ?_); clear hK K)
      refine wpQuiet_step (fun K hK => ?_)
      (refine q_call1 (by rfl) 11 c11.out _ _ rfl (idv x) rfl (.string tx) (fun W hW => (hhx W).mono (fun e w' h => ⟨h.1, hW.keep h.2⟩)) (hK _ ?_); clear hK K)
      refine wpQuiet_step (fun K hK => ?_)
      (refine q_load (by rfl) 23 _ rfl ⟨w.heap.size + 1, 0, none⟩ rfl (idv y) (fun W hW => row_load hW.b) (hK _ ?_); clear hK K)
      refine wpQuiet_step (fun K hK => ?_)
      (refine q_call1 (by rfl) 11 c11.out _ _ rfl (idv y) rfl (.string ty) (fun W hW => (hhy W).mono (fun e w' h => ⟨h.1, hW.keep h.2⟩)) (hK _ ?_); clear hK K)
      refine wpQuiet_step (fun K hK => ?_)
      (go_simp; refine ⟨_, fun wq hs => rfl, hK _ ?_⟩; clear hK K)
      refine wpQuiet_step (fun K hK => ?_)
      (go_simp; refine ⟨_, fun wq hs => rfl, hK _ ?_⟩; clear hK K)
      refine wpQuiet_step (fun K hK => ?_)
      (go_simp; refine ⟨_, fun wq hs => rfl, hK _ ?_⟩; clear hK K)
      refine wpQuiet_step (fun K hK => ?_)
      (refine q_load (by rfl) 23 _ rfl ⟨w.heap.size, 0, none⟩ rfl (idv x) (fun W hW => row_load hW.a) (hK _ ?_); clear hK K)
      refine wpQuiet_step (fun K hK => ?_)
      (refine q_load (by rfl) 23 _ rfl ⟨w.heap.size + 1, 0, none⟩ rfl (idv y) (fun W hW => row_load hW.b) (hK _ ?_); clear hK K)
      refine wpQuiet_step (fun K hK => ?_)
      (refine q_call2 (by rfl) 21 c21.out _ _ _ rfl (idv x) (idv y) rfl rfl (.bool false) (fun W hW => (hxy W).mono (fun e w' h => ⟨h.1, hW.keep h.2⟩)) (hK _ ?_); clear hK K)
      refine wpQuiet_step (fun K hK => ?_)
      (go_simp; refine ⟨_, fun wq hs => rfl, hK _ ?_⟩; clear hK K)
      (with_reducible refine wpQuiet_step (fun K hK => ?_); go_simp; with_reducible refine hK _ ?_; clear hK K)
      (with_reducible refine wpQuiet_step (fun K hK => ?_); go_simp; with_reducible refine hK _ ?_; clear hK K)
      (with_reducible refine wpQuiet_step (fun K hK => ?_); go_simp; with_reducible refine hK _ ?_; clear hK K)
      refine wpQuiet_step (fun K hK => ?_)
      (go_simp; refine ⟨_, fun wq hs => rfl, hK _ ?_⟩; clear hK K)
      refine wpQuiet_step (fun K hK => ?_)
      (go_simp; refine ⟨_, fun wq hs => rfl, hK _ ?_⟩; clear hK K)
      refine wpQuiet_step (fun K hK => ?_)
      (go_simp; refine ⟨_, fun wq hs => rfl, hK _ ?_⟩; clear hK K)
      refine wpQuiet_step (fun K hK => ?_)
      (refine q_load (by rfl) 23 _ rfl ⟨w.heap.size, 0, none⟩ rfl (idv x) (fun W hW => row_load hW.a) (hK _ ?_); clear hK K)
      refine wpQuiet_step (fun K hK => ?_)
      (refine q_load (by rfl) 23 _ rfl ⟨w.heap.size + 1, 0, none⟩ rfl (idv y) (fun W hW => row_load hW.b) (hK _ ?_); clear hK K)
      refine wpQuiet_step (fun K hK => ?_)
      (go_simp; refine ⟨_, fun wq hs => rfl, hK _ ?_⟩; clear hK K)
      refine wpQuiet_step (fun K hK => ?_)
      (refine q_load (by rfl) 23 _ rfl ⟨w.heap.size, 0, none⟩ rfl (idv x) (fun W hW => row_load hW.a) (hK _ ?_); clear hK K)
      refine wpQuiet_step (fun K hK => ?_)
      (refine q_load (by rfl) 23 _ rfl ⟨w.heap.size + 1, 0, none⟩ rfl (idv y) (fun W hW => row_load hW.b) (hK _ ?_); clear hK K)
      refine wpQuiet_step (fun K hK => ?_)
      (refine q_call2 (by rfl) 21 c21.out _ _ _ rfl (idv x) (idv y) rfl rfl (.bool false) (fun W hW => (hxy W).mono (fun e w' h => ⟨h.1, hW.keep h.2⟩)) (hK _ ?_); clear hK K)
      refine wpQuiet_step (fun K hK => ?_)
      (go_simp; refine ⟨_, fun wq hs => rfl, hK _ ?_⟩; clear hK K)
      refine wpQuiet_step (fun K hK => ?_)
      (go_simp; refine ⟨_, fun wq hs => rfl, hK _ ?_⟩; clear hK K)
      refine wpQuiet_step (fun K hK => ?_)
      (refine q_load (by rfl) 23 _ rfl ⟨w.heap.size + 1, 0, none⟩ rfl (idv y) (fun W hW => row_load hW.b) (hK _ ?_); clear hK K)
      refine wpQuiet_step (fun K hK => ?_)
      (refine q_load (by rfl) 23 _ rfl ⟨w.heap.size, 0, none⟩ rfl (idv x) (fun W hW => row_load hW.a) (hK _ ?_); clear hK K)
      refine wpQuiet_step (fun K hK => ?_)
      (refine q_call2 (by rfl) 21 c21.out _ _ _ rfl (idv y) (idv x) rfl rfl (.bool true) (fun W hW => (hyx W).mono (fun e w' h => ⟨h.1, hW.keep h.2⟩)) (hK _ ?_); clear hK K)
      refine wpQuiet_step (fun K hK => ?_)
      (go_simp; refine ⟨_, fun wq hs => rfl, hK _ ?_⟩; clear hK K)
      refine wpQuiet_step (fun K hK => ?_)
      (go_simp; refine ⟨_, fun wq hs => rfl, hK _ ?_⟩; clear hK K)
      refine wpQuiet_step (fun K hK => ?_)
      (go_simp; refine ⟨_, fun wq hs => rfl, hK _ ?_⟩; clear hK K)
      refine wpQuiet_step (fun K hK => ?_)
      (go_simp; refine ⟨_, fun wq hs => rfl, hK _ ?_⟩; clear hK K)
      refine wpQuiet_nil ?_
      intro w2 hw2
      go_wp2_with fail
      go_meet
      exact ⟨rfl, hw2⟩
    · rw [h1] at hxy hlt
      rw [h2] at hyx
      simp only [decide_eq_true h3] at heq
      clear hk h1 h2 h3
      refine wp_region_quiet (C := fun W => O3 w w.heap.size (w.heap.size + 1) x y W) (by kernel_rfl) (by kernel_rfl) (B1.out.keep (Below.refl _ _).drew) ?_
      refine wpQuiet_step (fun K hK => ?_)
      (refine q_load (by rfl) 23 _ rfl ⟨w.heap.size, 0, none⟩ rfl (idv x) (fun W hW => row_load hW.a) (hK _ ?_); clear hK K)
      refine wpQuiet_step (fun K hK => ?_)
      (refine q_load (by rfl) 23 _ rfl ⟨w.heap.size + 1, 0, none⟩ rfl (idv y) (fun W hW => row_load hW.b) (hK _ ?_); clear hK K)
      refine wpQuiet_step (fun K hK => ?_)
      (refine q_call2 (by rfl) 21 c21.out _ _ _ rfl (idv x) (idv y) rfl rfl (.bool false) (fun W hW => (hxy W).mono (fun e w' h => ⟨h.1, hW.keep h.2⟩)) (hK _ ?_); clear hK K)
      refine wpQuiet_step (fun K hK => ?_)
      (refine q_load (by rfl) 23 _ rfl ⟨w.heap.size, 0, none⟩ rfl (idv x) (fun W hW => row_load hW.a) (hK _ ?_); clear hK K)
      refine wpQuiet_step (fun K hK => ?_)
      (refine q_call1 (by rfl) 11 c11.out _ _ rfl (idv x) rfl (.string tx) (fun W hW => (hhx W).mono (fun e w' h => ⟨h.1, hW.keep h.2⟩)) (hK _ ?_); clear hK K)
      refine wpQuiet_step (fun K hK => ?_)
      (refine q_load (by rfl) 23 _ rfl ⟨w.heap.size + 1, 0, none⟩ rfl (idv y) (fun W hW => row_load hW.b) (hK _ ?_); clear hK K)
      refine wpQuiet_step (fun K hK => ?_)
      (refine q_call1 (by rfl) 11 c11.out _ _ rfl (idv y) rfl (.string ty) (fun W hW => (hhy W).mono (fun e w' h => ⟨h.1, hW.keep h.2⟩)) (hK _ ?_); clear hK K)
      refine wpQuiet_step (fun K hK => ?_)
      (go_simp; refine ⟨_, fun wq hs => rfl, hK _ ?_⟩; clear hK K)
      refine wpQuiet_step (fun K hK => ?_)
      (go_simp; refine ⟨_, fun wq hs => rfl, hK _ ?_⟩; clear hK K)
      refine wpQuiet_step (fun K hK => ?_)
      (go_simp; refine ⟨_, fun wq hs => rfl, hK _ ?_⟩; clear hK K)
      refine wpQuiet_step (fun K hK => ?_)
      (refine q_load (by rfl) 23 _ rfl ⟨w.heap.size, 0, none⟩ rfl (idv x) (fun W hW => row_load hW.a) (hK _ ?_); clear hK K)
      refine wpQuiet_step (fun K hK => ?_)
      (refine q_load (by rfl) 23 _ rfl ⟨w.heap.size + 1, 0, none⟩ rfl (idv y) (fun W hW => row_load hW.b) (hK _ ?_); clear hK K)
      refine wpQuiet_step (fun K hK => ?_)
      (refine q_call2 (by rfl) 21 c21.out _ _ _ rfl (idv x) (idv y) rfl rfl (.bool false) (fun W hW => (hxy W).mono (fun e w' h => ⟨h.1, hW.keep h.2⟩)) (hK _ ?_); clear hK K)
      refine wpQuiet_step (fun K hK => ?_)
      (go_simp; refine ⟨_, fun wq hs => rfl, hK _ ?_⟩; clear hK K)
      (with_reducible refine wpQuiet_step (fun K hK => ?_); go_simp; with_reducible refine hK _ ?_; clear hK K)
      (with_reducible refine wpQuiet_step (fun K hK => ?_); go_simp; with_reducible refine hK _ ?_; clear hK K)
      (with_reducible refine wpQuiet_step (fun K hK => ?_); go_simp; with_reducible refine hK _ ?_; clear hK K)
      refine wpQuiet_step (fun K hK => ?_)
      (go_simp; refine ⟨_, fun wq hs => rfl, hK _ ?_⟩; clear hK K)
      refine wpQuiet_step (fun K hK => ?_)
      (go_simp; refine ⟨_, fun wq hs => rfl, hK _ ?_⟩; clear hK K)
      refine wpQuiet_step (fun K hK => ?_)
      (go_simp; refine ⟨_, fun wq hs => rfl, hK _ ?_⟩; clear hK K)
      refine wpQuiet_step (fun K hK => ?_)
      (refine q_load (by rfl) 23 _ rfl ⟨w.heap.size, 0, none⟩ rfl (idv x) (fun W hW => row_load hW.a) (hK _ ?_); clear hK K)
      refine wpQuiet_step (fun K hK => ?_)
      (refine q_load (by rfl) 23 _ rfl ⟨w.heap.size + 1, 0, none⟩ rfl (idv y) (fun W hW => row_load hW.b) (hK _ ?_); clear hK K)
      refine wpQuiet_step (fun K hK => ?_)
      (go_simp; refine ⟨_, fun wq hs => rfl, hK _ ?_⟩; clear hK K)
      refine wpQuiet_step (fun K hK => ?_)
      (refine q_load (by rfl) 23 _ rfl ⟨w.heap.size, 0, none⟩ rfl (idv x) (fun W hW => row_load hW.a) (hK _ ?_); clear hK K)
      refine wpQuiet_step (fun K hK => ?_)
      (refine q_load (by rfl) 23 _ rfl ⟨w.heap.size + 1, 0, none⟩ rfl (idv y) (fun W hW => row_load hW.b) (hK _ ?_); clear hK K)
      refine wpQuiet_step (fun K hK => ?_)
      (refine q_call2 (by rfl) 21 c21.out _ _ _ rfl (idv x) (idv y) rfl rfl (.bool false) (fun W hW => (hxy W).mono (fun e w' h => ⟨h.1, hW.keep h.2⟩)) (hK _ ?_); clear hK K)
      refine wpQuiet_step (fun K hK => ?_)
      (go_simp; refine ⟨_, fun wq hs => rfl, hK _ ?_⟩; clear hK K)
      refine wpQuiet_step (fun K hK => ?_)
      (go_simp; refine ⟨_, fun wq hs => rfl, hK _ ?_⟩; clear hK K)
      refine wpQuiet_step (fun K hK => ?_)
      (refine q_load (by rfl) 23 _ rfl ⟨w.heap.size + 1, 0, none⟩ rfl (idv y) (fun W hW => row_load hW.b) (hK _ ?_); clear hK K)
      refine wpQuiet_step (fun K hK => ?_)
      (refine q_load (by rfl) 23 _ rfl ⟨w.heap.size, 0, none⟩ rfl (idv x) (fun W hW => row_load hW.a) (hK _ ?_); clear hK K)
      refine wpQuiet_step (fun K hK => ?_)
      (refine q_call2 (by rfl) 21 c21.out _ _ _ rfl (idv y) (idv x) rfl rfl (.bool false) (fun W hW => (hyx W).mono (fun e w' h => ⟨h.1, hW.keep h.2⟩)) (hK _ ?_); clear hK K)
      refine wpQuiet_step (fun K hK => ?_)
      (go_simp; refine ⟨_, fun wq hs => rfl, hK _ ?_⟩; clear hK K)
      refine wpQuiet_step (fun K hK => ?_)
      (go_simp; refine ⟨_, fun wq hs => rfl, hK _ ?_⟩; clear hK K)
      refine wpQuiet_step (fun K hK => ?_)
      (go_simp; refine ⟨_, fun wq hs => rfl, hK _ ?_⟩; clear hK K)
      refine wpQuiet_step (fun K hK => ?_)
      (go_simp; refine ⟨_, fun wq hs => rfl, hK _ ?_⟩; clear hK K)
      refine wpQuiet_nil ?_
      intro w2 hw2
      go_wp2_with fail
      go_meet
      exact ⟨rfl, hw2⟩
  obtain ⟨rfl, hO⟩ := hcut
  have HO : Hid (O3 w w.heap.size (w.heap.size + 1) x y wc) := hO
  clear hO B1 hk hxy hyx hhy hlt heq c11 c21
  by_cases hk0 : k < 0
  · go_wp2_with fail
    go_ret
    exact ⟨rfl, HO.out.be⟩
  by_cases hk1 : 40 ≤ k
  · go_wp2_with fail
    go_ret
    exact ⟨rfl, HO.out.be⟩
  obtain ⟨n, rfl⟩ : ∃ n : Nat, k = n := ⟨k.toNat, by omega⟩
  have hn : n < 40 := by omega
  have hnz : (n : Int) < 40 := by omega
  have l1 : Hid _ := row_load HO.out.a
  go_wp2_with (refine wpList_ldv rfl 23 _ rfl ⟨w.heap.size, 0, none⟩ rfl (idv x) l1.out ?_)
  refine (hhx _).mono ?_
  rintro e w3 ⟨rfl, b3⟩
  have O3' : Hid (O3 w w.heap.size (w.heap.size + 1) x y w3) := HO.out.keep b3
  clear hhx b3 l1 HO
  obtain ⟨C, w4, hcv, hC, hcell, hb4⟩ := run_bytes tx w3
  have hsz : tx.size = 40 := by rw [HX.out, strOfNums_size, hx_len, hx0.1]
  have hns : ns tx = hx x := by rw [HX.out]; exact hx_ns x hx0
  rw [hsz] at hcv hC hcell
  rw [hns] at hcell
  have O4 : Hid (O3 w w.heap.size (w.heap.size + 1) x y w4) := O3'.out.keep hb4
  have hc4 := (hcell n hn).1
  have hf4 := (hcell n hn).2
  have HL3 : Hid (w.heap.size + 1 < w3.heap.size) := O3'.out.b.lt
  have hB4 : Hid (Below w3.heap.size w3 w4) := hb4
  -- what the turned text reads as
  have hrd : Rd (w4.setCell ⟨w3.heap.size, n, none⟩ (.int .u8 c)) (some ⟨w3.heap.size, 0, none⟩) 40 C ((hx x).set n c) := by
    refine ⟨hx_set_len x hx0 n c, hC, (fun e => by cases e), fun ad had j hj => ?_, fun b hb => ?_⟩
    · cases had
      rw [Addr.add_lit, Nat.zero_add]
      have e := set_bt (hx x) n j c (by rw [hx_len, hx0.1]; omega)
      have e2 : ((hx x).set n c).getD j 0 = bt ((hx x).set n c) j := rfl
      rw [e2, e]
      by_cases hjn : j = n
      · subst hjn
        rw [if_pos rfl]
        exact World.cell?_setCell_same _ _ _ hc4
      · rw [if_neg hjn, World.cell?_setCell_other _ _ _ _ (by simp only [ne_eq, Addr.mk.injEq, true_and, and_true]; omega)]
        exact (hcell j hj).1
    · rcases List.mem_or_eq_of_mem_set hb with hb | rfl
      · exact (hx_byt x hx0.2 b hb).2
      · exact ⟨hc0, hc1⟩
  have O5 : Hid (O3 w w.heap.size (w.heap.size + 1) x y (w4.setCell ⟨w3.heap.size, n, none⟩ (.int .u8 c))) := by
    have f := set_fr w4 w3.heap.size n (.int .u8 c)
    have := HL3.out
    exact ⟨rowIs_fr O4.out.a f (by omega), rowIs_fr O4.out.b f (by omega), O4.out.be.trans (f.below _ O4.out.be.size (fun i hi e => by omega))⟩
  have hst := hrd.str
  have hp := fun W => parse_any (strOfNums ((hx x).set n c)) W (by rw [strOfNums_size, hx_set_len x hx0]; omega)
  have hbs : ∀ b ∈ (hx x).set n c, 0 ≤ b ∧ b < 256 := hrd.byt
  rw [ns_str _ hbs] at hp
  obtain ⟨pc1, pc2, pc3⟩ := par_set x hx0 n hn c
  have HB : Hid (0 ≤ bt (hx x) n ∧ isS (bt (hx x) n)) := by
    have hm : bt (hx x) n ∈ hx x := by rw [bt_get (by rw [hx_len, hx0.1]; omega)]; exact List.getElem_mem _
    exact ⟨(hx_byt x hx0.2 _ hm).2.1, (hx_byt x hx0.2 _ hm).1⟩
  generalize strOfNums ((hx x).set n c) = t2 at *
  generalize bt (hx x) n = was at *
  clear hrd hbs hcell hb4 O4 hC
  go_wp2_with fail
  have HID : Hid (IsId x) := hx0
  clear hst hcv hc4 hf4 hnz hx0 hy0
  by_cases hcw : c = was
  · rw [pc1 hcw] at hp
    have he := fun W => eql_ids 23 Tryd.underlying23 HID.out HID.out W
    rw [decide_eq_true rfl] at he
    subst hcw
    clear pc1 pc2 pc3 HB
    refine (hp _).mono ?_
    rintro e w6 ⟨rfl, b6⟩
    have O6 : Hid (O3 w w.heap.size (w.heap.size + 1) x y w6) := O5.out.keep b6
    have z6 := z_row w6 23
    clear b6 hp O5
    go_wp2_with (first
      | (refine wpList_ldw (by rfl) 23 _ rfl ⟨w6.heap.size, 0, none⟩ rfl (idv x) l7.out ?_)
      | (refine wpList_ldw (by rfl) 23 _ rfl ⟨w.heap.size, 0, none⟩ rfl (idv x) l8.out ?_)
      | (refine wpList_st rfl 23 _ _ rfl w6.heap.size rfl (cl x) rfl z6 size23 (fun j => rfl) ?_; intro w7 r7 f7; have b7 := st_new (w := w6) f7; have l7 : Hid _ := row_load r7; have l8 : Hid _ := row_load (row_keep O6.out.a b7); have B7 : Hid (Below w.heap.size w w7) := O6.out.be.trans (b7.mono O6.out.be.size); clear z6 f7 b7 r7))
    go_ret
    exact ⟨rfl, B7.out⟩
  have hcw2 : (c == was) = false := by simp [hcw]
  by_cases hS : isS c
  · obtain ⟨y', e1, e2, e3⟩ := pc2 hcw hS
    rw [e1] at hp
    have he := fun W => eql_ids 23 Tryd.underlying23 e2 HID.out W
    simp only [decide_eq_false e3] at he
    clear pc1 pc2 pc3 HB e1 e2 e3 hcw
    rcases hS with ⟨s1, s2⟩ | ⟨s1, s2⟩
    · refine (hp _).mono ?_
      rintro e w6 ⟨rfl, b6⟩
      have O6 : Hid (O3 w w.heap.size (w.heap.size + 1) x y w6) := O5.out.keep b6
      have z6 := z_row w6 23
      clear b6 hp O5
      go_wp2_with (first
        | (refine wpList_ldw (by rfl) 23 _ rfl ⟨w6.heap.size, 0, none⟩ rfl (idv y') l7.out ?_)
        | (refine wpList_ldw (by rfl) 23 _ rfl ⟨w.heap.size, 0, none⟩ rfl (idv x) l8.out ?_)
        | (refine wpList_st rfl 23 _ _ rfl w6.heap.size rfl (cl y') rfl z6 size23 (fun j => rfl) ?_; intro w7 r7 f7; have b7 := st_new (w := w6) f7; have l7 : Hid _ := row_load r7; have l8 : Hid _ := row_load (row_keep O6.out.a b7); have B7 : Hid (Below w.heap.size w w7) := O6.out.be.trans (b7.mono O6.out.be.size); clear z6 f7 b7 r7))
      go_ret
      exact ⟨rfl, B7.out⟩
    · have s0 : ¬ c ≤ 57 := by omega
      refine (hp _).mono ?_
      rintro e w6 ⟨rfl, b6⟩
      have O6 : Hid (O3 w w.heap.size (w.heap.size + 1) x y w6) := O5.out.keep b6
      have z6 := z_row w6 23
      clear b6 hp O5
      go_wp2_with (first
        | (refine wpList_ldw (by rfl) 23 _ rfl ⟨w6.heap.size, 0, none⟩ rfl (idv y') l7.out ?_)
        | (refine wpList_ldw (by rfl) 23 _ rfl ⟨w.heap.size, 0, none⟩ rfl (idv x) l8.out ?_)
        | (refine wpList_st rfl 23 _ _ rfl w6.heap.size rfl (cl y') rfl z6 size23 (fun j => rfl) ?_; intro w7 r7 f7; have b7 := st_new (w := w6) f7; have l7 : Hid _ := row_load r7; have l8 : Hid _ := row_load (row_keep O6.out.a b7); have B7 : Hid (Below w.heap.size w w7) := O6.out.be.trans (b7.mono O6.out.be.size); clear z6 f7 b7 r7))
      go_ret
      exact ⟨rfl, B7.out⟩
  · rw [pc3 hS] at hp
    clear pc1 pc2 pc3 HB hcw
    have hS' : c < 48 ∨ (57 < c ∧ c < 97) ∨ 102 < c := by unfold isS at hS; omega
    clear hS
    rcases hS' with s1 | ⟨s1, s2⟩ | s1
    · refine (hp _).mono ?_
      rintro e w6 ⟨rfl, b6⟩
      have O6 : Hid (O3 w w.heap.size (w.heap.size + 1) x y w6) := O5.out.keep b6
      have z6 := z_row w6 23
      clear b6 hp O5
      go_wp2_with (first
        | (refine wpList_ldw (by rfl) 23 _ rfl ⟨w6.heap.size, 0, none⟩ rfl (idv z20) l7.out ?_)
        | (refine wpList_ldw (by rfl) 23 _ rfl ⟨w.heap.size, 0, none⟩ rfl (idv x) l8.out ?_)
        | (refine wpList_st rfl 23 _ _ rfl w6.heap.size rfl (cl z20) rfl z6 size23 (fun j => rfl) ?_; intro w7 r7 f7; have b7 := st_new (w := w6) f7; have l7 : Hid _ := row_load r7; have l8 : Hid _ := row_load (row_keep O6.out.a b7); have B7 : Hid (Below w.heap.size w w7) := O6.out.be.trans (b7.mono O6.out.be.size); clear z6 f7 b7 r7))
      go_ret
      exact ⟨rfl, B7.out⟩
    · refine (hp _).mono ?_
      rintro e w6 ⟨rfl, b6⟩
      have O6 : Hid (O3 w w.heap.size (w.heap.size + 1) x y w6) := O5.out.keep b6
      have z6 := z_row w6 23
      clear b6 hp O5
      go_wp2_with (first
        | (refine wpList_ldw (by rfl) 23 _ rfl ⟨w6.heap.size, 0, none⟩ rfl (idv z20) l7.out ?_)
        | (refine wpList_ldw (by rfl) 23 _ rfl ⟨w.heap.size, 0, none⟩ rfl (idv x) l8.out ?_)
        | (refine wpList_st rfl 23 _ _ rfl w6.heap.size rfl (cl z20) rfl z6 size23 (fun j => rfl) ?_; intro w7 r7 f7; have b7 := st_new (w := w6) f7; have l7 : Hid _ := row_load r7; have l8 : Hid _ := row_load (row_keep O6.out.a b7); have B7 : Hid (Below w.heap.size w w7) := O6.out.be.trans (b7.mono O6.out.be.size); clear z6 f7 b7 r7))
      go_ret
      exact ⟨rfl, B7.out⟩
    · refine (hp _).mono ?_
      rintro e w6 ⟨rfl, b6⟩
      have O6 : Hid (O3 w w.heap.size (w.heap.size + 1) x y w6) := O5.out.keep b6
      have z6 := z_row w6 23
      clear b6 hp O5
      go_wp2_with (first
        | (refine wpList_ldw (by rfl) 23 _ rfl ⟨w6.heap.size, 0, none⟩ rfl (idv z20) l7.out ?_)
        | (refine wpList_ldw (by rfl) 23 _ rfl ⟨w.heap.size, 0, none⟩ rfl (idv x) l8.out ?_)
        | (refine wpList_st rfl 23 _ _ rfl w6.heap.size rfl (cl z20) rfl z6 size23 (fun j => rfl) ?_; intro w7 r7 f7; have b7 := st_new (w := w6) f7; have l7 : Hid _ := row_load r7; have l8 : Hid _ := row_load (row_keep O6.out.a b7); have B7 : Hid (Below w.heap.size w w7) := O6.out.be.trans (b7.mono O6.out.be.size); clear z6 f7 b7 r7))
      go_ret
      refine ⟨?_, B7.out⟩
      have e1 : decide (c ≤ 57) = false := decide_eq_false (by omega)
      have e2 : decide (c ≤ 102) = false := decide_eq_false (by omega)
      show Ending.returned (Value.bool (!decide (c ≤ 57) && !decide (c ≤ 102))) = _
      rw [e1, e2]
      rfl


end Go.Proofs.YtmjcikomcnokkaaDoor
