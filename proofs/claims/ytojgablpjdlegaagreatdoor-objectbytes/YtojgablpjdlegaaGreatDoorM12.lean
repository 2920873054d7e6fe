/- The document's Put. -/
import Derived.Test.YtojgablpjdlegaaGreatDoorM11
namespace Go.Proofs.YtojgablpjdlegaaGreatDoor
open Go.RowKit

theorem step_bs0 {ops : Array Oper} {op : Oper} {a : Act} {w : World} {K : Act → World → Prop} {Q : Exit → Act → World → Prop} {E : Prop} (hgd : op.guard = none) (ho : op.op = .buildSlice 50 0 #[]) (B : Nat) (hB : B ≤ w.heap.size)
    (hk : ∀ w', Dn B w' (.slice (some ⟨w.heap.size, 0, none⟩) 0 0) #[] → Below w.heap.size w w' → w'.heap.size = w.heap.size + 1 → K (a.put op.dst (.slice (some ⟨w.heap.size, 0, none⟩) 0 0)) w') : if Region.wanted op (yielded ops a.tmps) = true then Oper.wp Tryz.prog op a w K Q else E := by
  have hw : Region.wanted op (yielded ops a.tmps) = true := by simp [Region.wanted, hgd]
  rw [if_pos hw]
  have h := run_bs0 w
  unfold Oper.wp
  simp only [execOp, ho, List.map_toArray, List.map_nil, Sem.run_bind, h, Result.andThen_ok, Sem.run_pure]
  refine hk _ ⟨World.ownsRow_lit (base := B) (e := 26) (size := 20) w #[] 0 hB (by unfold maxLen; omega) rfl, fun i hi => by simp at hi⟩ (new_below _ _) (by simp)

theorem step_bs1 {ops : Array Oper} {op : Oper} {a : Act} {w : World} {K : Act → World → Prop} {Q : Exit → Act → World → Prop} {E : Prop} (hgd : op.guard = none) (y : Operand) (ho : op.op = .buildSlice 50 1 #[(0, y)]) (x : List Int) (hy : a.eval y = idv x) (hx : IsId x)
    (hk : ∀ w', Is w' (.slice (some ⟨w.heap.size, 0, none⟩) 1 1) #[x] → Below w.heap.size w w' → w'.heap.size = w.heap.size + 1 → K (a.put op.dst (.slice (some ⟨w.heap.size, 0, none⟩) 1 1)) w') : if Region.wanted op (yielded ops a.tmps) = true then Oper.wp Tryz.prog op a w K Q else E := by
  have hw : Region.wanted op (yielded ops a.tmps) = true := by simp [Region.wanted, hgd]
  rw [if_pos hw]
  have h := run_bs1 x w
  unfold Oper.wp
  simp only [execOp, ho, List.map_toArray, List.map_cons, List.map_nil, hy, Sem.run_bind, h, Result.andThen_ok, Sem.run_pure]
  have hr : Rx (w.alloc (.cells (vals (cl x) 20).toArray 26)) w.heap.size 20 #[x] := ⟨⟨cl x, rowIs_vals w (cl x) 20 26, fun i hi j hj => by
    have : i < 1 := hi
    obtain rfl : i = 0 := by omega
    rw [Nat.zero_mul, Nat.zero_add]; rfl⟩, Nat.le_refl _, fun i hi => by
    have : i < 1 := hi
    obtain rfl : i = 0 := by omega
    exact hx⟩
  exact hk _ (hr.is 1 (Nat.le_refl _)) (new_below _ _) (by simp)

theorem step_appD {ops : Array Oper} {o : Oper} {a : Act} {w : World} {K : Act → World → Prop} {Q : Exit → Act → World → Prop} {E : Prop} (hgd : o.guard = none) (s y : Operand)
    (ho : o.op = .call { callee := .builtin .append, args := #[s, y], argTypes := #[50, 50] }) (B : Nat) (v : Value) (d e : Array (List Int)) (hs : a.eval s = v) (h : Dn B w v d) (ao : Option Addr) (m c : Nat) (hy : a.eval y = .slice ao m c) (he : Is w (.slice ao m c) e)
    (hlim : d.size + m < 200000) (hB : B ≤ w.heap.size) (hk : ∀ v' w', Dn B w' v' (d ++ e) → w.grownBy w' v.ownBlock → K (a.put o.dst v') w') : if Region.wanted o (yielded ops a.tmps) = true then Oper.wp Tryz.prog o a w K Q else E := by
  have hw : Region.wanted o (yielded ops a.tmps) = true := by simp [Region.wanted, hgd]
  rw [if_pos hw]
  exact wp_appD s y ho B v d e hs h ao m c hy he hlim hB hk

theorem dn_grown {B : Nat} {w w' : World} {v : Value} {d : Array (List Int)} (h : Dn B w v d) (hg : w.grownBy w' v.ownBlock) (hB : B ≤ w.heap.size) : Below B w w' := by
  refine (Below.refl _ w).grown hg hB (fun k hk => ?_)
  · rcases h.own.2 with ⟨e, _⟩ | ⟨g, cap, cur, e, hg, _⟩
    · rw [e] at hk; cases hk
    · rw [e] at hk; cases hk; exact hg

theorem Dn.weak {B B' : Nat} {w : World} {v : Value} {d : Array (List Int)} (h : Dn B w v d) (hB : B' ≤ B) : Dn B' w v d := by
  refine ⟨⟨h.own.1, ?_⟩, h.ids⟩
  rcases h.own.2 with h1 | ⟨g, cap, cur, e, hg, h2⟩
  · exact .inl h1
  · exact .inr ⟨g, cap, cur, e, Nat.le_trans hB hg, h2⟩

theorem wpList_sl35 {ops : Array Oper} {rest : List Oper} {op : Oper} {a : Act} {w : World} {Q : Exit → Act → World → Prop} (hgd : op.guard = none) (x : Operand) (lo hi : Option Operand) (ho : op.op = .slice 50 x lo hi none) (v : Value) (hx : a.eval x = v) (lo' hi' : Option Value) (hlo : lo.map a.eval = lo') (hhi : hi.map a.eval = hi') (u : Value)
    (h : ∀ W, (Instr.sliceAt 50 v lo' hi' none).run Tryz.prog W = .ok u W) (hk : wpList Tryz.prog ops Q rest (a.put op.dst u) w) : wpList Tryz.prog ops Q (op :: rest) a w := by
  refine wpList_plain hgd fun K hK => ?_
  unfold Oper.wp
  simp only [execOp, ho, hx, hlo, hhi, Option.map_none, Sem.run_bind, h w, Result.andThen_ok, Sem.run_pure]
  exact hK _ _ hk

theorem wpList_appD {ops : Array Oper} {rest : List Oper} {o : Oper} {a : Act} {w : World} {Q : Exit → Act → World → Prop} (hgd : o.guard = none) (s y : Operand)
    (ho : o.op = .call { callee := .builtin .append, args := #[s, y], argTypes := #[50, 50] }) (B : Nat) (v : Value) (d e : Array (List Int)) (hs : a.eval s = v) (h : Dn B w v d) (ao : Option Addr) (m c : Nat) (hy : a.eval y = .slice ao m c) (he : Is w (.slice ao m c) e)
    (hlim : d.size + m < 200000) (hB : B ≤ w.heap.size) (hk : ∀ v' w', Dn B w' v' (d ++ e) → w.grownBy w' v.ownBlock → wpList Tryz.prog ops Q rest (a.put o.dst v') w') : wpList Tryz.prog ops Q (o :: rest) a w :=
  wpList_plain hgd fun _ hK => wp_appD s y ho B v d e hs h ao m c hy he hlim hB fun v' w' g1 g2 => hK _ _ (hk v' w' g1 g2)

/-- A name put in at its place. -/
def ins (d : Array (List Int)) (k : Nat) (z : List Int) : Array (List Int) := (fst d k ++ #[z]) ++ snd d k

set_option maxRecDepth 100000 in
set_option maxHeartbeats 4000000 in
theorem put_new (B : Nat) (v : Value) (d : Array (List Int)) (z : List Int) (w : World) (h : Dn B w v d) (hu : Up d) (hz : IsId z) (hsz : d.size < 90000) (hno : ∀ i, i < d.size → d[i]! ≠ z) :
    Calls Tryz.prog 62 #[v, idv z] w fun e w' => ∃ v' k, e = .returned v' ∧ wh d z k ∧ Dn w.heap.size w' v' (ins d k z) ∧ Below w.heap.size w w' := by
  have HB0 : Hid (Below w.heap.size w (w.alloc (.cells (vals (cl z) 20).toArray 26))) := new_below _ _
  have hf := xfind_any B v d z (w.alloc (.cells (vals (cl z) 20).toArray 26)) (h.keep HB0.out) hu hz (by omega)
  have r0 := rowIs_vals w (cl z) 20 26
  have HBox : Hid (∀ W, Below (w.alloc (.cells (vals (cl z) 20).toArray 26)).heap.size (w.alloc (.cells (vals (cl z) 20).toArray 26)) W → (loadVar 26 ⟨w.heap.size, 0, none⟩).run Tryz.prog W = .ok (idv z) W) := fun W hW => box22 w W z hz hW
  have HD : Hid (Dn B w v d) := h
  have HNo : Hid (∀ i, i < d.size → d[i]! ≠ z) := hno
  have HS : Hid (d.size < 90000) := hsz
  clear h hu hno hsz
  go_enter Tryz.func62, Tryz.ntmps62
  go_wp2_with (refine wpList_ld0 rfl 26 _ rfl w.heap.size rfl _ r0 20 (by omega) Tryz.underlying26 rfl size22 ?_; clear r0)
  refine hf.mono ?_
  rintro e w1 ⟨k, rfl, hk, hB1⟩
  have hno' : (decide (k < d.size) && decide (d[k]! = z)) = false := by
    by_cases e : k < d.size
    · simp [HNo.out k e]
    · simp [e]
  rw [hno']
  have HK : Hid (wh d z k) := hk
  have HB1 : Hid (Below w.heap.size w w1) := HB0.out.trans (hB1.mono HB0.out.size)
  have HL : Hid (∀ W, Below w1.heap.size w1 W → (loadVar 26 ⟨w.heap.size, 0, none⟩).run Tryz.prog W = .ok (idv z) W) := fun W hW => HBox.out W (hB1.trans (hW.mono hB1.size))
  have hkn : k ≤ d.size := hk.1
  have D1 := HD.out.keep HB1.out
  obtain ⟨fo, fc, hfr, hfi⟩ := front35 D1 k hkn
  obtain ⟨bo, bm, bc, hbr, hbm, hbi⟩ := back35 D1 k hkn
  have HFr : Hid _ := hfr
  have HFi : Hid _ := hfi
  have HBr : Hid _ := hbr
  have HBi : Hid _ := hbi
  have HBm : Hid _ := hbm
  have HKn : Hid (k ≤ d.size) := hkn
  clear hf hno' hk hB1 HBox D1 hfr hfi hbr hbi hbm hkn HB0 HNo HD
  go_wp2_with fail
  have BD : Below w1.heap.size w1 w1.drew := (Below.refl _ _).drew
  refine wp_region_any (by kernel_rfl) (show wpAny _ _ _ _ _ _ _ w1.drew from ?_)
  refine wpAny_take (i := 1) (oi := ⟨some 17, _, _, _, _, _⟩) (v := ?_) rfl (by kernel_rfl) (by kernel_rfl) (by kernel_rfl) (fun _ _ _ h => h) (Or.inl ⟨by rfl, ?_⟩) ?_
  rotate_left
  · (intro w'; go_simp; try with_reducible rfl)
  try simp only [Act.put, List.setIfInBounds_toArray, List.set_cons_zero, List.set_cons_succ]
  refine wpAny_take (i := 2) (oi := ⟨some 18, _, _, _, _, _⟩) (v := ?_) rfl (by kernel_rfl) (by kernel_rfl) (by kernel_rfl) (fun _ _ _ h => h) (Or.inl ⟨by rfl, ?_⟩) ?_
  rotate_left
  · (intro w'; go_simp; try with_reducible rfl)
  try simp only [Act.put, List.setIfInBounds_toArray, List.set_cons_zero, List.set_cons_succ]
  refine wpAny_take (i := 3) (oi := ⟨some 19, _, _, _, _, _⟩) (v := .slice fo k fc) rfl (by kernel_rfl) (by kernel_rfl) (by kernel_rfl) (fun _ _ _ h => h) (Or.inl ⟨by rfl, ?_⟩) ?_
  · intro w'
    have h := HFr.out w'
    simp [execOp, h, Act.eval]
  try simp only [Act.put, List.setIfInBounds_toArray, List.set_cons_zero, List.set_cons_succ]
  refine wpAny_ready (rs := [0, 5]) (by kernel_rfl) (by simp) ?_
  refine (AllReady.cons (o := ⟨some 16, _, _, _, _, _⟩) rfl (fun K hK => ?_) (AllReady.cons (o := ⟨some 21, _, _, _, _, _⟩) rfl (fun K hK => ?_) AllReady.nil))
  · refine step_bs0 (w := w1.drew) rfl rfl w1.heap.size BD.size (fun W2 E0 b0 z0 => hK _ _ ?_)
    have B0 := BD.trans (b0.mono BD.size)
    clear hK K
    try simp only [Act.put, List.setIfInBounds_toArray, List.set_cons_zero, List.set_cons_succ]
    refine wpAny_ready (rs := [4, 5]) (by kernel_rfl) (by simp) ?_
    refine (AllReady.cons (o := ⟨some 20, _, _, _, _, _⟩) rfl (fun K hK => ?_) (AllReady.cons (o := ⟨some 21, _, _, _, _, _⟩) rfl (fun K hK => ?_) AllReady.nil))
    · refine step_appD (w := W2) rfl _ _ rfl w1.heap.size _ #[] (fst d k) rfl E0 fo k fc rfl (HFi.out W2 B0) (by have := HKn.out; have := HS.out; simp; omega) B0.size (fun v20 W3 F1 g1 => hK _ _ ?_)
      rw [Array.empty_append] at F1
      have B1 := B0.trans (dn_grown E0 g1 B0.size)
      clear hK K
      try simp only [Act.put, List.setIfInBounds_toArray, List.set_cons_zero, List.set_cons_succ]
      refine wpAny_ready (rs := [5]) (by kernel_rfl) (by simp) ?_
      refine (AllReady.cons (o := ⟨some 21, _, _, _, _, _⟩) rfl (fun K hK => ?_) AllReady.nil)
      refine step_ldv (w := W3) rfl 26 _ rfl ⟨w.heap.size, 0, none⟩ rfl (idv z) (HL.out W3 B1) (hK _ _ ?_)
      clear hK K
      try simp only [Act.put, List.setIfInBounds_toArray, List.set_cons_zero, List.set_cons_succ]
      refine wpAny_ready (rs := [6]) (by kernel_rfl) (by simp) ?_
      refine (AllReady.cons (o := ⟨some 22, _, _, _, _, _⟩) rfl (fun K hK => ?_) AllReady.nil)
      refine step_bs1 (w := W3) rfl _ rfl z rfl hz (fun W5 G3 b3 z3 => hK _ _ ?_)
      have B3 := B1.trans (b3.mono B1.size)
      have l3 : W3.heap.size < W5.heap.size := by omega
      have F3 := F1.keep b3
      clear hK K
      try simp only [Act.put, List.setIfInBounds_toArray, List.set_cons_zero, List.set_cons_succ]
      refine wpAny_ready (rs := [7]) (by kernel_rfl) (by simp) ?_
      refine (AllReady.cons (o := ⟨some 23, _, _, _, _, _⟩) rfl (fun K hK => ?_) AllReady.nil)
      refine step_appD (w := W5) rfl _ _ rfl w1.heap.size v20 (fst d k) #[z] rfl F3 _ 1 1 rfl G3 (by rw [fst_size d k HKn.out]; have := HKn.out; have := HS.out; omega) B3.size (fun v23 W6 X4 g4 => hK _ _ ?_)
      have B4 := B3.trans (dn_grown F3 g4 B3.size)
      clear hK K
      try simp only [Act.put, List.setIfInBounds_toArray, List.set_cons_zero, List.set_cons_succ]
      refine wpAny_ready (rs := [8]) (by kernel_rfl) (by simp) ?_
      refine (AllReady.cons (o := ⟨some 7, _, _, _, _, _⟩) rfl (fun K hK => ?_) AllReady.nil)
      go_simp
      refine hK _ _ ?_
      clear hK K
      try simp only [Act.put, List.setIfInBounds_toArray, List.set_cons_zero, List.set_cons_succ]
      refine wpAny_done (by kernel_rfl) ?_ _
      have I9 := HBi.out W6 B4
      have s9 : (fst d k ++ #[z]).size + bm < 200000 := by rw [Array.size_append, fst_size d k HKn.out]; have := HKn.out; have := HS.out; have := HBm.out; simp; omega
      have hr9 := HBr.out
      have X9 : Hid (Dn w1.heap.size W6 v23 (fst d k ++ #[z])) := X4
      have B9 : Hid (Below w1.heap.size w1 W6) := B4
      have HI9 : Hid _ := I9
      have HR9 : Hid _ := hr9
      have HS9 : Hid _ := s9
      clear I9 hr9 s9
      go_wp2_with (first
        | (refine wpList_sl35 rfl _ _ _ rfl v rfl (some (.int .i64 (k : Int))) none rfl rfl (.slice bo bm bc) HR9.out ?_)
        | (refine wpList_appD (w := W6) rfl _ _ rfl w1.heap.size v23 (fst d k ++ #[z]) (snd d k) rfl X9.out bo bm bc rfl HI9.out HS9.out B9.out.size ?_; intro v28 w28 g1 g2; have G1 : Hid _ := g1; have G2 : Hid (Below w1.heap.size w1 w28) := B9.out.trans (dn_grown X9.out g2 B9.out.size); clear g1 g2))
      go_ret
      exact ⟨_, k, rfl, HK.out, G1.out.weak HB1.out.size, HB1.out.trans (G2.out.mono HB1.out.size)⟩
    · refine step_ldv (w := W2) rfl 26 _ rfl ⟨w.heap.size, 0, none⟩ rfl (idv z) (HL.out W2 B0) (hK _ _ ?_)
      clear hK K
      try simp only [Act.put, List.setIfInBounds_toArray, List.set_cons_zero, List.set_cons_succ]
      refine wpAny_ready (rs := [4, 6]) (by kernel_rfl) (by simp) ?_
      refine (AllReady.cons (o := ⟨some 20, _, _, _, _, _⟩) rfl (fun K hK => ?_) (AllReady.cons (o := ⟨some 22, _, _, _, _, _⟩) rfl (fun K hK => ?_) AllReady.nil))
      · refine step_appD (w := W2) rfl _ _ rfl w1.heap.size _ #[] (fst d k) rfl E0 fo k fc rfl (HFi.out W2 B0) (by have := HKn.out; have := HS.out; simp; omega) B0.size (fun v20 W4 F2 g2 => hK _ _ ?_)
        rw [Array.empty_append] at F2
        have B2 := B0.trans (dn_grown E0 g2 B0.size)
        clear hK K
        try simp only [Act.put, List.setIfInBounds_toArray, List.set_cons_zero, List.set_cons_succ]
        refine wpAny_ready (rs := [6]) (by kernel_rfl) (by simp) ?_
        refine (AllReady.cons (o := ⟨some 22, _, _, _, _, _⟩) rfl (fun K hK => ?_) AllReady.nil)
        refine step_bs1 (w := W4) rfl _ rfl z rfl hz (fun W5 G3 b3 z3 => hK _ _ ?_)
        have B3 := B2.trans (b3.mono B2.size)
        have l3 : W4.heap.size < W5.heap.size := by omega
        have F3 := F2.keep b3
        clear hK K
        try simp only [Act.put, List.setIfInBounds_toArray, List.set_cons_zero, List.set_cons_succ]
        refine wpAny_ready (rs := [7]) (by kernel_rfl) (by simp) ?_
        refine (AllReady.cons (o := ⟨some 23, _, _, _, _, _⟩) rfl (fun K hK => ?_) AllReady.nil)
        refine step_appD (w := W5) rfl _ _ rfl w1.heap.size v20 (fst d k) #[z] rfl F3 _ 1 1 rfl G3 (by rw [fst_size d k HKn.out]; have := HKn.out; have := HS.out; omega) B3.size (fun v23 W6 X4 g4 => hK _ _ ?_)
        have B4 := B3.trans (dn_grown F3 g4 B3.size)
        clear hK K
        try simp only [Act.put, List.setIfInBounds_toArray, List.set_cons_zero, List.set_cons_succ]
        refine wpAny_ready (rs := [8]) (by kernel_rfl) (by simp) ?_
        refine (AllReady.cons (o := ⟨some 7, _, _, _, _, _⟩) rfl (fun K hK => ?_) AllReady.nil)
        go_simp
        refine hK _ _ ?_
        clear hK K
        try simp only [Act.put, List.setIfInBounds_toArray, List.set_cons_zero, List.set_cons_succ]
        refine wpAny_done (by kernel_rfl) ?_ _
        have I9 := HBi.out W6 B4
        have s9 : (fst d k ++ #[z]).size + bm < 200000 := by rw [Array.size_append, fst_size d k HKn.out]; have := HKn.out; have := HS.out; have := HBm.out; simp; omega
        have hr9 := HBr.out
        have X9 : Hid (Dn w1.heap.size W6 v23 (fst d k ++ #[z])) := X4
        have B9 : Hid (Below w1.heap.size w1 W6) := B4
        have HI9 : Hid _ := I9
        have HR9 : Hid _ := hr9
        have HS9 : Hid _ := s9
        clear I9 hr9 s9
        go_wp2_with (first
          | (refine wpList_sl35 rfl _ _ _ rfl v rfl (some (.int .i64 (k : Int))) none rfl rfl (.slice bo bm bc) HR9.out ?_)
          | (refine wpList_appD (w := W6) rfl _ _ rfl w1.heap.size v23 (fst d k ++ #[z]) (snd d k) rfl X9.out bo bm bc rfl HI9.out HS9.out B9.out.size ?_; intro v28 w28 g1 g2; have G1 : Hid _ := g1; have G2 : Hid (Below w1.heap.size w1 w28) := B9.out.trans (dn_grown X9.out g2 B9.out.size); clear g1 g2))
        go_ret
        exact ⟨_, k, rfl, HK.out, G1.out.weak HB1.out.size, HB1.out.trans (G2.out.mono HB1.out.size)⟩
      · refine step_bs1 (w := W2) rfl _ rfl z rfl hz (fun W4 G2 b2 z2 => hK _ _ ?_)
        have B2 := B0.trans (b2.mono B0.size)
        have l2 : W2.heap.size < W4.heap.size := by omega
        have E2 := E0.keep b2
        clear hK K
        try simp only [Act.put, List.setIfInBounds_toArray, List.set_cons_zero, List.set_cons_succ]
        refine wpAny_ready (rs := [4]) (by kernel_rfl) (by simp) ?_
        refine (AllReady.cons (o := ⟨some 20, _, _, _, _, _⟩) rfl (fun K hK => ?_) AllReady.nil)
        refine step_appD (w := W4) rfl _ _ rfl w1.heap.size _ #[] (fst d k) rfl E2 fo k fc rfl (HFi.out W4 B2) (by have := HKn.out; have := HS.out; simp; omega) B2.size (fun v20 W5 F3 g3 => hK _ _ ?_)
        rw [Array.empty_append] at F3
        have B3 := B2.trans (dn_grown E2 g3 B2.size)
        have G3 := G2.fr (Fr.ofGrown g3) (by show ¬ W2.heap.size = w1.drew.heap.size; omega) l2
        clear hK K
        try simp only [Act.put, List.setIfInBounds_toArray, List.set_cons_zero, List.set_cons_succ]
        refine wpAny_ready (rs := [7]) (by kernel_rfl) (by simp) ?_
        refine (AllReady.cons (o := ⟨some 23, _, _, _, _, _⟩) rfl (fun K hK => ?_) AllReady.nil)
        refine step_appD (w := W5) rfl _ _ rfl w1.heap.size v20 (fst d k) #[z] rfl F3 _ 1 1 rfl G3 (by rw [fst_size d k HKn.out]; have := HKn.out; have := HS.out; omega) B3.size (fun v23 W6 X4 g4 => hK _ _ ?_)
        have B4 := B3.trans (dn_grown F3 g4 B3.size)
        clear hK K
        try simp only [Act.put, List.setIfInBounds_toArray, List.set_cons_zero, List.set_cons_succ]
        refine wpAny_ready (rs := [8]) (by kernel_rfl) (by simp) ?_
        refine (AllReady.cons (o := ⟨some 7, _, _, _, _, _⟩) rfl (fun K hK => ?_) AllReady.nil)
        go_simp
        refine hK _ _ ?_
        clear hK K
        try simp only [Act.put, List.setIfInBounds_toArray, List.set_cons_zero, List.set_cons_succ]
        refine wpAny_done (by kernel_rfl) ?_ _
        have I9 := HBi.out W6 B4
        have s9 : (fst d k ++ #[z]).size + bm < 200000 := by rw [Array.size_append, fst_size d k HKn.out]; have := HKn.out; have := HS.out; have := HBm.out; simp; omega
        have hr9 := HBr.out
        have X9 : Hid (Dn w1.heap.size W6 v23 (fst d k ++ #[z])) := X4
        have B9 : Hid (Below w1.heap.size w1 W6) := B4
        have HI9 : Hid _ := I9
        have HR9 : Hid _ := hr9
        have HS9 : Hid _ := s9
        clear I9 hr9 s9
        go_wp2_with (first
          | (refine wpList_sl35 rfl _ _ _ rfl v rfl (some (.int .i64 (k : Int))) none rfl rfl (.slice bo bm bc) HR9.out ?_)
          | (refine wpList_appD (w := W6) rfl _ _ rfl w1.heap.size v23 (fst d k ++ #[z]) (snd d k) rfl X9.out bo bm bc rfl HI9.out HS9.out B9.out.size ?_; intro v28 w28 g1 g2; have G1 : Hid _ := g1; have G2 : Hid (Below w1.heap.size w1 w28) := B9.out.trans (dn_grown X9.out g2 B9.out.size); clear g1 g2))
        go_ret
        exact ⟨_, k, rfl, HK.out, G1.out.weak HB1.out.size, HB1.out.trans (G2.out.mono HB1.out.size)⟩
  · refine step_ldv (w := w1.drew) rfl 26 _ rfl ⟨w.heap.size, 0, none⟩ rfl (idv z) (HL.out w1.drew BD) (hK _ _ ?_)
    clear hK K
    try simp only [Act.put, List.setIfInBounds_toArray, List.set_cons_zero, List.set_cons_succ]
    refine wpAny_ready (rs := [0, 6]) (by kernel_rfl) (by simp) ?_
    refine (AllReady.cons (o := ⟨some 16, _, _, _, _, _⟩) rfl (fun K hK => ?_) (AllReady.cons (o := ⟨some 22, _, _, _, _, _⟩) rfl (fun K hK => ?_) AllReady.nil))
    · refine step_bs0 (w := w1.drew) rfl rfl w1.heap.size BD.size (fun W3 E1 b1 z1 => hK _ _ ?_)
      have B1 := BD.trans (b1.mono BD.size)
      clear hK K
      try simp only [Act.put, List.setIfInBounds_toArray, List.set_cons_zero, List.set_cons_succ]
      refine wpAny_ready (rs := [4, 6]) (by kernel_rfl) (by simp) ?_
      refine (AllReady.cons (o := ⟨some 20, _, _, _, _, _⟩) rfl (fun K hK => ?_) (AllReady.cons (o := ⟨some 22, _, _, _, _, _⟩) rfl (fun K hK => ?_) AllReady.nil))
      · refine step_appD (w := W3) rfl _ _ rfl w1.heap.size _ #[] (fst d k) rfl E1 fo k fc rfl (HFi.out W3 B1) (by have := HKn.out; have := HS.out; simp; omega) B1.size (fun v20 W4 F2 g2 => hK _ _ ?_)
        rw [Array.empty_append] at F2
        have B2 := B1.trans (dn_grown E1 g2 B1.size)
        clear hK K
        try simp only [Act.put, List.setIfInBounds_toArray, List.set_cons_zero, List.set_cons_succ]
        refine wpAny_ready (rs := [6]) (by kernel_rfl) (by simp) ?_
        refine (AllReady.cons (o := ⟨some 22, _, _, _, _, _⟩) rfl (fun K hK => ?_) AllReady.nil)
        refine step_bs1 (w := W4) rfl _ rfl z rfl hz (fun W5 G3 b3 z3 => hK _ _ ?_)
        have B3 := B2.trans (b3.mono B2.size)
        have l3 : W4.heap.size < W5.heap.size := by omega
        have F3 := F2.keep b3
        clear hK K
        try simp only [Act.put, List.setIfInBounds_toArray, List.set_cons_zero, List.set_cons_succ]
        refine wpAny_ready (rs := [7]) (by kernel_rfl) (by simp) ?_
        refine (AllReady.cons (o := ⟨some 23, _, _, _, _, _⟩) rfl (fun K hK => ?_) AllReady.nil)
        refine step_appD (w := W5) rfl _ _ rfl w1.heap.size v20 (fst d k) #[z] rfl F3 _ 1 1 rfl G3 (by rw [fst_size d k HKn.out]; have := HKn.out; have := HS.out; omega) B3.size (fun v23 W6 X4 g4 => hK _ _ ?_)
        have B4 := B3.trans (dn_grown F3 g4 B3.size)
        clear hK K
        try simp only [Act.put, List.setIfInBounds_toArray, List.set_cons_zero, List.set_cons_succ]
        refine wpAny_ready (rs := [8]) (by kernel_rfl) (by simp) ?_
        refine (AllReady.cons (o := ⟨some 7, _, _, _, _, _⟩) rfl (fun K hK => ?_) AllReady.nil)
        go_simp
        refine hK _ _ ?_
        clear hK K
        try simp only [Act.put, List.setIfInBounds_toArray, List.set_cons_zero, List.set_cons_succ]
        refine wpAny_done (by kernel_rfl) ?_ _
        have I9 := HBi.out W6 B4
        have s9 : (fst d k ++ #[z]).size + bm < 200000 := by rw [Array.size_append, fst_size d k HKn.out]; have := HKn.out; have := HS.out; have := HBm.out; simp; omega
        have hr9 := HBr.out
        have X9 : Hid (Dn w1.heap.size W6 v23 (fst d k ++ #[z])) := X4
        have B9 : Hid (Below w1.heap.size w1 W6) := B4
        have HI9 : Hid _ := I9
        have HR9 : Hid _ := hr9
        have HS9 : Hid _ := s9
        clear I9 hr9 s9
        go_wp2_with (first
          | (refine wpList_sl35 rfl _ _ _ rfl v rfl (some (.int .i64 (k : Int))) none rfl rfl (.slice bo bm bc) HR9.out ?_)
          | (refine wpList_appD (w := W6) rfl _ _ rfl w1.heap.size v23 (fst d k ++ #[z]) (snd d k) rfl X9.out bo bm bc rfl HI9.out HS9.out B9.out.size ?_; intro v28 w28 g1 g2; have G1 : Hid _ := g1; have G2 : Hid (Below w1.heap.size w1 w28) := B9.out.trans (dn_grown X9.out g2 B9.out.size); clear g1 g2))
        go_ret
        exact ⟨_, k, rfl, HK.out, G1.out.weak HB1.out.size, HB1.out.trans (G2.out.mono HB1.out.size)⟩
      · refine step_bs1 (w := W3) rfl _ rfl z rfl hz (fun W4 G2 b2 z2 => hK _ _ ?_)
        have B2 := B1.trans (b2.mono B1.size)
        have l2 : W3.heap.size < W4.heap.size := by omega
        have E2 := E1.keep b2
        clear hK K
        try simp only [Act.put, List.setIfInBounds_toArray, List.set_cons_zero, List.set_cons_succ]
        refine wpAny_ready (rs := [4]) (by kernel_rfl) (by simp) ?_
        refine (AllReady.cons (o := ⟨some 20, _, _, _, _, _⟩) rfl (fun K hK => ?_) AllReady.nil)
        refine step_appD (w := W4) rfl _ _ rfl w1.heap.size _ #[] (fst d k) rfl E2 fo k fc rfl (HFi.out W4 B2) (by have := HKn.out; have := HS.out; simp; omega) B2.size (fun v20 W5 F3 g3 => hK _ _ ?_)
        rw [Array.empty_append] at F3
        have B3 := B2.trans (dn_grown E2 g3 B2.size)
        have G3 := G2.fr (Fr.ofGrown g3) (by show ¬ W3.heap.size = w1.drew.heap.size; omega) l2
        clear hK K
        try simp only [Act.put, List.setIfInBounds_toArray, List.set_cons_zero, List.set_cons_succ]
        refine wpAny_ready (rs := [7]) (by kernel_rfl) (by simp) ?_
        refine (AllReady.cons (o := ⟨some 23, _, _, _, _, _⟩) rfl (fun K hK => ?_) AllReady.nil)
        refine step_appD (w := W5) rfl _ _ rfl w1.heap.size v20 (fst d k) #[z] rfl F3 _ 1 1 rfl G3 (by rw [fst_size d k HKn.out]; have := HKn.out; have := HS.out; omega) B3.size (fun v23 W6 X4 g4 => hK _ _ ?_)
        have B4 := B3.trans (dn_grown F3 g4 B3.size)
        clear hK K
        try simp only [Act.put, List.setIfInBounds_toArray, List.set_cons_zero, List.set_cons_succ]
        refine wpAny_ready (rs := [8]) (by kernel_rfl) (by simp) ?_
        refine (AllReady.cons (o := ⟨some 7, _, _, _, _, _⟩) rfl (fun K hK => ?_) AllReady.nil)
        go_simp
        refine hK _ _ ?_
        clear hK K
        try simp only [Act.put, List.setIfInBounds_toArray, List.set_cons_zero, List.set_cons_succ]
        refine wpAny_done (by kernel_rfl) ?_ _
        have I9 := HBi.out W6 B4
        have s9 : (fst d k ++ #[z]).size + bm < 200000 := by rw [Array.size_append, fst_size d k HKn.out]; have := HKn.out; have := HS.out; have := HBm.out; simp; omega
        have hr9 := HBr.out
        have X9 : Hid (Dn w1.heap.size W6 v23 (fst d k ++ #[z])) := X4
        have B9 : Hid (Below w1.heap.size w1 W6) := B4
        have HI9 : Hid _ := I9
        have HR9 : Hid _ := hr9
        have HS9 : Hid _ := s9
        clear I9 hr9 s9
        go_wp2_with (first
          | (refine wpList_sl35 rfl _ _ _ rfl v rfl (some (.int .i64 (k : Int))) none rfl rfl (.slice bo bm bc) HR9.out ?_)
          | (refine wpList_appD (w := W6) rfl _ _ rfl w1.heap.size v23 (fst d k ++ #[z]) (snd d k) rfl X9.out bo bm bc rfl HI9.out HS9.out B9.out.size ?_; intro v28 w28 g1 g2; have G1 : Hid _ := g1; have G2 : Hid (Below w1.heap.size w1 w28) := B9.out.trans (dn_grown X9.out g2 B9.out.size); clear g1 g2))
        go_ret
        exact ⟨_, k, rfl, HK.out, G1.out.weak HB1.out.size, HB1.out.trans (G2.out.mono HB1.out.size)⟩
    · refine step_bs1 (w := w1.drew) rfl _ rfl z rfl hz (fun W3 G1 b1 z1 => hK _ _ ?_)
      have B1 := BD.trans (b1.mono BD.size)
      have l1 : w1.drew.heap.size < W3.heap.size := by omega
      clear hK K
      try simp only [Act.put, List.setIfInBounds_toArray, List.set_cons_zero, List.set_cons_succ]
      refine wpAny_ready (rs := [0]) (by kernel_rfl) (by simp) ?_
      refine (AllReady.cons (o := ⟨some 16, _, _, _, _, _⟩) rfl (fun K hK => ?_) AllReady.nil)
      refine step_bs0 (w := W3) rfl rfl w1.heap.size B1.size (fun W4 E2 b2 z2 => hK _ _ ?_)
      have B2 := B1.trans (b2.mono B1.size)
      have G2 := G1.keep b2
      have l2 : w1.drew.heap.size < W4.heap.size := by omega
      clear hK K
      try simp only [Act.put, List.setIfInBounds_toArray, List.set_cons_zero, List.set_cons_succ]
      refine wpAny_ready (rs := [4]) (by kernel_rfl) (by simp) ?_
      refine (AllReady.cons (o := ⟨some 20, _, _, _, _, _⟩) rfl (fun K hK => ?_) AllReady.nil)
      refine step_appD (w := W4) rfl _ _ rfl w1.heap.size _ #[] (fst d k) rfl E2 fo k fc rfl (HFi.out W4 B2) (by have := HKn.out; have := HS.out; simp; omega) B2.size (fun v20 W5 F3 g3 => hK _ _ ?_)
      rw [Array.empty_append] at F3
      have B3 := B2.trans (dn_grown E2 g3 B2.size)
      have G3 := G2.fr (Fr.ofGrown g3) (by show ¬ w1.drew.heap.size = W3.heap.size; omega) l2
      clear hK K
      try simp only [Act.put, List.setIfInBounds_toArray, List.set_cons_zero, List.set_cons_succ]
      refine wpAny_ready (rs := [7]) (by kernel_rfl) (by simp) ?_
      refine (AllReady.cons (o := ⟨some 23, _, _, _, _, _⟩) rfl (fun K hK => ?_) AllReady.nil)
      refine step_appD (w := W5) rfl _ _ rfl w1.heap.size v20 (fst d k) #[z] rfl F3 _ 1 1 rfl G3 (by rw [fst_size d k HKn.out]; have := HKn.out; have := HS.out; omega) B3.size (fun v23 W6 X4 g4 => hK _ _ ?_)
      have B4 := B3.trans (dn_grown F3 g4 B3.size)
      clear hK K
      try simp only [Act.put, List.setIfInBounds_toArray, List.set_cons_zero, List.set_cons_succ]
      refine wpAny_ready (rs := [8]) (by kernel_rfl) (by simp) ?_
      refine (AllReady.cons (o := ⟨some 7, _, _, _, _, _⟩) rfl (fun K hK => ?_) AllReady.nil)
      go_simp
      refine hK _ _ ?_
      clear hK K
      try simp only [Act.put, List.setIfInBounds_toArray, List.set_cons_zero, List.set_cons_succ]
      refine wpAny_done (by kernel_rfl) ?_ _
      have I9 := HBi.out W6 B4
      have s9 : (fst d k ++ #[z]).size + bm < 200000 := by rw [Array.size_append, fst_size d k HKn.out]; have := HKn.out; have := HS.out; have := HBm.out; simp; omega
      have hr9 := HBr.out
      have X9 : Hid (Dn w1.heap.size W6 v23 (fst d k ++ #[z])) := X4
      have B9 : Hid (Below w1.heap.size w1 W6) := B4
      have HI9 : Hid _ := I9
      have HR9 : Hid _ := hr9
      have HS9 : Hid _ := s9
      clear I9 hr9 s9
      go_wp2_with (first
        | (refine wpList_sl35 rfl _ _ _ rfl v rfl (some (.int .i64 (k : Int))) none rfl rfl (.slice bo bm bc) HR9.out ?_)
        | (refine wpList_appD (w := W6) rfl _ _ rfl w1.heap.size v23 (fst d k ++ #[z]) (snd d k) rfl X9.out bo bm bc rfl HI9.out HS9.out B9.out.size ?_; intro v28 w28 g1 g2; have G1 : Hid _ := g1; have G2 : Hid (Below w1.heap.size w1 w28) := B9.out.trans (dn_grown X9.out g2 B9.out.size); clear g1 g2))
      go_ret
      exact ⟨_, k, rfl, HK.out, G1.out.weak HB1.out.size, HB1.out.trans (G2.out.mono HB1.out.size)⟩

end Go.Proofs.YtojgablpjdlegaaGreatDoor
