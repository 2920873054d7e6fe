/- Slices of parts; slices.Clone of one; newQueue; pair. -/
import Derived.Test.YtkclaikofdolmaaWPush
import Derived.Lib.AppendZeros
namespace Go.Proofs.Ytkclaikofdolmaa
open Go.RowKit

/-- The slice value '.slice ao n c' reads as the first n parts of f. -/
structure Rp (w : World) (ao : Option Addr) (n c : Nat) (f : Nat → It) : Prop where
  le : n ≤ c
  nul : ao = none → n = 0 ∧ c = 0
  cells : ∀ ad, ao = some ad → ∀ j, j < n → w.cell? (ad.add j) = some (pp (f j).1)
  prt : ∀ j, j < n → IsP w (f j).1 (f j).2

theorem Rp.nil (w : World) (f : Nat → It) : Rp w none 0 0 f := ⟨Nat.le_refl _, fun _ => ⟨rfl, rfl⟩, (fun _ h => by cases h), (fun _ h => by omega)⟩

theorem Rp.keep {w w' : World} {ao : Option Addr} {n c : Nat} {f : Nat → It} (h : Rp w ao n c f) (hb : Below w.heap.size w w') : Rp w' ao n c f :=
  ⟨h.le, h.nul, fun ad had j hj => by
    have hc := h.cells ad had j hj
    rw [hb.cell (World.block_lt_of_cell? w _ hc)]
    exact hc, fun j hj => (h.prt j hj).kp (Kp.ofBelow hb)⟩

theorem Rp.fr {P : Nat → Prop} {w w' : World} {ao : Option Addr} {n c : Nat} {f : Nat → It} (h : Rp w ao n c f) (hf : Fr P w w') (hs : ∀ ad, ao = some ad → ¬ P ad.block) (hk : Kp w w') : Rp w' ao n c f :=
  ⟨h.le, h.nul, fun ad had j hj => by
    have hc := h.cells ad had j hj
    have hbk : (ad.add j).block = ad.block := by unfold Addr.add; split <;> rfl
    have hlt := World.block_lt_of_cell? w _ hc
    rw [World.cell?_of_block (hf.block _ hlt (by rw [hbk]; exact hs ad had))]
    exact hc, fun j hj => (h.prt j hj).kp hk⟩

theorem Rp.plain {w : World} {ao : Option Addr} {n c : Nat} {f : Nat → It} (h : Rp w ao n c f) (hn : 0 < n) :
    ∃ b off, ao = some ⟨b, off, none⟩ ∧ ∀ j, j < n → w.cell? ⟨b, off + j, none⟩ = some (pp (f j).1) := by
  cases ao with
  | none => have := (h.nul rfl).1; omega
  | some ad =>
    obtain ⟨b, off, spot⟩ := ad
    have hc := h.cells _ rfl 0 hn
    have hspot : spot = none := by simpa [Addr.add] using World.cell?_spot hc
    subst hspot
    refine ⟨b, off, rfl, fun j hj => ?_⟩
    have := h.cells _ rfl j hj
    rwa [Addr.add_lit] at this

theorem Rp.cellsOf {w : World} {ao : Option Addr} {n c : Nat} {f : Nat → It} (h : Rp w ao n c f) : ∀ ad, ao = some ad → ∀ j u, (pps f n)[j]? = some u → w.cell? (ad.add j) = some u := by
  intro ad had j u hu
  have hj : j < n := by
    have := (List.getElem?_eq_some_iff.1 hu).1
    simpa [fst] using this
  rw [h.cells ad had j hj]
  rw [pps_get f n j hj] at hu
  exact hu

theorem pps_one (f : Nat → It) (n : Nat) : ∀ v ∈ pps f n, v.oneCell' = true := by
  intro v hv
  obtain ⟨x, _, rfl⟩ := List.mem_map.1 hv
  rfl

theorem pps_len (f : Nat → It) (n : Nat) : (pps f n).length = n := by simp [fst]

/-- A row of one's own, as a slice. -/
theorem own_rp {w : World} {base n : Nat} {v : Value} {f : Nat → It} (h : w.ownsRow base 82 1 v n (pps f n)) (hp : ∀ j, j < n → IsP w (f j).1 (f j).2) :
    ∃ ao c, v = .slice ao n c ∧ Rp w ao n c f ∧ ∀ ad, ao = some ad → v.ownBlock = some ad.block ∧ base ≤ ad.block := by
  rcases h.2 with ⟨rfl, rfl⟩ | ⟨g, cap, cur, rfl, hg, hh, hle, hrest⟩
  · exact ⟨none, 0, rfl, Rp.nil _ _, fun ad had => by cases had⟩
  · refine ⟨_, _, rfl, ⟨hle, (fun e => by cases e), fun ad had j hj => ?_, hp⟩, fun ad had => by cases had; exact ⟨rfl, hg⟩⟩
    cases had
    have := h.cells (g := g) rfl j (pp (f j).1) (pps_get f n j hj)
    simpa using this

set_option maxHeartbeats 400000 in
theorem pclone_any (ao : Option Addr) (n c : Nat) (f : Nat → It) (w : World) (h : Rp w ao n c f) (h0 : 0 < n) (hn : n ≤ 1000000) :
    Calls Try.prog 58 #[.slice ao n c] w fun e w' => ∃ A c', e = .returned (.slice (some ⟨A, 0, none⟩) n c') ∧ Ar w' A n c' f ∧ w.heap.size ≤ A ∧ Below w.heap.size w w' := by
  obtain ⟨i0, hi, hz0, hz1, hz2⟩ := info_parts Try.info82
  cases ao with
  | none => have := (h.nul rfl).1; omega
  | some ad =>
    have hcells := h.cellsOf ad rfl
    have HP : Hid (∀ j, j < n → IsP w (f j).1 (f j).2) := h.prt
    clear h
    have hq := fun w => Lib.run_eql_slice_nil (P := Try.prog) w 54 82 (some ad) n c 0 0 Try.underlying54
    go_enter Try.func58, Try.ntmps58
    go_wp2_with (at_builtin; refine wpList_append_own _ rfl _ _ 54 rfl w.heap.size 82 i0 (.pointer none) 1 8 Try.underlying54 hi hz0 hz1 hz2 rfl (by decide) _ 0 [] rfl ?_ ad n c (pps f n) rfl ?_ ?_ (pps_one _ _) ?_ ?_ ?_ ?_)
    · exact World.ownsRow_lit (base := w.heap.size) (e := 82) (size := 1) w #[] 0 (Nat.le_refl _) (by unfold maxLen; omega) rfl
    · rw [pps_len]; omega
    · intro j u hu
      have hc := hcells j u hu
      rw [((Below.refl _ _).alloc (Nat.le_refl _) _ : Below w.heap.size w (w.alloc (.cells #[] 82))).cell (World.block_lt_of_cell? w _ hc)]
      exact hc
    · unfold maxLen; omega
    · omega
    · simp
    · intro v' w2 hown2 hgrow2 hv'
      have hb2 : Below w.heap.size w w2 := ((Below.refl _ _).alloc (Nat.le_refl _) _).grown hgrow2 (by simp) (fun q hq => by cases hq; exact Nat.le_refl _)
      obtain ⟨A, c', rfl, hA⟩ : ∃ A c', v' = .slice (some ⟨A, 0, none⟩) n c' ∧ w.heap.size ≤ A := by
        rcases hown2.2 with ⟨_, e⟩ | ⟨g, cap, cur, rfl, hg, _⟩
        · omega
        · exact ⟨g, cap, rfl, hg⟩
      have har : Hid (Ar w2 A n c' f) := Ar.ofOwn hown2 (fun j hj => (HP.out j hj).kp (Kp.ofBelow hb2))
      clear hgrow2 hcells hv' hown2
      go_wp2
      go_ret
      exact ⟨A, c', rfl, har.out, hA, hb2⟩

set_option maxRecDepth 100000 in
set_option maxHeartbeats 1000000 in
theorem newq_any (ao : Option Addr) (n c : Nat) (f : Nat → It) (w : World) (h : Rp w ao n c f) (h0 : 0 < n) (hn : n ≤ 100000) :
    Calls Try.prog 46 #[.slice ao n c] w fun e w' => ∃ Q A c' f', e = .returned (.pointer (some ⟨Q, 0, none⟩)) ∧ IsQ w' Q A n c' f' ∧ Hp f' 0 n ∧ (fst f' n).Perm (fst f n) ∧ w.heap.size ≤ Q ∧ w.heap.size ≤ A ∧ Below w.heap.size w w' := by
  go_enter Try.func46, Try.ntmps46
  go_wp2_with fail
  refine (pclone_any ao n c f w h h0 (by omega)).mono ?_
  rintro e w1 ⟨A, c', rfl, har, hA, hb⟩
  have bx := World.rowIs_alloc w1 #[Value.slice (some ⟨A, 0, none⟩) n c'] 96 (fun _ => .slice (some ⟨A, 0, none⟩) n c') (fun i hi => by simp at hi; subst hi; rfl)
  have b1 : Below w1.heap.size w1 (w1.alloc (Obj.cells #[Value.slice (some ⟨A, 0, none⟩) n c'] 96)) := (Below.refl _ _).alloc (Nat.le_refl _) _
  have ha1 := har.fr (P := fun _ => False) (Fr.ofBelow b1) (fun h => h) (Kp.ofBelow b1)
  have HQ : Hid (IsQ (w1.alloc (Obj.cells #[Value.slice (some ⟨A, 0, none⟩) n c'] 96)) w1.heap.size A n c' f) := ⟨bx, ha1⟩
  have bt1 : Below w.heap.size w (w1.alloc (Obj.cells #[Value.slice (some ⟨A, 0, none⟩) n c'] 96)) := hb.alloc hb.size _
  have hs := hb.size
  clear har bx hb b1 ha1
  go_wp2_with fail
  refine (init_any _ A n c' f _ HQ.out hn).mono ?_
  rintro e w2 ⟨f2, rfl, q2, hp2, pm2, fr2⟩
  have R : Hid (IsQ w2 w1.heap.size A n c' f2 ∧ Hp f2 0 n ∧ (fst f2 n).Perm (fst f n)) := ⟨q2, hp2, pm2⟩
  have B2 : Below w.heap.size w w2 := bt1.trans (fr2.below _ bt1.size (fun i hi e => by omega))
  clear q2 hp2 pm2 fr2 HQ bt1
  go_wp2_with fail
  go_ret
  exact ⟨_, A, c', f2, rfl, R.out.1, R.out.2.1, R.out.2.2, hs, hA, B2⟩

theorem zero85 : ∀ w, (zeroValue 85).run Try.prog w = .ok (.agg #[.int .i64 0, .int .i64 0, .pointer none, .pointer none]) w := fun w => by
  have h : (Try.prog.info? 85).map (fun i => (i.zero, i.size)) = some (some (.agg #[.int .i64 0, .int .i64 0, .pointer none, .pointer none]), 4) := by kernel_rfl
  exact (zero_of_info h).1 w

set_option maxRecDepth 100000 in
set_option maxHeartbeats 4000000 in
theorem pair_any (Q A m c : Nat) (p : Int) (f : Nat → It) (w : World) (h : IsQ w Q A (m + 2) c f) (hm : m ≤ 10000) (hp : Hp f 0 (m + 2)) (hct : ∀ j, j < m + 2 → 0 ≤ (f j).2.ct ∧ (f j).2.ct ≤ 1000000000000) :
    Calls Try.prog 49 #[.pointer (some ⟨Q, 0, none⟩), .int .i64 p] w fun e w' => ∃ b x y f', e = .returned (pp b) ∧ IsP w' b (.node (x.ct + y.ct) p x y) ∧ IsQ w' Q A m c f' ∧ Hp f' 0 m ∧
      (∃ bx by', ((bx, x) :: (by', y) :: fst f' m).Perm (fst f (m + 2))) ∧ Ple x y ∧ (∀ z ∈ fst f' m, Ple y z.2) ∧ w.heap.size ≤ b ∧ Fr (fun k => k = Q ∨ k = A) w w' := by
  go_enter Try.func49, Try.ntmps49
  go_wp2_with fail
  refine (take_any Q A (m + 1) c f w h (by omega) hp).mono ?_
  rintro e w1 ⟨f1, rfl, q1, hp1, pm1, fr1⟩
  have kp1 := h.kp fr1
  have px : IsP w1 (f 0).1 (f 0).2 := (h.arr.prt 0 (by omega)).kp kp1
  have le1 : ∀ z ∈ fst f1 (m + 1), Ple (f 0).2 z.2 := fun z hz => by
    have := pm1.mem_iff.1 (List.mem_cons_of_mem _ hz)
    obtain ⟨k, hk, rfl⟩ := (fst_mem _ _ _).1 this
    exact hp.root k hk
  have S1 : Hid (IsQ w1 Q A (m + 1) c f1 ∧ Hp f1 0 (m + 1) ∧ (f 0 :: fst f1 (m + 1)).Perm (fst f (m + 2)) ∧ Fr (fun k => k = Q ∨ k = A) w w1 ∧ IsP w1 (f 0).1 (f 0).2 ∧ (∀ z ∈ fst f1 (m + 1), Ple (f 0).2 z.2)) := ⟨q1, hp1, pm1, fr1, px, le1⟩
  clear q1 hp1 pm1 fr1 kp1 px le1 h hp
  go_wp2_with fail
  refine (take_any Q A m c f1 w1 S1.out.1 (by omega) S1.out.2.1).mono ?_
  rintro e w2 ⟨f2, rfl, q2, hp2, pm2, fr2⟩
  have kp2 := S1.out.1.kp fr2
  have px : IsP w2 (f 0).1 (f 0).2 := S1.out.2.2.2.2.1.kp kp2
  have py : IsP w2 (f1 0).1 (f1 0).2 := (S1.out.1.arr.prt 0 (by omega)).kp kp2
  have le2 : ∀ z ∈ fst f2 m, Ple (f1 0).2 z.2 := fun z hz => by
    have := pm2.mem_iff.1 (List.mem_cons_of_mem _ hz)
    obtain ⟨k, hk, rfl⟩ := (fst_mem _ _ _).1 this
    exact S1.out.2.1.root k hk
  have le0 : Ple (f 0).2 (f1 0).2 := S1.out.2.2.2.2.2 _ ((fst_mem _ _ _).2 ⟨0, by omega, rfl⟩)
  have pm : (f 0 :: f1 0 :: fst f2 m).Perm (fst f (m + 2)) := (pm2.cons (f 0)).trans S1.out.2.2.1
  have frr : Fr (fun k => k = Q ∨ k = A) w w2 := S1.out.2.2.2.1.trans fr2 (fun _ _ e => e)
  have cx : 0 ≤ (f 0).2.ct ∧ (f 0).2.ct ≤ 1000000000000 := hct 0 (by omega)
  have cy : 0 ≤ (f1 0).2.ct ∧ (f1 0).2.ct ≤ 1000000000000 := by
    have := pm.mem_iff.1 (show f1 0 ∈ f 0 :: f1 0 :: fst f2 m by simp)
    obtain ⟨k, hk, e⟩ := (fst_mem _ _ _).1 this
    rw [← e]
    exact hct k hk
  generalize f 0 = X at *
  generalize f1 0 = Y at *
  obtain ⟨bx, x⟩ := X
  obtain ⟨by', y⟩ := Y
  simp only at px py le2 le0 cx cy
  obtain ⟨l1, r1, row1⟩ := px.row
  obtain ⟨l2, r2, row2⟩ := py.row
  have d1 := row1.cell (i := 0) (by omega)
  have d2 := row2.cell (i := 0) (by omega)
  simp only [pcells] at d1 d2
  have R : Hid (IsQ w2 Q A m c f2 ∧ Hp f2 0 m ∧ ((bx, x) :: (by', y) :: fst f2 m).Perm (fst f (m + 2)) ∧ Fr (fun k => k = Q ∨ k = A) w w2 ∧ IsP w2 bx x ∧ IsP w2 by' y ∧ Ple x y ∧ (∀ z ∈ fst f2 m, Ple y z.2)) := ⟨q2, hp2, pm, frr, px, py, le0, le2⟩
  clear q2 hp2 pm2 fr2 kp2 px py le2 le0 pm frr S1 row1 row2 hct
  obtain ⟨cx', hcx⟩ : ∃ z, z = x.ct := ⟨_, rfl⟩
  obtain ⟨cy', hcy⟩ : ∃ z, z = y.ct := ⟨_, rfl⟩
  rw [← hcx] at d1 cx
  rw [← hcy] at d2 cy
  have HC : Hid (cx' = x.ct ∧ cy' = y.ct) := ⟨hcx, hcy⟩
  clear hcx hcy
  have z85 := zero85
  go_wp2_with fail
  go_region
  go_wp2_with fail
  go_ret
  obtain ⟨rq, rh, rp, rf, rx, ry, rl, rm⟩ := R.out
  obtain ⟨e1, e2⟩ := HC.out
  have b1 : Below w2.heap.size w2 (w2.alloc (Obj.cells #[.int .i64 (cx' + cy'), .int .i64 p, pp bx, pp by'] 85)).drew := ((Below.refl _ _).alloc (Nat.le_refl _) _).drew
  have kp := Kp.ofBelow b1
  refine ⟨w2.heap.size, x, y, f2, rfl, ?_, ⟨rq.box.of_block (b1.block _ rq.box.lt), rq.arr.fr (P := fun _ => False) (Fr.ofBelow b1) (fun h => h) kp⟩, rh, ⟨bx, by', rp⟩, rl, rm, rf.size, rf.trans (Fr.ofBelow (P := fun _ => False) b1) (fun _ _ h => h.elim)⟩
  refine .node _ _ _ _ _ bx by' ?_ (rx.kp kp) (ry.kp kp)
  rw [← e1, ← e2]
  exact (World.rowIs_alloc w2 #[.int .i64 (cx' + cy'), .int .i64 p, pp bx, pp by'] 85 (pcells (cx' + cy') p (some bx) (some by')) (fun i hi => by
    simp at hi
    rcases i with _ | _ | _ | _ | i <;> first | rfl | omega))

/-- 'append(v, ys...)', v the call's own or nil, ys nil or not. -/
theorem wpList_append_pv {w : World} {ops : Array Oper} {rest : List Oper} {o : Oper} {a : Act} {Q : Exit → Act → World → Prop} (hgd : o.guard = none) (s x : Operand)
    (ho : o.op = .call { callee := .builtin .append, args := #[s, x], argTypes := #[54, 54] })
    (base n : Nat) (v : Value) (xs : List Value) (hs : a.eval s = v) (hown : w.ownsRow base 82 1 v n xs)
    (ao : Option Addr) (m c : Nat) (f : Nat → It) (hx : a.eval x = .slice ao m c) (hr : Rp w ao m c f) (hlim : n + m ≤ 1000000000) (hbase : base ≤ w.heap.size)
    (h : ∀ v' w', w'.ownsRow base 82 1 v' (n + m) (xs ++ pps f m) → w.grownBy w' v.ownBlock → wpList Try.prog ops Q rest (a.put o.dst v') w') :
    wpList Try.prog ops Q (o :: rest) a w := by
  obtain ⟨i0, hi, hz0, hz1, hz2⟩ := info_parts Try.info82
  cases ao with
  | none =>
    obtain ⟨rfl, rfl⟩ := hr.nul rfl
    refine wpList_append_own_none hgd s x 54 ho base 82 i0 1 Try.underlying54 hi _ n _ hs hown hx ?_
    exact h v w (by rw [show pps f 0 = [] from rfl, List.append_nil]; exact hown) (World.grownBy.refl _ _)
  | some ad =>
    refine wpList_append_own w hgd s x 54 ho base 82 i0 (.pointer none) 1 8 Try.underlying54 hi hz0 hz1 hz2 rfl (by decide) _ n _ hs hown ad m c (pps f m) hx (by rw [pps_len]; omega) (hr.cellsOf ad rfl) (pps_one _ _)
      (by unfold maxLen; omega) (by omega) hbase ?_
    intro v' w' h1 h2 h3
    exact h v' w' (by simpa using h1) h2

set_option maxRecDepth 100000 in
set_option maxHeartbeats 1000000 in
theorem grow_any (n : Nat) (w : World) (h0 : 0 < n) (hn : n ≤ 100000) :
    Calls Try.prog 60 #[.slice none 0 0, .int .i64 n] w fun e w' => ∃ v, e = .returned v ∧ w'.ownsRow w.heap.size 82 1 v 0 [] ∧ Below w.heap.size w w' := by
  obtain ⟨i0, hi, hz0, hz1, hz2⟩ := info_parts Try.info82
  have d1 : decide ((n : Int) < 0) = false := by simp
  have d2 : decide ((0 : Int) < (n : Int)) = true := by simp; omega
  have hrun := Lib.run_append_nil_zeros (P := Try.prog) w 54 3 54 82 i0 (.pointer none) .i64 .i64 Try.underlying54 Try.underlying3 hi hz0 n h0 (by omega) (by omega) (by rw [hz2]; omega)
  go_enter Try.func60, Try.ntmps60
  go_wp2_with (at_builtin; refine Lib.wpList_append_run _ rfl _ _ _ _ rfl _ _ rfl rfl _ _ hrun ?_)
  go_ret
  refine ⟨_, rfl, World.ownsRow_made w _ _ (Nat.le_refl _) (grownCap_le_maxLen w n 0 82 (by unfold maxLen; omega)) ?_, ((Below.refl _ _).alloc (Nat.le_refl _) _).drew⟩
  have hge := grownCap_ge w n 0 82
  simp only [Array.size_append, size_zeroCells]
  simp
  omega

set_option maxRecDepth 100000 in
set_option maxHeartbeats 2000000 in
theorem concat_any (R n c m d : Nat) (ao bo : Option Addr) (f g : Nat → It) (w : World) (hf : Rp w ao n c f) (hg : Rp w bo m d g) (h0 : 0 < n) (hn : n + m ≤ 100000)
    (k0 : w.cell? ⟨R, 0, none⟩ = some (.slice ao n c)) (k1 : w.cell? ⟨R, 1, none⟩ = some (.slice bo m d)) :
    Calls Try.prog 47 #[.slice (some ⟨R, 0, none⟩) 2 2] w fun e w' => ∃ v, e = .returned v ∧ w'.ownsRow w.heap.size 82 1 v (n + m) (pps f n ++ pps g m) ∧ Below w.heap.size w w' := by
  have HF : Hid (Rp w ao n c f) := hf
  have HG : Hid (Rp w bo m d g) := hg
  have hR0 := World.block_lt_of_cell? w _ k0
  have hR1 := World.block_lt_of_cell? w _ k1
  clear hf hg
  go_enter Try.func47, Try.ntmps47
  go_wp2
  go_loop [3, 5, 11] (fun sv _ iv => (iv = .int .i64 0 ∧ sv = .int .i64 0) ∨ (iv = .int .i64 1 ∧ sv = .int .i64 n) ∨ (iv = .int .i64 2 ∧ sv = .int .i64 ((n + m : Nat) : Int))) (fun _ _ iv => 2 - (intOf iv).toNat)
  case atStart => exact .inl ⟨rfl, rfl⟩
  case round =>
    rcases hrel with ⟨rfl, rfl⟩ | ⟨rfl, rfl⟩ | ⟨rfl, rfl⟩
    · have q1 : decide ((n : Int) < 0) = false := by simp
      go_wp2
      go_round
      case rel => exact .inr (.inl ⟨rfl, rfl⟩)
      case measure => simp [intOf]
    · have q1 : decide ((n : Int) + (m : Int) < 0) = false := by simp; omega
      go_wp2
      go_round
      case rel => exact .inr (.inr ⟨rfl, by rw [Int.natCast_add]⟩)
      case measure => simp [intOf]
    · obtain ⟨N, hN⟩ : ∃ N, N = n + m := ⟨_, rfl⟩
      rw [← hN]
      have HN : Hid (N = n + m) := hN
      clear hN
      go_wp2_with fail
      refine (grow_any N w (by have := HN.out; omega) (by have := HN.out; omega)).mono ?_
      rintro e w1 ⟨v1, rfl, o1, b1⟩
      have c0 : w1.cell? ⟨R, 0, none⟩ = some (.slice ao n c) := (b1.cell hR0).trans k0
      have c1 : w1.cell? ⟨R, 1, none⟩ = some (.slice bo m d) := (b1.cell hR1).trans k1
      have O1 : Hid (w1.ownsRow w.heap.size 82 1 v1 0 []) := o1
      have B1 : Hid (Below w.heap.size w w1) := b1
      clear o1 b1
      go_wp2
      go_loopw [6, 8, 27] (fun rv _ iv wr => ∃ v, rv = v ∧ Hid (Below w.heap.size w wr) ∧ ((iv = .int .i64 0 ∧ Hid (wr.ownsRow w.heap.size 82 1 v 0 [])) ∨ (iv = .int .i64 1 ∧ Hid (wr.ownsRow w.heap.size 82 1 v n (pps f n))) ∨ (iv = .int .i64 2 ∧ Hid (wr.ownsRow w.heap.size 82 1 v (n + m) (pps f n ++ pps g m))))) (fun _ _ iv _ => 2 - (intOf iv).toNat)
      case atStart => exact ⟨v1, rfl, B1, .inl ⟨rfl, O1⟩⟩
      case round =>
        clear B1 O1 c0 c1
        obtain ⟨v, rfl, BW, hcase⟩ := hrel
        have c0 : wr.cell? ⟨R, 0, none⟩ = some (.slice ao n c) := (BW.out.cell hR0).trans k0
        have c1 : wr.cell? ⟨R, 1, none⟩ = some (.slice bo m d) := (BW.out.cell hR1).trans k1
        rcases hcase with ⟨rfl, OW⟩ | ⟨rfl, OW⟩ | ⟨rfl, OW⟩
        · go_wp2_with (refine wpList_append_pv rfl _ _ rfl w.heap.size 0 _ [] rfl OW.out ao n c f rfl (HF.out.keep BW.out) (by omega) BW.out.size ?_; intro v5 w5 o5 g5)
          have o5' : Hid (w5.ownsRow w.heap.size 82 1 v5 n (pps f n)) := by rw [Nat.zero_add, List.nil_append] at o5; exact o5
          have b5 : Hid (Below w.heap.size w w5) := BW.out.grown g5 BW.out.size (fun q hq => (OW.out.lt q hq).1)
          clear o5 g5 OW BW c0 c1
          go_wp2_with fail
          go_roundw
          case rel => exact ⟨v5, rfl, b5, .inr (.inl ⟨rfl, o5'⟩)⟩
          case measure => simp [intOf]
        · go_wp2_with (refine wpList_append_pv rfl _ _ rfl w.heap.size n _ (pps f n) rfl OW.out bo m d g rfl (HG.out.keep BW.out) (by omega) BW.out.size ?_; intro v5 w5 o5 g5)
          have o5' : Hid (w5.ownsRow w.heap.size 82 1 v5 (n + m) (pps f n ++ pps g m)) := o5
          have b5 : Hid (Below w.heap.size w w5) := BW.out.grown g5 BW.out.size (fun q hq => (OW.out.lt q hq).1)
          clear o5 g5 OW BW c0 c1
          go_wp2_with fail
          go_roundw
          case rel => exact ⟨v5, rfl, b5, .inr (.inr ⟨rfl, o5'⟩)⟩
          case measure => simp [intOf]
        · clear c0 c1
          go_wp2
          go_ret
          exact ⟨_, rfl, OW.out, BW.out⟩

end Go.Proofs.Ytkclaikofdolmaa
