/- Rdt, Rtp. -/
import Derived.Test.YtojgablpjdlegaaGreatDoorMR1
import Derived.Test.YtojgablpjdlegaaGreatDoorMC12
/- The document's DecodeTag, whatever the bytes. -/
namespace Go.Proofs.YtojgablpjdlegaaGreatDoor
open Go.RowKit Go.Shelf

abbrev gz : Value := tmv z20 0 [] [] []

/-- Bytes that no tag has. -/
def notg (xs : List Int) : Prop := ∀ T K N G M, IsId T → mbT K N G = true → encT T K N G M ≠ tb xs

set_option maxRecDepth 100000 in
theorem rdecG_far (ao : Option Addr) (n c : Nat) (w : World) (hn : 16384 < n) :
    Calls Tryz.prog 26 #[.slice ao n c] w fun e w' => e = .returned (.tuple #[gz, .int .i64 5]) ∧ Below w.heap.size w w' := by
  have d1 : decide ((16384 : Int) < n) = true := by simp; omega
  have d2 : decide (16384 < n) = true := by simp; omega
  have hz := zero60
  have r0 := rowIs_vals w (tf z20 0 [] [] []) 24 60
  have HB : Hid (Below w.heap.size w (w.alloc (Obj.cells (vals (tf z20 0 [] [] []) 24).toArray 60))) := new_below _ _
  clear hn
  go_enter Tryz.func26, Tryz.ntmps26
  go_wp2_with ((refine wpList_st rfl 60 _ _ rfl w.heap.size rfl (tf z20 0 [] [] []) rfl r0 (by kernel_rfl) (tf_one _ _ _ _ _) ?_; intro w2 r2 f2; have HB2 : Hid (Below w.heap.size w w2) := new_fr f2; clear f2))
  refine bodyPost_ret (results_two (fn := Tryz.f26) (p := 2) (q := 3) (ty := 60) (by kernel_rfl) _ (by rfl) r2 Tryz.underlying60 rfl (by kernel_rfl)) rfl ⟨rfl, HB2.out⟩

theorem rencG2 (x : List Int) (k : Int) (N G M : List UInt8) (w : World) (hx : IsId x) (hN : N.length ≤ 20000) (hG : G.length ≤ 20000) (hM : M.length ≤ 100000) :
    Calls Tryz.prog 45 #[tmv x k N G M] w fun e w' => ∃ ao n c, e = .returned (.tuple #[.slice ao n c, .int .i64 (et x k N G M)]) ∧ Rd w' ao n c (xt x k N G M) ∧ Below w.heap.size w w' := by
  unfold xt et
  by_cases hm : mbT k N G = true
  · rw [if_pos hm]
    refine (rencTag_any x k N G M w hx hM hm).mono ?_
    rintro e w' ⟨ao, n, c, h1, h2, h3⟩
    refine ⟨ao, n, c, h1, ?_, h3⟩
    by_cases hl : (encT x k N G M).length ≤ 16384
    · rw [if_pos hl, if_pos rfl]; rw [if_pos hl] at h2; exact h2
    · rw [if_neg hl, if_neg (by decide)]; rw [if_neg hl] at h2; exact h2
  · rw [if_neg hm]
    refine (rencTag_no x k N G M w (by omega) (by omega) (by simpa using hm)).mono ?_
    rintro e w' ⟨h1, h2⟩
    exact ⟨none, 0, 0, h1, by rw [if_neg (by decide)]; exact Rd.nil _, h2⟩

theorem yi_b60 {ops : Array Oper} {S : World → Prop} {o : Oper} {a : Act} (hw : Region.wanted o (yielded ops a.tmps) = true) (x0 x1 x2 x3 x4 : Operand) (ho : o.op = .build 60 #[(0, x0), (1, x1), (2, x2), (3, x3), (4, x4)]) (T : List Int) (k : Int) (N G M : List UInt8) (h0 : a.eval x0 = idv T) (h1 : a.eval x1 = .int .i64 k) (h2 : a.eval x2 = sv N) (h3 : a.eval x3 = sv G) (h4 : a.eval x4 = sv M) : YieldsIf Tryz.prog ops S o (tmv T k N G M) a := by
  refine Or.inl ⟨hw, fun V hV => ?_⟩
  have h := run_b60 T k N G M V
  unfold execOp
  simp only [ho]
  rw [show (#[(0, x0), (1, x1), (2, x2), (3, x3), (4, x4)] : Array (Nat × Operand)).map (fun (i, y) => (i, a.eval y)) = #[(0, idv T), (1, .int .i64 k), (2, sv N), (3, sv G), (4, sv M)] by simp [h0, h1, h2, h3, h4]]
  simp only [Sem.run_bind, h, Result.andThen_ok]
  rfl

theorem yi_ldt {ops : Array Oper} {S : World → Prop} {o : Oper} {a : Act} (hw : Region.wanted o (yielded ops a.tmps) = true) (ty : TypeId) (x : Operand) (ho : o.op = .load ty x) (ad : Addr) (hx : a.eval x = .pointer (some ad)) (v : Value)
    (hr : ∀ V, S V → (loadVar ty ad).run Tryz.prog V = .ok v V) : YieldsIf Tryz.prog ops S o v a := by
  refine Or.inl ⟨hw, fun V hV => ?_⟩
  unfold execOp
  simp only [ho, hx, Instr.loadAt, Instr.sureAddr, Sem.run_bind, Sem.run_pure, Result.andThen_ok, hr V hV]

theorem yi_sub {ops : Array Oper} {S : World → Prop} {o : Oper} {a : Act} (hw : Region.wanted o (yielded ops a.tmps) = true) (x : Operand) (lo hi : Option Operand) (ho : o.op = .slice 22 x lo hi none) (u v : Value) (ol oh : Option Value) (hx : a.eval x = u) (hl : lo.map a.eval = ol) (hh : hi.map a.eval = oh)
    (hr : ∀ V, S V → (Instr.sliceAt 22 u ol oh none).run Tryz.prog V = .ok v V) : YieldsIf Tryz.prog ops S o v a := by
  refine Or.inl ⟨hw, fun V hV => ?_⟩
  unfold execOp
  simp only [ho, hx, hl, hh, Option.map_none, hr V hV, Sem.run_bind, Result.andThen_ok, Sem.run_pure]

theorem yi_cv {ops : Array Oper} {S : World → Prop} {o : Oper} {a : Act} (hw : Region.wanted o (yielded ops a.tmps) = true) (x : Operand) (ho : o.op = .convert 22 9 x) (u v : Value) (hx : a.eval x = u)
    (hr : ∀ V, S V → (convert 22 9 u).run Tryz.prog V = .ok v V) : YieldsIf Tryz.prog ops S o v a := by
  refine Or.inl ⟨hw, fun V hV => ?_⟩
  unfold execOp
  simp only [ho, hx, hr V hV, Sem.run_bind, Result.andThen_ok, Sem.run_pure]

theorem step_st60 {ops : Array Oper} {op : Oper} {a : Act} {w : World} {K : Act → World → Prop} {Q : Exit → Act → World → Prop} {E : Prop} (hgd : op.guard = none) (x y : Operand) (ho : op.op = .store 60 x y)
    (b : Nat) (hx : a.eval x = .pointer (some ⟨b, 0, none⟩)) (g : Nat → Value) {f : Nat → Value} (hy : a.eval y = row g 24) (h : w.rowIs b 60 24 f) (h1 : ∀ j, (g j).oneCell' = true)
    (hk : ∀ w', w'.rowIs b 60 24 g → Fr (fun k => k = b) w w' → K (a.put op.dst undef) w') : if Region.wanted op (yielded ops a.tmps) = true then Oper.wp Tryz.prog op a w K Q else E := by
  have hw : Region.wanted op (yielded ops a.tmps) = true := by simp [Region.wanted, hgd]
  rw [if_pos hw]
  have hr := rowIs_setRow h g
  have hf := (Fr.refl (fun k => k = b) w).setRow rfl (vals g 24).toArray
  obtain ⟨c, hb, hn, hc⟩ := h
  exact wp_store_row 60 x y ho b (vals g 24).toArray hx hy 60 c hb (by rw [vals_size]; kernel_rfl) (by rw [vals_size]; exact hn) (vals_one g 24 h1) (hk _ hr hf)

set_option maxRecDepth 100000 in
set_option maxHeartbeats 8000000 in
theorem rdecG_any (ao : Option Addr) (n c : Nat) (xs : List Int) (w : World) (hr : Rd w ao n c xs) (hn : n ≤ 16384)
    (l0 l1 l2 l3 : List UInt8) (p0 p1 p2 p3 : Nat) (k0 k1 k2 k3 kk : Bool) (T : List Int) (eT K : Int)
    (h0 : rl xs 0 obw = (l0, p0, k0)) (h1 : rl xs p0 tyw = (l1, p1, k1)) (h2 : rl xs p1 taw = (l2, p2, k2)) (h3 : rl xs p2 tgw = (l3, p3, k3)) (hT : par (ns ⟨l0.toArray⟩) = (T, eT)) (hK : kof l1 = (K, kk))
    (hb1 : k0 = false ∨ k1 = false ∨ k2 = false ∨ k3 = false ∨ n ≤ p3 ∨ xs.getD p3 0 ≠ 10 → notg xs) (hb2 : eT ≠ 0 ∨ kk = false → notg xs) (hb3 : (mbT K l2 l3 = true → encT T K l2 l3 (tb (xs.drop (p3 + 1))) ≠ tb xs) → notg xs) :
    Calls Tryz.prog 26 #[.slice ao n c] w fun e w' => (e = .returned (.tuple #[gz, .int .i64 2]) ∧ notg xs ∧ Below w.heap.size w w') ∨
      (e = .returned (.tuple #[tmv T K l2 l3 (tb (xs.drop (p3 + 1))), .int .i64 0]) ∧ mbT K l2 l3 = true ∧ encT T K l2 l3 (tb (xs.drop (p3 + 1))) = tb xs ∧ Below w.heap.size w w') := by
  have hz := zero60
  have d1 : decide ((16384 : Int) < n) = false := by simp; omega
  have d2 : decide (16384 < n) = false := by simp; omega
  obtain ⟨W, hW⟩ : ∃ W, W = (w.alloc (Obj.cells (vals (tf z20 0 [] [] []) 24).toArray 60)).alloc (Obj.cells (vals (tf z20 0 [] [] []) 24).toArray 60) := ⟨_, rfl⟩
  have bW : Below w.heap.size w W := by rw [hW]; exact (new_below _ _).alloc (by simp) _
  have r0 : W.rowIs w.heap.size 60 24 (tf z20 0 [] [] []) := by rw [hW]; exact rowIs_fr (P := fun _ => False) (rowIs_vals w _ 24 60) (Fr.ofBelow (new_below _ _)) (fun h => h)
  have r1 : W.rowIs (w.heap.size + 1) 60 24 (tf z20 0 [] [] []) := by rw [hW]; have := rowIs_vals (w.alloc (Obj.cells (vals (tf z20 0 [] [] []) 24).toArray 60)) (tf z20 0 [] [] []) 24 60; simpa using this
  have hlen := hr.len
  have HRD : Hid (∀ V : World, Below w.heap.size w V → Rd V ao n c xs) := fun V hV => hr.keep hV
  have HNN : Hid (xs.length = n ∧ n ≤ 16384) := ⟨hlen, hn⟩
  have HBW : Hid (Below w.heap.size w W) := bW
  have HWS : Hid (W.heap.size = w.heap.size + 2) := by show _ = _; rw [hW]; simp
  have HR0 : Hid (W.rowIs w.heap.size 60 24 (tf z20 0 [] [] [])) := r0
  have HR1 : Hid (W.rowIs (w.heap.size + 1) 60 24 (tf z20 0 [] [] [])) := r1
  have hp0 : p0 ≤ xs.length := by have := rl_le xs 0 obw (by omega); rw [h0] at this; exact this
  have hp1 : p1 ≤ xs.length := by have := rl_le xs p0 tyw hp0; rw [h1] at this; exact this
  have hp2 : p2 ≤ xs.length := by have := rl_le xs p1 taw hp1; rw [h2] at this; exact this
  have hp3 : p3 ≤ xs.length := by have := rl_le xs p2 tgw hp2; rw [h3] at this; exact this
  have hL0 : Calls Tryz.prog 59 #[.slice ao n c, .int .i64 0, .string ⟨#[111, 98, 106, 101, 99, 116]⟩] W fun e w' => e = .returned (.tuple #[sv l0, .int .i64 p0, .bool k0]) ∧ w' = W := by
    have := rline_any ao n c xs 0 obw W (HRD.out W bW) (by omega) (by omega) (by decide)
    rw [h0] at this
    exact this
  have hL1 : Calls Tryz.prog 59 #[.slice ao n c, .int .i64 p0, .string ⟨#[116, 121, 112, 101]⟩] W fun e w' => e = .returned (.tuple #[sv l1, .int .i64 p1, .bool k1]) ∧ w' = W := by
    have := rline_any ao n c xs p0 tyw W (HRD.out W bW) (by omega) (by omega) (by decide)
    rw [h1] at this
    exact this
  have hL2 : Calls Tryz.prog 59 #[.slice ao n c, .int .i64 p1, .string ⟨#[116, 97, 103]⟩] W fun e w' => e = .returned (.tuple #[sv l2, .int .i64 p2, .bool k2]) ∧ w' = W := by
    have := rline_any ao n c xs p1 taw W (HRD.out W bW) (by omega) (by omega) (by decide)
    rw [h2] at this
    exact this
  have hL3 : Calls Tryz.prog 59 #[.slice ao n c, .int .i64 p2, .string ⟨#[116, 97, 103, 103, 101, 114]⟩] W fun e w' => e = .returned (.tuple #[sv l3, .int .i64 p3, .bool k3]) ∧ w' = W := by
    have := rline_any ao n c xs p2 tgw W (HRD.out W bW) (by omega) (by omega) (by decide)
    rw [h3] at this
    exact this
  have HT : Hid (∀ V : World, Calls Tryz.prog 60 #[sv l0] V fun e w' => e = .returned (.tuple #[idv T, .int .i64 eT]) ∧ Below V.heap.size V w') := fun V => by
    have := rparse_any ⟨l0.toArray⟩ V
    rw [hT] at this
    exact this
  have HKO : Hid (∀ V : World, Calls Tryz.prog 20 #[sv l1] V fun e w' => e = .returned (.tuple #[.int .i64 K, .bool kk]) ∧ w' = V) := fun V => by
    have := rkindOf_any l1 V
    rw [hK] at this
    exact this
  have HTI : Hid (IsId T) := by have := par_id (ns ⟨l0.toArray⟩); rw [hT] at this; exact this
  have HSZ : Hid (l2.length ≤ 20000 ∧ l3.length ≤ 20000) := by
    have g2 := rl_size xs p1 taw
    have g3 := rl_size xs p2 tgw
    rw [h2] at g2
    rw [h3] at g3
    have g2' : l2.length ≤ xs.length := g2
    have g3' : l3.length ≤ xs.length := g3
    exact ⟨by omega, by omega⟩
  have HP3 : Hid (p3 ≤ n) := by show _ ≤ _; omega
  have HX1 : Hid (k0 = false ∨ k1 = false ∨ k2 = false ∨ k3 = false ∨ n ≤ p3 ∨ xs.getD p3 0 ≠ 10 → notg xs) := hb1
  have HX2 : Hid (eT ≠ 0 ∨ kk = false → notg xs) := hb2
  have HX3 : Hid ((mbT K l2 l3 = true → encT T K l2 l3 (tb (xs.drop (p3 + 1))) ≠ tb xs) → notg xs) := hb3
  clear hr hn bW r0 r1 hlen hp0 hp1 hp2 hp3 h0 h1 h2 h3 hT hK hb1 hb2 hb3
  go_enter Tryz.func26, Tryz.ntmps26
  go_wp2_with fail
  rw [← hW]
  clear hW
  refine hL0.mono ?_
  rintro e wx ⟨rfl, hwx⟩
  subst wx
  clear hL0
  go_wp2_with fail
  refine hL1.mono ?_
  rintro e wx ⟨rfl, hwx⟩
  subst wx
  clear hL1
  go_wp2_with fail
  refine hL2.mono ?_
  rintro e wx ⟨rfl, hwx⟩
  subst wx
  clear hL2
  go_wp2_with fail
  refine hL3.mono ?_
  rintro e wx ⟨rfl, hwx⟩
  subst wx
  clear hL3
  by_cases hbad : k0 = false ∨ k1 = false ∨ k2 = false ∨ k3 = false ∨ n ≤ p3 ∨ xs.getD p3 0 ≠ 10
  · have HNO : Hid (notg xs) := HX1.out hbad
    cases k0 with
    | false =>
      clear hbad
      go_wp2_with (refine wpList_st rfl 60 _ _ rfl w.heap.size rfl (tf z20 0 [] [] []) rfl HR0.out (by kernel_rfl) (tf_one _ _ _ _ _) ?_; intro w9 r9 f9; have HB9 : Hid (Below w.heap.size w w9) := st_below HBW.out f9; clear f9)
      refine bodyPost_ret (results_two (fn := Tryz.f26) (p := 2) (q := 3) (ty := 60) (by kernel_rfl) _ (by rfl) r9 Tryz.underlying60 rfl (by kernel_rfl)) rfl (.inl ⟨rfl, HNO.out, HB9.out⟩)
    | true =>
      cases k1 with
      | false =>
        clear hbad
        go_wp2_with (refine wpList_st rfl 60 _ _ rfl w.heap.size rfl (tf z20 0 [] [] []) rfl HR0.out (by kernel_rfl) (tf_one _ _ _ _ _) ?_; intro w9 r9 f9; have HB9 : Hid (Below w.heap.size w w9) := st_below HBW.out f9; clear f9)
        refine bodyPost_ret (results_two (fn := Tryz.f26) (p := 2) (q := 3) (ty := 60) (by kernel_rfl) _ (by rfl) r9 Tryz.underlying60 rfl (by kernel_rfl)) rfl (.inl ⟨rfl, HNO.out, HB9.out⟩)
      | true =>
        cases k2 with
        | false =>
          clear hbad
          go_wp2_with (refine wpList_st rfl 60 _ _ rfl w.heap.size rfl (tf z20 0 [] [] []) rfl HR0.out (by kernel_rfl) (tf_one _ _ _ _ _) ?_; intro w9 r9 f9; have HB9 : Hid (Below w.heap.size w w9) := st_below HBW.out f9; clear f9)
          refine bodyPost_ret (results_two (fn := Tryz.f26) (p := 2) (q := 3) (ty := 60) (by kernel_rfl) _ (by rfl) r9 Tryz.underlying60 rfl (by kernel_rfl)) rfl (.inl ⟨rfl, HNO.out, HB9.out⟩)
        | true =>
          cases k3 with
          | false =>
            clear hbad
            go_wp2_with (refine wpList_st rfl 60 _ _ rfl w.heap.size rfl (tf z20 0 [] [] []) rfl HR0.out (by kernel_rfl) (tf_one _ _ _ _ _) ?_; intro w9 r9 f9; have HB9 : Hid (Below w.heap.size w w9) := st_below HBW.out f9; clear f9)
            refine bodyPost_ret (results_two (fn := Tryz.f26) (p := 2) (q := 3) (ty := 60) (by kernel_rfl) _ (by rfl) r9 Tryz.underlying60 rfl (by kernel_rfl)) rfl (.inl ⟨rfl, HNO.out, HB9.out⟩)
          | true =>
            by_cases hp : n ≤ p3
            · have g1 : decide ((n : Int) ≤ (p3 : Int)) = true := by simp; omega
              have g2 : decide (n ≤ p3) = true := by simp; omega
              clear hbad hp
              go_wp2_with (refine wpList_st rfl 60 _ _ rfl w.heap.size rfl (tf z20 0 [] [] []) rfl HR0.out (by kernel_rfl) (tf_one _ _ _ _ _) ?_; intro w9 r9 f9; have HB9 : Hid (Below w.heap.size w w9) := st_below HBW.out f9; clear f9)
              refine bodyPost_ret (results_two (fn := Tryz.f26) (p := 2) (q := 3) (ty := 60) (by kernel_rfl) _ (by rfl) r9 Tryz.underlying60 rfl (by kernel_rfl)) rfl (.inl ⟨rfl, HNO.out, HB9.out⟩)
            · obtain ⟨b, off, rfl, hcl⟩ := (HRD.out W HBW.out).plain (by omega)
              have cj := hcl p3 (by omega)
              obtain ⟨z, hz⟩ : ∃ z, z = xs.getD p3 0 := ⟨_, rfl⟩
              have z1 : (z == 10) = false := by
                rw [hz]
                rcases hbad with h | h | h | h | h | h
                · cases h
                · cases h
                · cases h
                · cases h
                · omega
                · simpa using h
              rw [← hz] at cj
              have g1 : decide ((n : Int) ≤ (p3 : Int)) = false := by simp; omega
              have g2 : decide (n ≤ p3) = false := by simp; omega
              have x1 : (p3 : Int) < n := by omega
              have x2 : p3 < n := by omega
              clear hbad hp hcl hz
              go_wp2_with (refine wpList_st rfl 60 _ _ rfl w.heap.size rfl (tf z20 0 [] [] []) rfl HR0.out (by kernel_rfl) (tf_one _ _ _ _ _) ?_; intro w9 r9 f9; have HB9 : Hid (Below w.heap.size w w9) := st_below HBW.out f9; clear f9)
              refine bodyPost_ret (results_two (fn := Tryz.f26) (p := 2) (q := 3) (ty := 60) (by kernel_rfl) _ (by rfl) r9 Tryz.underlying60 rfl (by kernel_rfl)) rfl (.inl ⟨rfl, HNO.out, HB9.out⟩)
  · have hk0 : k0 = true := by cases k0; exact absurd (.inl rfl) hbad; rfl
    have hk1 : k1 = true := by cases k1; exact absurd (.inr (.inl rfl)) hbad; rfl
    have hk2 : k2 = true := by cases k2; exact absurd (.inr (.inr (.inl rfl))) hbad; rfl
    have hk3 : k3 = true := by cases k3; exact absurd (.inr (.inr (.inr (.inl rfl)))) hbad; rfl
    subst hk0
    subst hk1
    subst hk2
    subst hk3
    have hp : p3 < n := by
      rcases Nat.lt_or_ge p3 n with h | h
      · exact h
      · exact absurd (.inr (.inr (.inr (.inr (.inl h))))) hbad
    have hz : xs.getD p3 0 = 10 := by
      by_cases h : xs.getD p3 0 = 10
      · exact h
      · exact absurd (.inr (.inr (.inr (.inr (.inr h))))) hbad
    obtain ⟨b, off, rfl, hcl⟩ := (HRD.out W HBW.out).plain (by omega)
    have cj := hcl p3 hp
    rw [hz] at cj
    have g1 : decide ((n : Int) ≤ (p3 : Int)) = false := by simp; omega
    have g2 : decide (n ≤ p3) = false := by simp; omega
    have x1 : (p3 : Int) < n := by omega
    have x2 : p3 < n := by omega
    obtain ⟨P, hP⟩ : ∃ P, P = p3 + 1 := ⟨_, rfl⟩
    have y1 : IntKind.i64.wrap ((p3 : Int) + 1) = (P : Int) := by rw [IntKind.wrap_i64]; have := HNN.out; omega
    obtain ⟨m, hm⟩ : ∃ m, m = n - P := ⟨_, rfl⟩
    have HPM : Hid (P + m = n ∧ P = p3 + 1) := ⟨by omega, hP⟩
    obtain ⟨M, hM⟩ : ∃ M, M = tb (xs.drop (p3 + 1)) := ⟨_, rfl⟩
    have HM : Hid (M = tb (xs.drop (p3 + 1)) ∧ tb ((xs.drop P).take m) = M) := ⟨hM, by rw [List.take_of_length_le (by rw [List.length_drop]; have := HNN.out; omega), hM, hP]⟩
    clear hbad hp hz hcl hP hm hM
    go_wp2_with fail
    refine (HT.out W).mono ?_
    rintro e w1 ⟨rfl, b1⟩
    have HB1 : Hid (Below w.heap.size w w1) := HBW.out.trans (b1.mono HBW.out.size)
    have H10 : Hid (w1.rowIs w.heap.size 60 24 (tf z20 0 [] [] [])) := rowIs_fr (P := fun _ => False) HR0.out (Fr.ofBelow b1) (fun h => h)
    have H11 : Hid (w1.rowIs (w.heap.size + 1) 60 24 (tf z20 0 [] [] [])) := rowIs_fr (P := fun _ => False) HR1.out (Fr.ofBelow b1) (fun h => h)
    have HS1 : Hid (w.heap.size + 2 ≤ w1.heap.size) := by have := HWS.out; have := b1.size; show _ ≤ _; omega
    clear b1
    go_wp2_with (refine wpList_st rfl 26 _ _ rfl w1.heap.size rfl (cl T) rfl (z_row w1 26) (by kernel_rfl) (cl_one _) ?_; intro w2 r2 f2; have HB12 : Hid (Below w1.heap.size w1 w2) := new_fr f2; have HB2 : Hid (Below w.heap.size w w2) := HB1.out.trans (HB12.out.mono HB1.out.size); have H20 : Hid (w2.rowIs w.heap.size 60 24 (tf z20 0 [] [] [])) := rowIs_fr (P := fun _ => False) H10.out (Fr.ofBelow HB12.out) (fun h => h); have H21 : Hid (w2.rowIs (w.heap.size + 1) 60 24 (tf z20 0 [] [] [])) := rowIs_fr (P := fun _ => False) H11.out (Fr.ofBelow HB12.out) (fun h => h); have HTR : Hid (w2.rowIs w1.heap.size 26 20 (cl T)) := r2; clear f2 r2)
    refine (HKO.out w2).mono ?_
    rintro e wx ⟨rfl, hwx⟩
    subst wx
    by_cases he : eT = 0
    · subst he
      cases kk with
      | false =>
        have HNO : Hid (notg xs) := HX2.out (.inr rfl)
        go_wp2_with (refine wpList_st rfl 60 _ _ rfl w.heap.size rfl (tf z20 0 [] [] []) rfl H20.out (by kernel_rfl) (tf_one _ _ _ _ _) ?_; intro w9 r9 f9; have HB9 : Hid (Below w.heap.size w w9) := st_below HB2.out f9; clear f9)
        refine bodyPost_ret (results_two (fn := Tryz.f26) (p := 2) (q := 3) (ty := 60) (by kernel_rfl) _ (by rfl) r9 Tryz.underlying60 rfl (by kernel_rfl)) rfl (.inl ⟨rfl, HNO.out, HB9.out⟩)
      | true =>
        have HL26 : Hid (∀ V : World, Below w.heap.size w V ∧ V.rowIs w1.heap.size 26 20 (cl T) → (loadVar 26 ⟨w1.heap.size, 0, none⟩).run Tryz.prog V = .ok (idv T) V) := fun V hV => load_all (P := Tryz.prog) 26 _ hV.2 Tryz.underlying26 rfl (by kernel_rfl)
        have HSUB : Hid (∀ V : World, Below w.heap.size w V ∧ V.rowIs w1.heap.size 26 20 (cl T) → (Instr.sliceAt 22 (.slice (some ⟨b, off, none⟩) n c) (some (.int .i64 (P : Int))) none none).run Tryz.prog V = .ok (.slice (if c = P then (some (⟨b, off, none⟩ : Addr)) else Option.map (fun x : Addr => x.add P) (some (⟨b, off, none⟩ : Addr))) m (c - P)) V) := fun V hV => by
          unfold Instr.sliceAt
          simp only [Sem.run_bind, run_underlying Tryz.underlying22, Result.andThen_ok]
          exact run_sub (HRD.out V hV.1) (m := m) (by have := HPM.out; omega) _ _ (.inl rfl) (.inr ⟨rfl, HPM.out.1⟩)
        have HCV : Hid (∀ V : World, Below w.heap.size w V ∧ V.rowIs w1.heap.size 26 20 (cl T) → (convert 22 9 (.slice (if c = P then (some (⟨b, off, none⟩ : Addr)) else Option.map (fun x : Addr => x.add P) (some (⟨b, off, none⟩ : Addr))) m (c - P))).run Tryz.prog V = .ok (sv M) V) := fun V hV => by
          have h := ((HRD.out V hV.1).sub P m (by have := HPM.out; omega)).str
          rw [tb_sv, HM.out.2] at h
          exact h
        obtain ⟨V5, hV5⟩ : ∃ v : Value, v = .slice (if c = P then (some (⟨b, off, none⟩ : Addr)) else Option.map (fun x : Addr => x.add P) (some (⟨b, off, none⟩ : Addr))) m (c - P) := ⟨_, rfl⟩
        rw [← hV5] at HSUB HCV
        clear hV5
        go_wp2_with fail
        refine wp_region_noPanic ?_
        refine wp_region_held_drew (S := fun V => Below w.heap.size w V ∧ V.rowIs w1.heap.size 26 20 (cl T)) (by kernel_rfl) ⟨HB2.out.drew, rowIs_fr (P := fun _ => False) HTR.out (Fr.refl _ _).drew (fun h => h)⟩ (fun hHeld => ?_)
        refine wpAnyH_take (i := 0) (oi := ⟨some 96, _, _, _, _, _⟩) (v := idv T) rfl (by kernel_rfl) (by kernel_rfl) (by kernel_rfl) (fun _ _ _ h => h) (yi_ldt (by rfl) 26 _ rfl ⟨w1.heap.size, 0, none⟩ rfl (idv T) (fun V hV => HL26.out V hV)) hHeld ?_
        try simp only [Act.put, List.setIfInBounds_toArray, List.set_cons_zero, List.set_cons_succ]
        refine wpAnyH_take (i := 1) (oi := ⟨some 97, _, _, _, _, _⟩) (v := .int .i64 K) rfl (by kernel_rfl) (by kernel_rfl) (by kernel_rfl) (fun _ _ _ h => h) (Or.inl ⟨by rfl, ?_⟩) hHeld ?_
        · (intro w' hSw; go_simp; try with_reducible rfl)
        try simp only [Act.put, List.setIfInBounds_toArray, List.set_cons_zero, List.set_cons_succ]
        refine wpAnyH_take (i := 2) (oi := ⟨some 98, _, _, _, _, _⟩) (v := sv l2) rfl (by kernel_rfl) (by kernel_rfl) (by kernel_rfl) (fun _ _ _ h => h) (Or.inl ⟨by rfl, ?_⟩) hHeld ?_
        · (intro w' hSw; go_simp; try with_reducible rfl)
        try simp only [Act.put, List.setIfInBounds_toArray, List.set_cons_zero, List.set_cons_succ]
        refine wpAnyH_take (i := 3) (oi := ⟨some 99, _, _, _, _, _⟩) (v := sv l3) rfl (by kernel_rfl) (by kernel_rfl) (by kernel_rfl) (fun _ _ _ h => h) (Or.inl ⟨by rfl, ?_⟩) hHeld ?_
        · (intro w' hSw; go_simp; try with_reducible rfl)
        try simp only [Act.put, List.setIfInBounds_toArray, List.set_cons_zero, List.set_cons_succ]
        refine wpAnyH_take (i := 4) (oi := ⟨some 100, _, _, _, _, _⟩) (v := .slice (some ⟨b, off, none⟩) n c) rfl (by kernel_rfl) (by kernel_rfl) (by kernel_rfl) (fun _ _ _ h => h) (Or.inl ⟨by rfl, ?_⟩) hHeld ?_
        · (intro w' hSw; go_simp; try with_reducible rfl)
        try simp only [Act.put, List.setIfInBounds_toArray, List.set_cons_zero, List.set_cons_succ]
        refine wpAnyH_take (i := 5) (oi := ⟨some 101, _, _, _, _, _⟩) (v := .int .i64 (p3 : Int)) rfl (by kernel_rfl) (by kernel_rfl) (by kernel_rfl) (fun _ _ _ h => h) (Or.inl ⟨by rfl, ?_⟩) hHeld ?_
        · (intro w' hSw; go_simp; try with_reducible rfl)
        try simp only [Act.put, List.setIfInBounds_toArray, List.set_cons_zero, List.set_cons_succ]
        refine wpAnyH_take (i := 6) (oi := ⟨some 102, _, _, _, _, _⟩) (v := .int .i64 (P : Int)) rfl (by kernel_rfl) (by kernel_rfl) (by kernel_rfl) (fun _ _ _ h => h) (Or.inl ⟨by rfl, ?_⟩) hHeld ?_
        · (intro w' hSw; go_simp; try with_reducible rfl)
        try simp only [Act.put, List.setIfInBounds_toArray, List.set_cons_zero, List.set_cons_succ]
        refine wpAnyH_take (i := 7) (oi := ⟨some 103, _, _, _, _, _⟩) (v := V5) rfl (by kernel_rfl) (by kernel_rfl) (by kernel_rfl) (fun _ _ _ h => h) (yi_sub (by rfl) _ _ _ rfl (.slice (some ⟨b, off, none⟩) n c) V5 (some (.int .i64 (P : Int))) none rfl rfl rfl (fun V hV => HSUB.out V hV)) hHeld ?_
        try simp only [Act.put, List.setIfInBounds_toArray, List.set_cons_zero, List.set_cons_succ]
        refine wpAnyH_take (i := 8) (oi := ⟨some 104, _, _, _, _, _⟩) (v := sv M) rfl (by kernel_rfl) (by kernel_rfl) (by kernel_rfl) (fun _ _ _ h => h) (yi_cv (by rfl) _ rfl V5 (sv M) rfl (fun V hV => HCV.out V hV)) hHeld ?_
        try simp only [Act.put, List.setIfInBounds_toArray, List.set_cons_zero, List.set_cons_succ]
        refine wpAnyH_take (i := 9) (oi := ⟨some 105, _, _, _, _, _⟩) (v := tmv T K l2 l3 M) rfl (by kernel_rfl) (by kernel_rfl) (by kernel_rfl) (fun _ _ _ h => h) (yi_b60 (by rfl) _ _ _ _ _ rfl T K l2 l3 M rfl rfl rfl rfl rfl) hHeld ?_
        try simp only [Act.put, List.setIfInBounds_toArray, List.set_cons_zero, List.set_cons_succ]
        refine wpAnyH_ready (rs := [10]) (by kernel_rfl) (by simp) ?_
        refine AllReadyH.cons (o := ⟨none, _, _, _, _, _⟩) rfl (fun K9 hK => ?_) AllReadyH.nil
        refine step_st60 (by rfl) _ _ rfl (w.heap.size + 1) rfl (tf T K l2 l3 M) rfl (rowIs_fr (P := fun _ => False) H21.out (Fr.refl _ _).drew (fun h => h)) (tf_one _ _ _ _ _) ?_
        intro w3 r3 f3
        have f23 : Fr (fun k => k = w.heap.size + 1) w2 w3 := (Fr.refl _ _).drew.trans f3 (fun _ _ h => h)
        have HB3 : Hid (Below w.heap.size w w3) := HB2.out.trans (f23.below w.heap.size HB2.out.size (fun i hi e => by omega))
        have H30 : Hid (w3.rowIs w.heap.size 60 24 (tf z20 0 [] [] [])) := rowIs_fr H20.out f23 (fun e => by omega)
        have H31 : Hid (w3.rowIs (w.heap.size + 1) 60 24 (tf T K l2 l3 M)) := r3
        refine hK.out _ _ ⟨HB3.out, rowIs_fr HTR.out f23 (fun e => by have := HS1.out; omega)⟩ (fun hHeld => ?_)
        clear hK K9 f3 r3 f23
        try simp only [Act.put]
        refine wpAnyH_done (by kernel_rfl) ?_ _
        refine NoPanic.normal ?_
        clear hHeld
        have hl60 : (loadVar 60 ⟨w.heap.size + 1, 0, none⟩).run Tryz.prog w3 = .ok (tmv T K l2 l3 M) w3 := load_all (P := Tryz.prog) 60 _ H31.out Tryz.underlying60 rfl (by kernel_rfl)
        go_wp2_with (refine wpList_ldv rfl 60 _ rfl ⟨w.heap.size + 1, 0, none⟩ rfl (tmv T K l2 l3 M) hl60 ?_; clear hl60)
        obtain ⟨er, her⟩ : ∃ er, er = et T K l2 l3 M := ⟨_, rfl⟩
        obtain ⟨X, hX⟩ : ∃ X, X = xt T K l2 l3 M := ⟨_, rfl⟩
        have HEX : Hid (er = et T K l2 l3 M ∧ X = xt T K l2 l3 M) := ⟨her, hX⟩
        have hen := rencG2 T K l2 l3 M w3 HTI.out HSZ.out.1 HSZ.out.2 (by rw [HM.out.1, tb_len, List.length_drop]; have := HNN.out; omega)
        rw [← her, ← hX] at hen
        clear her hX
        refine hen.mono ?_
        rintro e w6 ⟨o6, n6, q6, rfl, rd6, b6⟩
        have HB6 : Hid (Below w.heap.size w w6) := HB3.out.trans (b6.mono HB3.out.size)
        have H60 : Hid (w6.rowIs w.heap.size 60 24 (tf z20 0 [] [] [])) := rowIs_fr (P := fun _ => False) H30.out (Fr.ofBelow b6) (fun h => h)
        have H61 : Hid (w6.rowIs (w.heap.size + 1) 60 24 (tf T K l2 l3 M)) := rowIs_fr (P := fun _ => False) H31.out (Fr.ofBelow b6) (fun h => h)
        have HR6 : Hid (Rd w6 o6 n6 q6 X) := rd6
        have HRB6 : Hid (Rd w6 (some ⟨b, off, none⟩) n c xs) := HRD.out w6 HB6.out
        clear hen rd6 b6
        by_cases he : er = 0
        · obtain ⟨E, hE⟩ : ∃ E, E = encT T K l2 l3 M := ⟨_, rfl⟩
          obtain ⟨G, hG⟩ : ∃ G, G = tb xs := ⟨_, rfl⟩
          have hz := et_zero (HEX.out.1.symm.trans he)
          have HME : Hid (mbT K l2 l3 = true ∧ E = encT T K l2 l3 M) := ⟨hz.1, hE⟩
          have HXE : Hid (tb X = E) := by show _ = _; rw [HEX.out.2, hz.2.2, tb_tn, hE]
          have HG : Hid (tb xs = G) := hG.symm
          subst he
          by_cases heq : E = G
          · have hl60 : (loadVar 60 ⟨w.heap.size + 1, 0, none⟩).run Tryz.prog w6 = .ok (tmv T K l2 l3 M) w6 := load_all (P := Tryz.prog) 60 _ H61.out Tryz.underlying60 rfl (by kernel_rfl)
            have HEG : Hid (E = G) := heq
            have g5 : (E == G) = true := by simp [heq]
            clear hz hE hG heq
            go_wp2_with (first
              | (refine wpList_convW (by kernel_rfl) _ rfl HR6.out rfl E HXE.out ?_)
              | (refine wpList_convW (by kernel_rfl) _ rfl HRB6.out rfl G HG.out ?_)
              | (refine wpList_ldv rfl 60 _ rfl ⟨w.heap.size + 1, 0, none⟩ rfl (tmv T K l2 l3 M) hl60 ?_; clear hl60)
              | (refine wpList_st rfl 60 _ _ rfl w.heap.size rfl (tf T K l2 l3 M) rfl H60.out (by kernel_rfl) (tf_one _ _ _ _ _) ?_; intro w9 r9 f9; have HB9 : Hid (Below w.heap.size w w9) := st_below HB6.out f9; clear f9))
            refine bodyPost_ret (results_two (fn := Tryz.f26) (p := 2) (q := 3) (ty := 60) (by kernel_rfl) _ (by rfl) r9 Tryz.underlying60 rfl (by kernel_rfl)) rfl (.inr ⟨by rw [← HM.out.1]; rfl, HME.out.1, by rw [← HM.out.1, ← HME.out.2, HEG.out, HG.out], HB9.out⟩)
          · have HNO : Hid (notg xs) := HX3.out (fun _ h => heq (by rw [HME.out.2, HM.out.1, h, HG.out]))
            have g5 : (E == G) = false := by simpa using heq
            clear hz hE hG heq
            go_wp2_with (first
              | (refine wpList_convW (by kernel_rfl) _ rfl HR6.out rfl E HXE.out ?_)
              | (refine wpList_convW (by kernel_rfl) _ rfl HRB6.out rfl G HG.out ?_)
              | (refine wpList_st rfl 60 _ _ rfl w.heap.size rfl (tf z20 0 [] [] []) rfl H60.out (by kernel_rfl) (tf_one _ _ _ _ _) ?_; intro w9 r9 f9; have HB9 : Hid (Below w.heap.size w w9) := st_below HB6.out f9; clear f9))
            refine bodyPost_ret (results_two (fn := Tryz.f26) (p := 2) (q := 3) (ty := 60) (by kernel_rfl) _ (by rfl) r9 Tryz.underlying60 rfl (by kernel_rfl)) rfl (.inl ⟨rfl, HNO.out, HB9.out⟩)
        · have HNO : Hid (notg xs) := HX3.out (fun hmb henc => by
            apply he
            rw [HEX.out.1]
            unfold et
            rw [if_pos hmb, if_pos (by rw [HM.out.1, henc, tb_len]; have := HNN.out; omega)])
          have e0 : (er == 0) = false := by simpa using he
          go_wp2_with (refine wpList_st rfl 60 _ _ rfl w.heap.size rfl (tf z20 0 [] [] []) rfl H60.out (by kernel_rfl) (tf_one _ _ _ _ _) ?_; intro w9 r9 f9; have HB9 : Hid (Below w.heap.size w w9) := st_below HB6.out f9; clear f9)
          refine bodyPost_ret (results_two (fn := Tryz.f26) (p := 2) (q := 3) (ty := 60) (by kernel_rfl) _ (by rfl) r9 Tryz.underlying60 rfl (by kernel_rfl)) rfl (.inl ⟨rfl, HNO.out, HB9.out⟩)
    · have HNO : Hid (notg xs) := HX2.out (.inl he)
      have e0 : (eT == 0) = false := by simpa using he
      go_wp2_with (refine wpList_st rfl 60 _ _ rfl w.heap.size rfl (tf z20 0 [] [] []) rfl H20.out (by kernel_rfl) (tf_one _ _ _ _ _) ?_; intro w9 r9 f9; have HB9 : Hid (Below w.heap.size w w9) := st_below HB2.out f9; clear f9)
      refine bodyPost_ret (results_two (fn := Tryz.f26) (p := 2) (q := 3) (ty := 60) (by kernel_rfl) _ (by rfl) r9 Tryz.underlying60 rfl (by kernel_rfl)) rfl (.inl ⟨rfl, HNO.out, HB9.out⟩)

end Go.Proofs.YtojgablpjdlegaaGreatDoor

/- The document's lines where a tag was written. -/
namespace Go.Proofs.YtojgablpjdlegaaGreatDoor
open Go.RowKit Go.Shelf

theorem kof_of (K : Int) (h : isK K = true) : kof (wl K) = (K, true) := by
  have hc : K = 1 ∨ K = 2 ∨ K = 3 ∨ K = 4 := by
    unfold isK at h
    simp at h
    omega
  rcases hc with rfl | rfl | rfl | rfl <;> rfl

theorem encT_path (xs : List Int) (hb : ∀ b ∈ xs, 0 ≤ b ∧ b < 256) (T : List Int) (K : Int) (N G M : List UInt8) (hT : IsId T) (hm : mbT K N G = true) (h : encT T K N G M = tb xs) :
    ∃ l0 p0 l1 p1 p2 p3, rl xs 0 obw = (l0, p0, true) ∧ par (ns ⟨l0.toArray⟩) = (T, 0) ∧ rl xs p0 tyw = (l1, p1, true) ∧ kof l1 = (K, true) ∧ rl xs p1 taw = (N, p2, true) ∧ rl xs p2 tgw = (G, p3, true) ∧ p3 < xs.length ∧ xs.getD p3 0 = 10 ∧ tb (xs.drop (p3 + 1)) = M := by
  rw [encT_lines] at h
  unfold mbT at hm
  simp only [Bool.and_eq_true] at hm
  obtain ⟨p0, h1, h2, h3⟩ := rl_ln xs 0 obw _ _ hb (by omega) (by decide) (hex_no10 T hT) (by rw [List.drop_zero]; exact h.symm)
  obtain ⟨p1, g1, g2, g3⟩ := rl_ln xs p0 tyw _ _ hb h3 (by decide) (wl_no10 K) h2
  obtain ⟨p2, i1, i2, i3⟩ := rl_ln xs p1 taw _ _ hb g3 (by decide) (txt_no10 N 100 hm.2.1) g2
  obtain ⟨p3, j1, j2, j3⟩ := rl_ln xs p2 tgw _ _ hb i3 (by decide) (txt_no10 G 200 hm.2.2) i2
  have hlt : p3 < xs.length := by
    have := congrArg List.length j2
    simp [tb] at this
    omega
  have hd := List.drop_eq_getElem_cons hlt
  rw [hd] at j2
  have e1 : xs[p3] = 10 := by
    have hr := hb xs[p3] (List.getElem_mem hlt)
    have h1 : UInt8.ofNat xs[p3].toNat = 10 := by
      have : tb (xs[p3] :: xs.drop (p3 + 1)) = UInt8.ofNat xs[p3].toNat :: tb (xs.drop (p3 + 1)) := rfl
      rw [this] at j2
      exact (List.cons.inj j2).1
    have h10 := congrArg UInt8.toNat h1
    rw [UInt8.toNat_ofNat'] at h10
    have : (10 : UInt8).toNat = 10 := rfl
    omega
  have e2 : tb (xs.drop (p3 + 1)) = M := by
    have := congrArg List.tail j2
    simpa [tb] using this
  exact ⟨_, p0, _, p1, p2, p3, h1, par_tb T hT, g1, kof_of K hm.1, i1, j1, hlt, by simp [List.getD, hlt, e1], e2⟩

/-- The document's DecodeTag: the tag that was written, or none. -/
theorem rdecG (ao : Option Addr) (n c : Nat) (xs : List Int) (w : World) (hr : Rd w ao n c xs) (hn : n ≤ 16384) :
    Calls Tryz.prog 26 #[.slice ao n c] w fun e w' => (e = .returned (.tuple #[gz, .int .i64 2]) ∧ notg xs ∧ Below w.heap.size w w') ∨
      (∃ T K N G M, e = .returned (.tuple #[tmv T K N G M, .int .i64 0]) ∧ IsId T ∧ mbT K N G = true ∧ encT T K N G M = tb xs ∧ Below w.heap.size w w') := by
  have hb := hr.byt
  have hl := hr.len
  obtain ⟨l0, p0, k0, h0⟩ : ∃ l p k, rl xs 0 obw = (l, p, k) := ⟨_, _, _, rfl⟩
  obtain ⟨T, eT, hT⟩ : ∃ T e, par (ns ⟨l0.toArray⟩) = (T, e) := ⟨_, _, rfl⟩
  obtain ⟨l1, p1, k1, h1⟩ : ∃ l p k, rl xs p0 tyw = (l, p, k) := ⟨_, _, _, rfl⟩
  obtain ⟨K, kk, hK⟩ : ∃ K k, kof l1 = (K, k) := ⟨_, _, rfl⟩
  obtain ⟨l2, p2, k2, h2⟩ : ∃ l p k, rl xs p1 taw = (l, p, k) := ⟨_, _, _, rfl⟩
  obtain ⟨l3, p3, k3, h3⟩ : ∃ l p k, rl xs p2 tgw = (l, p, k) := ⟨_, _, _, rfl⟩
  have key : ∀ T' K' N G M, IsId T' → mbT K' N G = true → encT T' K' N G M = tb xs → k0 = true ∧ eT = 0 ∧ T' = T ∧ k1 = true ∧ kk = true ∧ K' = K ∧ k2 = true ∧ l2 = N ∧ k3 = true ∧ l3 = G ∧ p3 < n ∧ xs.getD p3 0 = 10 ∧ tb (xs.drop (p3 + 1)) = M := by
    intro T' K' N G M g1 g2 g3
    obtain ⟨l0', p0', l1', p1', p2', p3', i1, i2, i3, i4, i5, i6, i7, i8, i9⟩ := encT_path xs hb T' K' N G M g1 g2 g3
    rw [h0] at i1
    cases i1
    rw [hT] at i2
    cases i2
    rw [h1] at i3
    cases i3
    rw [hK] at i4
    cases i4
    rw [h2] at i5
    cases i5
    rw [h3] at i6
    cases i6
    exact ⟨rfl, rfl, rfl, rfl, rfl, rfl, rfl, rfl, rfl, rfl, by omega, i8, i9⟩
  have hTI : IsId T := by have := par_id (ns ⟨l0.toArray⟩); rw [hT] at this; exact this
  refine (rdecG_any ao n c xs w hr hn l0 l1 l2 l3 p0 p1 p2 p3 k0 k1 k2 k3 kk T eT K h0 h1 h2 h3 hT hK ?_ ?_ ?_).mono ?_
  · intro h T' K' N G M g1 g2 g3
    obtain ⟨j0, _, _, j1, _, _, j2, _, j3, _, j4, j5, _⟩ := key T' K' N G M g1 g2 g3
    rcases h with h | h | h | h | h | h
    · rw [h] at j0; cases j0
    · rw [h] at j1; cases j1
    · rw [h] at j2; cases j2
    · rw [h] at j3; cases j3
    · omega
    · exact h j5
  · intro h T' K' N G M g1 g2 g3
    obtain ⟨_, j0, _, _, j1, _⟩ := key T' K' N G M g1 g2 g3
    rcases h with h | h
    · exact h j0
    · rw [h] at j1; cases j1
  · intro h T' K' N G M g1 g2 g3
    obtain ⟨_, _, rfl, _, _, rfl, _, rfl, _, rfl, _, _, rfl⟩ := key T' K' N G M g1 g2 g3
    exact h g2 g3
  · rintro e w' (⟨g1, g2, g3⟩ | ⟨g1, g2, g3, g4⟩)
    · exact .inl ⟨g1, g2, g3⟩
    · exact .inr ⟨T, K, l2, l3, _, g1, hTI, g2, g3, g4⟩

end Go.Proofs.YtojgablpjdlegaaGreatDoor
