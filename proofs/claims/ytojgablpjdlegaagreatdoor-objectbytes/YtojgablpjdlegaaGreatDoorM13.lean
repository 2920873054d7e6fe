/- ObG, ObH. -/
import Derived.Test.YtojgablpjdlegaaGreatDoorM10
import Derived.Test.YtojgablpjdlegaaGreatDoorM12
/- A commit read, without parents. -/
namespace Go.Proofs.YtojgablpjdlegaaGreatDoor
open Go.RowKit

/-- What is parsed, in cells. -/
def psf (en : Value) (f g : Nat → Value) (ed : Value) (j : Nat) : Value := if j = 0 then en else if j < 25 then f (j - 1) else if j < 49 then g (j - 25) else ed

/-- A tag's cells. -/
def tf (x : List Int) (k : Int) (a b m : List UInt8) (j : Nat) : Value := if j < 20 then cl x j else if j = 20 then .int .i64 k else if j = 21 then sv a else if j = 22 then sv b else sv m

abbrev nlv : Value := .slice none 0 0

abbrev psv (en : Value) (f g : Nat → Value) (ed : Value) : Value := row (psf en f g ed) 50

theorem zero107 (w : World) : (zeroValue 107).run Tryz.prog w = .ok (psv nlv (cf z20 nlv [] [] []) (tf z20 0 [] [] []) nlv) w := by kernel_rfl

theorem run_bs45 (x : List Int) (w : World) : (Instr.buildSlice 45 1 #[(0, idv x)]).run Tryz.prog w = .ok (.slice (some ⟨w.heap.size, 0, none⟩) 1 1) (w.alloc (.cells (vals (cl x) 20).toArray 27)) := by kernel_rfl

theorem run_ps (t : List Int) (p : Value) (a c m : List UInt8) (ed : Value) (w : World) (hp : p.oneCell' = true) (he : ed.oneCell' = true) : (Instr.build 107 #[(1, cmv t p a c m), (3, ed)]).run Tryz.prog w = .ok (psv nlv (cf t p a c m) (tf z20 0 [] [] []) ed) w := by
  cases p <;> first | (cases hp; done) | (cases ed <;> first | (cases he; done) | kernel_rfl)

theorem there_any {w : World} {b t N : Nat} {f : Nat → Value} (h : w.rowIs b t N f) (o m : Nat) (hm : o + m ≤ N) : w.there b o m := by
  intro j hj
  rw [h.cell (i := o + j) (by omega)]
  exact ⟨rfl, h.frozen _⟩

theorem set27 {w : World} {b : Nat} {t : List Int} {p : Value} {a c m : List UInt8} (h : w.rowIs b 47 24 (cf t p a c m)) (x : List Int) : (w.setCells b 0 (vals (cl x) 20)).rowIs b 47 24 (cf x p a c m) ∧ Fr (fun k => k = b) w (w.setCells b 0 (vals (cl x) 20)) := by
  refine ⟨(rowIs_setCells (vals (cl x) 20) 0 w _ h).congr (fun j hj => ?_), Fr.setCells (P := fun k => k = b) rfl _ _ _ _ (Fr.refl _ _)⟩
  rw [vals_len]
  unfold cf
  by_cases h20 : j < 20
  · rw [if_pos (by omega), if_pos h20, Nat.sub_zero, vals_get _ _ _ h20]
    rfl
  · rw [if_neg (by omega), if_neg h20, if_neg h20]

theorem step_bs45 {ops : Array Oper} {op : Oper} {a : Act} {w : World} {K : Act → World → Prop} {Q : Exit → Act → World → Prop} {E : Prop} (hgd : op.guard = none) (y : Operand) (ho : op.op = .buildSlice 45 1 #[(0, y)]) (x : List Int) (hy : a.eval y = idv x)
    (hk : K (a.put op.dst (.slice (some ⟨w.heap.size, 0, none⟩) 1 1)) (w.alloc (.cells (vals (cl x) 20).toArray 27))) : if Region.wanted op (yielded ops a.tmps) = true then Oper.wp Tryz.prog op a w K Q else E := by
  have hw : Region.wanted op (yielded ops a.tmps) = true := by simp [Region.wanted, hgd]
  rw [if_pos hw]
  have h := run_bs45 x w
  unfold Oper.wp
  simp only [execOp, ho, List.map_toArray, List.map_cons, List.map_nil, hy, Sem.run_bind, h, Result.andThen_ok, Sem.run_pure]
  exact hk

theorem own_one (w : World) (x : List Int) : (w.alloc (.cells (vals (cl x) 20).toArray 27)).ownsRow w.heap.size 27 20 (.slice (some ⟨w.heap.size, 0, none⟩) 1 1) 1 (vals (cl x) 20) :=
  World.ownsRow_lit (base := w.heap.size) (e := 27) (size := 20) w (vals (cl x) 20).toArray 1 (Nat.le_refl _) (by unfold maxLen; omega) (by rw [vals_size])

theorem step_app45 {w : World} {ops : Array Oper} {o : Oper} {a : Act} {K : Act → World → Prop} {Q : Exit → Act → World → Prop} {E : Prop} (hgd : o.guard = none) (s x : Operand)
    (ho : o.op = .call { callee := .builtin .append, args := #[s, x], argTypes := #[45, 45] }) (B : Nat) (v : Value) (n : Nat) (xs : List Value) (hs : a.eval s = v) (hx : a.eval x = .slice none 0 0) (hown : w.ownsRow B 27 20 v n xs)
    (h : K (a.put o.dst v) w) : if Region.wanted o (yielded ops a.tmps) = true then Oper.wp Tryz.prog o a w K Q else E := by
  obtain ⟨i0, hi, hz0, hz1, hz2⟩ := info_parts Tryz.info23
  have hw : Region.wanted o (yielded ops a.tmps) = true := by simp [Region.wanted, hgd]
  rw [if_pos hw]
  have hrun := run_append_owned_none (P := Tryz.prog) (w := w) B 45 o.type 27 i0 20 Tryz.underlying45 hi _ n _ hown
  unfold Oper.wp
  simp [execOp, ho, resolve, invoke, builtin, hs, hx, hrun, Result.andThen]
  exact h

theorem step_build {ops : Array Oper} {op : Oper} {a : Act} {w : World} {K : Act → World → Prop} {Q : Exit → Act → World → Prop} {E : Prop} (hgd : op.guard = none) (x y : Operand) (ho : op.op = .build 107 #[(1, x), (3, y)]) (t : List Int) (p : Value) (b c m : List UInt8) (ed : Value) (hp : p.oneCell' = true) (he : ed.oneCell' = true) (hx : a.eval x = cmv t p b c m) (hy : a.eval y = ed)
    (hk : K (a.put op.dst (psv nlv (cf t p b c m) (tf z20 0 [] [] []) ed)) w) : if Region.wanted op (yielded ops a.tmps) = true then Oper.wp Tryz.prog op a w K Q else E := by
  have hw : Region.wanted op (yielded ops a.tmps) = true := by simp [Region.wanted, hgd]
  rw [if_pos hw]
  have h := run_ps t p b c m ed w hp he
  unfold Oper.wp
  simp only [execOp, ho, List.map_toArray, List.map_cons, List.map_nil, hx, hy, Sem.run_bind, h, Result.andThen_ok, Sem.run_pure]
  exact hk

theorem step_st107 {ops : Array Oper} {op : Oper} {a : Act} {w : World} {K : Act → World → Prop} {Q : Exit → Act → World → Prop} {E : Prop} (hgd : op.guard = none) (x y : Operand) (ho : op.op = .store 107 x y) (b : Nat) (hx : a.eval x = .pointer (some ⟨b, 0, none⟩)) (g : Nat → Value) (hy : a.eval y = row g 50) (f : Nat → Value) (hr : w.rowIs b 107 50 f) (h1 : ∀ j, (g j).oneCell' = true)
    (hk : ∀ w', w'.rowIs b 107 50 g → Fr (fun k => k = b) w w' → K (a.put op.dst undef) w') : if Region.wanted op (yielded ops a.tmps) = true then Oper.wp Tryz.prog op a w K Q else E := by
  have hw : Region.wanted op (yielded ops a.tmps) = true := by simp [Region.wanted, hgd]
  rw [if_pos hw]
  refine wp_store_mid 107 x y ho b 0 (vals g 50).toArray hx hy (by rw [vals_size]; exact there_any hr 0 50 (by omega)) (by rw [vals_size]; kernel_rfl) (vals_one g 50 h1) (hk _ ?_ (Fr.setCells (P := fun k => k = b) rfl _ _ _ _ (Fr.refl _ _)))
  refine (rowIs_setCells (vals g 50) 0 w _ hr).congr (fun j hj => ?_)
  rw [vals_len, if_pos (by omega), Nat.sub_zero, vals_get _ _ _ hj]
  rfl

theorem cf_one (t : List Int) (p : Value) (a c m : List UInt8) (hp : p.oneCell' = true) (j : Nat) : (cf t p a c m j).oneCell' = true := by
  unfold cf
  split
  · rfl
  · split
    · exact hp
    · split
      · rfl
      · split <;> rfl

theorem tf_one (x : List Int) (k : Int) (a b m : List UInt8) (j : Nat) : (tf x k a b m j).oneCell' = true := by
  unfold tf
  split
  · rfl
  · split
    · rfl
    · split
      · rfl
      · split <;> rfl

theorem psf_one (en : Value) (f g : Nat → Value) (ed : Value) (h0 : en.oneCell' = true) (h1 : ∀ j, (f j).oneCell' = true) (h2 : ∀ j, (g j).oneCell' = true) (h3 : ed.oneCell' = true) (j : Nat) : (psf en f g ed j).oneCell' = true := by
  unfold psf
  split
  · exact h0
  · split
    · exact h1 _
    · split
      · exact h2 _
      · exact h3

end Go.Proofs.YtojgablpjdlegaaGreatDoor

/- A commit read, without parents: the walk. -/
namespace Go.Proofs.YtojgablpjdlegaaGreatDoor
open Go.RowKit

abbrev tre : List UInt8 := [116, 114, 101, 101]
abbrev pnt : List UInt8 := [112, 97, 114, 101, 110, 116]
abbrev aut : List UInt8 := [97, 117, 116, 104, 111, 114]
abbrev com : List UInt8 := [99, 111, 109, 109, 105, 116, 116, 101, 114]

theorem setS {w : World} {b : Nat} {t : List Int} {p : Value} {a c m : List UInt8} (h : w.rowIs b 47 24 (cf t p a c m)) (i : Nat) (x : List UInt8) (a' c' m' : List UInt8) (he : ∀ j, j < 24 → cf t p a' c' m' j = if j = i then sv x else cf t p a c m j) : (w.setCell ⟨b, i, none⟩ (sv x)).rowIs b 47 24 (cf t p a' c' m') ∧ Fr (fun k => k = b) w (w.setCell ⟨b, i, none⟩ (sv x)) :=
  ⟨set_row h i (sv x) he, set_fr w b i _⟩

theorem cf21 (t : List Int) (p : Value) (a c m x : List UInt8) (j : Nat) (_ : j < 24) : cf t p x c m j = if j = 21 then sv x else cf t p a c m j := by
  unfold cf
  by_cases h : j = 21
  · subst h; rfl
  · rw [if_neg h, if_neg h, if_neg h]

theorem cf22 (t : List Int) (p : Value) (a c m x : List UInt8) (j : Nat) (_ : j < 24) : cf t p a x m j = if j = 22 then sv x else cf t p a c m j := by
  unfold cf
  by_cases h : j = 22
  · subst h; rfl
  · rw [if_neg h, if_neg h, if_neg h]

theorem cf23 (t : List Int) (p : Value) (a c m x : List UInt8) (j : Nat) (hj : j < 24) : cf t p a c x j = if j = 23 then sv x else cf t p a c m j := by
  unfold cf
  by_cases h : j = 23
  · subst h; rfl
  · rw [if_neg h]
    by_cases h2 : j < 20
    · rw [if_pos h2, if_pos h2]
    · rw [if_neg h2, if_neg h2]
      by_cases h3 : j = 20
      · rw [if_pos h3, if_pos h3]
      · rw [if_neg h3, if_neg h3]
        by_cases h4 : j = 21
        · rw [if_pos h4, if_pos h4]
        · rw [if_neg h4, if_neg h4, if_pos (by omega), if_pos (by omega)]

/-- What a commit's bytes say, as far as there are no parents. -/
structure Cm0 (l : List UInt8) (e : Int) (T : List Int) (A C M : List UInt8) (e4 : Int) : Prop where
  ex : ∃ l1 e1 l2 e2 l3 e3, (par (ns ⟨(lin tre l).1.toArray⟩)).1 = T ∧ (lin tre l).2 = l1 ∧ idE tre l e = e1 ∧ Lib.hasPrefix l1 (pnt ++ [32]) = false ∧ lin aut l1 = (A, l2) ∧ nd (lnF aut l1).2.2 e1 2 = e2 ∧ lin com l2 = (C, l3) ∧ nd (lnF com l2).2.2 e2 2 = e3 ∧ msL l3 = M ∧ msE l3 e3 = e4

set_option maxRecDepth 100000 in
set_option maxHeartbeats 4000000 in
theorem commit0 (R : Nat) (l : List UInt8) (e : Int) (T : List Int) (A C M : List UInt8) (e4 : Int) (w : World) (hg : Gs w) (hR : 9 < R) (h : w.rowIs R 150 2 (rf l e)) (hs : l.length ≤ 1000000) (hm : Cm0 l e T A C M e4)
    (hta : ∀ W, Calls Tryz.prog 101 #[sv A, .int .i64 200] W fun e w' => e = .returned (.bool true) ∧ Below W.heap.size W w') (htc : ∀ W, Calls Tryz.prog 101 #[sv C, .int .i64 200] W fun e w' => e = .returned (.bool true) ∧ Below W.heap.size W w') :
    Calls Tryz.prog 117 #[.pointer (some ⟨R, 0, none⟩)] w fun ex w' => ∃ b, ex = .returned (psv nlv (cf T nlv A C M) (tf z20 0 [] [] []) (.slice (some ⟨b, 0, none⟩) 1 1)) ∧ w'.rowIs b 27 20 (cl T) ∧ w.heap.size ≤ b ∧ w'.rowIs R 150 2 (rf [] e4) ∧ Fr (fun i => i = R) w w' := by
  obtain ⟨l1, e1, l2, e2, l3, e3, hT, hl1, he1, hnp, hA, he2, hC, he3, hM, he4⟩ := hm.ex
  have n1 : l1.length ≤ 1000000 := by rw [← hl1]; exact Nat.le_trans (lin_len tre l).2 hs
  have n2 : l2.length ≤ 1000000 := by have := (lin_len aut l1).2; rw [hA] at this; exact Nat.le_trans this n1
  have n3 : l3.length ≤ 1000000 := by have := (lin_len com l2).2; rw [hC] at this; exact Nat.le_trans this n2
  have hz := zero107
  have hz2 := zero47
  have hRl : R < w.heap.size := h.lt
  obtain ⟨W, hW⟩ : ∃ W, W = (w.alloc (Obj.cells (vals (psf nlv (cf z20 nlv [] [] []) (tf z20 0 [] [] []) nlv) 50).toArray 107)).alloc (Obj.cells (vals (cf z20 nlv [] [] []) 24).toArray 47) := ⟨_, rfl⟩
  have bA := new_below w (Obj.cells (vals (psf nlv (cf z20 nlv [] [] []) (tf z20 0 [] [] []) nlv) 50).toArray 107)
  have bW : Below w.heap.size w W := by rw [hW]; exact bA.alloc bA.size _
  have HP0 : Hid (W.rowIs w.heap.size 107 50 (psf nlv (cf z20 nlv [] [] []) (tf z20 0 [] [] []) nlv)) := by rw [hW]; exact rowIs_fr (P := fun _ => False) (rowIs_vals w _ 50 107) (Fr.ofBelow (new_below _ _)) (fun h => h)
  have c0 : W.rowIs (w.heap.size + 1) 47 24 (cf z20 nlv [] [] []) := by rw [hW]; have := rowIs_vals (w.alloc (Obj.cells (vals (psf nlv (cf z20 nlv [] [] []) (tf z20 0 [] [] []) nlv) 50).toArray 107)) (cf z20 nlv [] [] []) 24 47; simpa using this
  have r0 : W.rowIs R 150 2 (rf l e) := rowIs_fr (P := fun _ => False) h (Fr.ofBelow bW) (fun h => h)
  have HF0 : Hid (Fr (fun i => i = R) w W) := Fr.ofBelow bW
  have HG : Hid (∀ V, Fr (fun i => i = R) w V → Gs V) := fun V hV => hg.fr hV hR
  have hid := id_any R tre l e W (HG.out W HF0.out) r0 hs (by decide)
  rw [hT, hl1, he1] at hid
  have HC0 : Hid (W.rowIs (w.heap.size + 1) 47 24 (cf z20 nlv [] [] [])) := c0
  obtain ⟨P0, hP0⟩ : ∃ P0, P0 = w.heap.size := ⟨_, rfl⟩
  obtain ⟨C0, hC0⟩ : ∃ C0, C0 = w.heap.size + 1 := ⟨_, rfl⟩
  have HPC : Hid (w.heap.size = P0 ∧ w.heap.size + 1 = C0) := ⟨hP0.symm, hC0.symm⟩
  have HNE : Hid (P0 ≠ R ∧ C0 ≠ R ∧ P0 ≠ C0 ∧ w.heap.size ≤ P0 ∧ w.heap.size ≤ C0) := by show _ ∧ _; omega
  clear bA bW c0 r0 hg h hm
  go_enter Tryz.func117, Tryz.ntmps117
  go_wp2_with fail
  rw [← hW]
  rw [← hP0] at HP0
  rw [← hC0] at HC0
  clear hW
  refine hid.mono ?_
  rintro ex w1 ⟨rfl, r1, f1⟩
  have HF1 : Hid (Fr (fun i => i = R) w w1) := HF0.out.trans f1 (fun _ _ h => h)
  have HP1 : Hid (w1.rowIs P0 107 50 (psf nlv (cf z20 nlv [] [] []) (tf z20 0 [] [] []) nlv)) := rowIs_fr HP0.out f1 HNE.out.1
  have c1 : w1.rowIs C0 47 24 (cf z20 nlv [] [] []) := rowIs_fr HC0.out f1 HNE.out.2.1
  have HR1 : Hid (w1.rowIs R 150 2 (rf l1 e1)) := r1
  clear hid r1 f1 HF0 HP0 HC0
  obtain ⟨w2, hw2⟩ : ∃ w2, w1.setCells C0 0 (vals (cl T) 20) = w2 := ⟨_, rfl⟩
  have s2 := set27 c1 T
  rw [hw2] at s2
  have ht := there_any c1 0 20 (by omega)
  clear c1
  rw [← hC0, ← hP0]
  clear hP0 hC0
  go_wp2_with ((refine wpList_stv rfl _ _ rfl C0 0 rfl T rfl ht w2 hw2 ?_))
  have HC2 : Hid (w2.rowIs C0 47 24 (cf T nlv [] [] [])) := s2.1
  have HF2 : Hid (Fr (fun i => i = R) w w2) := HF1.out.trans s2.2 (fun i hi e => by have := HNE.out.2.2.2.2; omega)
  have HP2 : Hid (w2.rowIs P0 107 50 (psf nlv (cf z20 nlv [] [] []) (tf z20 0 [] [] []) nlv)) := rowIs_fr HP1.out s2.2 HNE.out.2.2.1
  have HR2 : Hid (w2.rowIs R 150 2 (rf l1 e1)) := rowIs_fr HR1.out s2.2 (fun h => HNE.out.2.1 h.symm)
  have q2 : w2.cell? ⟨R, 0, none⟩ = some (sv l1) := HR2.out.cell (i := 0) (by omega)
  have hha : Calls Tryz.prog 150 #[sv l1, sv [112, 97, 114, 101, 110, 116, 32]] w2 fun e w' => e = .returned (.bool false) ∧ w' = w2 := by
    have := hasp_any l1 (pnt ++ [32]) w2
    rw [hnp] at this
    exact this
  clear s2 hw2 ht HF1 HP1 HR1
  simp only [Act.put]
  go_loopw [] (fun wr => wr = w2) (fun _ => 0)
  case atStart => rfl
  case round =>
    subst wr
    go_wp2_with fail
    refine hha.mono ?_
    rintro ex wx ⟨rfl, hwx⟩
    subst wx
    clear hha q2
    have hl2 := line_any aut w2
    go_wp2_with fail
    refine hl2.mono ?_
    rintro ex w3 ⟨a2, b2, p2, rfl, ha2, hb2, hp2, B2⟩
    have F2 : Fr (fun i => i = R) w2 w3 := Fr.ofBelow B2
    have HF3 : Hid (Fr (fun i => i = R) w w3) := HF2.out.trans F2 (fun _ _ h => h)
    have HP3 : Hid (w3.rowIs P0 107 50 (psf nlv (cf z20 nlv [] [] []) (tf z20 0 [] [] []) nlv)) := rowIs_fr HP2.out F2 HNE.out.1
    have HC3 : Hid (w3.rowIs C0 47 24 (cf T nlv [] [] [])) := rowIs_fr HC2.out F2 HNE.out.2.1
    have hcl2 := cutLine R aut l1 e1 a2 b2 p2 w3 (HG.out _ HF3.out) (rowIs_fr (P := fun _ => False) HR2.out (Fr.ofBelow B2) (fun h => h)) ha2 hb2 hp2 n1 (by decide)
    rw [hA, he2] at hcl2
    clear hl2 ha2 hb2 hp2 B2 F2 HF2 HP2 HC2 HR2
    go_wp2_with fail
    refine hcl2.mono ?_
    rintro ex w4 ⟨rfl, r4, f4⟩
    have HF4 : Hid (Fr (fun i => i = R) w w4) := HF3.out.trans f4 (fun _ _ h => h)
    have HP4 : Hid (w4.rowIs P0 107 50 (psf nlv (cf z20 nlv [] [] []) (tf z20 0 [] [] []) nlv)) := rowIs_fr HP3.out f4 HNE.out.1
    have c4 : w4.rowIs C0 47 24 (cf T nlv [] [] []) := rowIs_fr HC3.out f4 HNE.out.2.1
    have HR4 : Hid (w4.rowIs R 150 2 (rf l2 e2)) := r4
    have q4 : w4.cell? ⟨C0, 21, none⟩ = some (sv []) := c4.cell (i := 21) (by omega)
    have z4 := World.rowIs.frozen c4 21
    have s4 := setS c4 21 A A [] [] (cf21 T nlv [] [] [] A)
    obtain ⟨w5, hw5⟩ : ∃ V, w4.setCell ⟨C0, 21, none⟩ (sv A) = V := ⟨_, rfl⟩
    rw [hw5] at s4
    have HC5 : Hid (w5.rowIs C0 47 24 (cf T nlv A [] [])) := s4.1
    have HF5 : Hid (Fr (fun i => i = R) w w5) := HF4.out.trans s4.2 (fun i hi e => by have := HNE.out.2.2.2.2; omega)
    have HP5 : Hid (w5.rowIs P0 107 50 (psf nlv (cf z20 nlv [] [] []) (tf z20 0 [] [] []) nlv)) := rowIs_fr HP4.out s4.2 HNE.out.2.2.1
    have HR5 : Hid (w5.rowIs R 150 2 (rf l2 e2)) := rowIs_fr HR4.out s4.2 (fun h => HNE.out.2.1 h.symm)
    clear hcl2 r4 f4 c4 s4 HF3 HP3 HC3 HF4 HP4 HR4
    have hl5 := line_any com w5
    go_wp2_with fail
    refine hl5.mono ?_
    rintro ex w6 ⟨a5, b5, p5, rfl, ha5, hb5, hp5, B5⟩
    have F5 : Fr (fun i => i = R) w5 w6 := Fr.ofBelow B5
    have HF6 : Hid (Fr (fun i => i = R) w w6) := HF5.out.trans F5 (fun _ _ h => h)
    have HP6 : Hid (w6.rowIs P0 107 50 (psf nlv (cf z20 nlv [] [] []) (tf z20 0 [] [] []) nlv)) := rowIs_fr HP5.out F5 HNE.out.1
    have HC6 : Hid (w6.rowIs C0 47 24 (cf T nlv A [] [])) := rowIs_fr HC5.out F5 HNE.out.2.1
    have hcl5 := cutLine R com l2 e2 a5 b5 p5 w6 (HG.out _ HF6.out) (rowIs_fr (P := fun _ => False) HR5.out (Fr.ofBelow B5) (fun h => h)) ha5 hb5 hp5 n2 (by decide)
    rw [hC, he3] at hcl5
    clear hl5 ha5 hb5 hp5 B5 F5 HF5 HP5 HC5 HR5
    go_wp2_with fail
    refine hcl5.mono ?_
    rintro ex w7 ⟨rfl, r7, f7⟩
    have HF7 : Hid (Fr (fun i => i = R) w w7) := HF6.out.trans f7 (fun _ _ h => h)
    have HP7 : Hid (w7.rowIs P0 107 50 (psf nlv (cf z20 nlv [] [] []) (tf z20 0 [] [] []) nlv)) := rowIs_fr HP6.out f7 HNE.out.1
    have c7 : w7.rowIs C0 47 24 (cf T nlv A [] []) := rowIs_fr HC6.out f7 HNE.out.2.1
    have HR7 : Hid (w7.rowIs R 150 2 (rf l3 e3)) := r7
    have q7 : w7.cell? ⟨C0, 22, none⟩ = some (sv []) := c7.cell (i := 22) (by omega)
    have z7 := World.rowIs.frozen c7 22
    have s7 := setS c7 22 C A C [] (cf22 T nlv A [] [] C)
    obtain ⟨w8, hw8⟩ : ∃ V, w7.setCell ⟨C0, 22, none⟩ (sv C) = V := ⟨_, rfl⟩
    rw [hw8] at s7
    have HC8 : Hid (w8.rowIs C0 47 24 (cf T nlv A C [])) := s7.1
    have HF8 : Hid (Fr (fun i => i = R) w w8) := HF7.out.trans s7.2 (fun i hi e => by have := HNE.out.2.2.2.2; omega)
    have HP8 : Hid (w8.rowIs P0 107 50 (psf nlv (cf z20 nlv [] [] []) (tf z20 0 [] [] []) nlv)) := rowIs_fr HP7.out s7.2 HNE.out.2.2.1
    have HR8 : Hid (w8.rowIs R 150 2 (rf l3 e3)) := rowIs_fr HR7.out s7.2 (fun h => HNE.out.2.1 h.symm)
    clear hcl5 r7 f7 c7 s7 HF6 HP6 HC6 HF7 HP7 HR7
    have hme := message_any R l3 e3 w8 (HG.out _ HF8.out) HR8.out n3
    rw [hM, he4] at hme
    go_wp2_with fail
    refine hme.mono ?_
    rintro ex w9 ⟨rfl, r9, f9⟩
    have HF9 : Hid (Fr (fun i => i = R) w w9) := HF8.out.trans f9 (fun _ _ h => h)
    have HP9 : Hid (w9.rowIs P0 107 50 (psf nlv (cf z20 nlv [] [] []) (tf z20 0 [] [] []) nlv)) := rowIs_fr HP8.out f9 HNE.out.1
    have c9 : w9.rowIs C0 47 24 (cf T nlv A C []) := rowIs_fr HC8.out f9 HNE.out.2.1
    have HR9 : Hid (w9.rowIs R 150 2 (rf [] e4)) := r9
    have q9 : w9.cell? ⟨C0, 23, none⟩ = some (sv []) := c9.cell (i := 23) (by omega)
    have z9 := World.rowIs.frozen c9 23
    have s9 := setS c9 23 M A C M (cf23 T nlv A C [] M)
    obtain ⟨w10, hw10⟩ : ∃ V, w9.setCell ⟨C0, 23, none⟩ (sv M) = V := ⟨_, rfl⟩
    rw [hw10] at s9
    have c10 : w10.rowIs C0 47 24 (cf T nlv A C M) := s9.1
    have HF10 : Hid (Fr (fun i => i = R) w w10) := HF9.out.trans s9.2 (fun i hi e => by have := HNE.out.2.2.2.2; omega)
    have HP10 : Hid (w10.rowIs P0 107 50 (psf nlv (cf z20 nlv [] [] []) (tf z20 0 [] [] []) nlv)) := rowIs_fr HP9.out s9.2 HNE.out.2.2.1
    have HR10 : Hid (w10.rowIs R 150 2 (rf [] e4)) := rowIs_fr HR9.out s9.2 (fun h => HNE.out.2.1 h.symm)
    have HC10 : Hid (w10.rowIs C0 47 24 (cf T nlv A C M)) := c10
    have hmb := mayBe0 T A C M w10 hta htc
    clear hme r9 f9 c9 s9 HF8 HP8 HC8 HR8 HF9 HP9 HR9
    go_wp2_with (first
      | (refine wpList_ld0 rfl 47 _ rfl C0 rfl _ c10 24 (Nat.le_refl _) Tryz.underlying47 rfl (by kernel_rfl) ?_))
    refine hmb.mono ?_
    rintro ex w11 ⟨rfl, b11⟩
    have f11 : Fr (fun i => i = R) w10 w11 := Fr.ofBelow b11
    have HF11 : Hid (Fr (fun i => i = R) w w11) := HF10.out.trans f11 (fun _ _ h => h)
    have HP11 : Hid (w11.rowIs P0 107 50 (psf nlv (cf z20 nlv [] [] []) (tf z20 0 [] [] []) nlv)) := rowIs_fr HP10.out f11 HNE.out.1
    have HC11 : Hid (w11.rowIs C0 47 24 (cf T nlv A C M)) := rowIs_fr HC10.out f11 HNE.out.2.1
    have hnd := need_any R [] e4 2 true w11 (rowIs_fr (P := fun _ => False) HR10.out (Fr.ofBelow b11) (fun h => h))
    clear hmb c10 b11 f11 HF10 HP10 HR10 HC10
    go_wp2_with fail
    refine hnd.mono ?_
    rintro ex w12 ⟨rfl, r12, f12⟩
    rw [show nd true e4 2 = e4 by unfold nd; rw [if_neg (by simp)]] at r12
    have HF12 : Hid (Fr (fun i => i = R) w w12) := HF11.out.trans f12 (fun _ _ h => h)
    have HP12 : Hid (w12.rowIs P0 107 50 (psf nlv (cf z20 nlv [] [] []) (tf z20 0 [] [] []) nlv)) := rowIs_fr HP11.out f12 HNE.out.1
    have HC12 : Hid (w12.rowIs C0 47 24 (cf T nlv A C M)) := rowIs_fr HC11.out f12 HNE.out.2.1
    have HR12 : Hid (w12.rowIs R 150 2 (rf [] e4)) := r12
    clear hnd r12 f12 HF11 HP11 HC11
    go_wp2_with fail
    have HD : Hid (Fr (fun i => i = P0) w12 w12.drew) := (Fr.refl _ _).drew
    have HSC : Hid (∀ V, Fr (fun i => i = P0) w12 V → V.rowIs C0 47 24 (cf T nlv A C M)) := fun V hV => rowIs_fr HC12.out hV (fun h => HNE.out.2.2.1 h.symm)
    refine wp_region_noPanic ?_
    refine wp_region_held_drew (S := fun V => Fr (fun i => i = P0) w12 V ∧ ∃ f, V.rowIs P0 107 50 f) (by kernel_rfl) ⟨HD.out, _, rowIs_fr (P := fun _ => False) HP12.out (Fr.refl _ _).drew (fun h => h)⟩ (fun hHeld => ?_)
    refine wpAnyH_take (i := 0) (oi := ⟨some 34, _, _, _, _, _⟩) (v := cmv T nlv A C M) rfl (by kernel_rfl) (by kernel_rfl) (by kernel_rfl) (fun _ _ _ h => h) (yieldsIf_load_mid (by rfl) _ _ rfl C0 0 rfl (vals (cf T nlv A C M) 24) _ (fun V hV => by simpa using rangeAt_row (HSC.out V hV.1) 0 24 (by omega)) Tryz.underlying47 rfl (by rw [vals_len]; kernel_rfl)) hHeld ?_
    try simp only [Act.put, List.setIfInBounds_toArray, List.set_cons_zero, List.set_cons_succ]
    refine wpAnyH_take (i := 1) (oi := ⟨some 35, _, _, _, _, _⟩) (v := ?_) rfl (by kernel_rfl) (by kernel_rfl) (by kernel_rfl) (fun _ _ _ h => h) (Or.inl ⟨by rfl, ?_⟩) hHeld ?_
    rotate_left
    · (intro w' hSw; go_simp; try with_reducible rfl)
    try simp only [Act.put, List.setIfInBounds_toArray, List.set_cons_zero, List.set_cons_succ]
    refine wpAnyH_take (i := 2) (oi := ⟨some 36, _, _, _, _, _⟩) (v := idv T) rfl (by kernel_rfl) (by kernel_rfl) (by kernel_rfl) (fun _ _ _ h => h) (yieldsIf_load_mid (by rfl) _ _ rfl C0 0 rfl (vals (cl T) 20) _ (fun V hV => by
      have h := rangeAt_row (HSC.out V hV.1) 0 20 (by omega)
      rw [vals_congr (fun j => cf T nlv A C M (0 + j)) (cl T) 20 (fun j hj => by unfold cf; rw [Nat.zero_add, if_pos hj])] at h
      exact h) Tryz.underlying27 rfl (by rw [vals_len]; kernel_rfl)) hHeld ?_
    try simp only [Act.put, List.setIfInBounds_toArray, List.set_cons_zero, List.set_cons_succ]
    refine wpAnyH_take (i := 4) (oi := ⟨some 38, _, _, _, _, _⟩) (v := ?_) rfl (by kernel_rfl) (by kernel_rfl) (by kernel_rfl) (fun _ _ _ h => h) (Or.inl ⟨by rfl, ?_⟩) hHeld ?_
    rotate_left
    · (intro w' hSw; go_simp; try with_reducible rfl)
    try simp only [Act.put, List.setIfInBounds_toArray, List.set_cons_zero, List.set_cons_succ]
    refine wpAnyH_take (i := 5) (oi := ⟨some 39, _, _, _, _, _⟩) (v := nlv) rfl (by kernel_rfl) (by kernel_rfl) (by kernel_rfl) (fun _ _ _ h => h) (Or.inl ⟨by rfl, ?_⟩) hHeld ?_
    · (intro w' hSw; have q20 : w'.cell? ⟨C0, 20, none⟩ = some nlv := (HSC.out w' hSw.1).cell (i := 20) (by omega); go_simp; try with_reducible rfl)
    try simp only [Act.put, List.setIfInBounds_toArray, List.set_cons_zero, List.set_cons_succ]
    refine wpAnyH_ready (rs := [3]) (by kernel_rfl) (by simp) ?_
    refine AllReadyH.cons (o := ⟨some 37, _, _, _, _, _⟩) rfl (fun K hK => ?_) AllReadyH.nil
    refine step_bs45 (by rfl) _ rfl T rfl ?_
    have HO : Hid ((w12.drew.alloc (.cells (vals (cl T) 20).toArray 27)).ownsRow w12.drew.heap.size 27 20 (.slice (some ⟨w12.drew.heap.size, 0, none⟩) 1 1) 1 (vals (cl T) 20)) := own_one w12.drew T
    have HB13 : Hid (Below w12.drew.heap.size w12.drew (w12.drew.alloc (.cells (vals (cl T) 20).toArray 27))) := new_below _ _
    have HX13 : Hid ((w12.drew.alloc (.cells (vals (cl T) 20).toArray 27)).rowIs w12.drew.heap.size 27 20 (cl T)) := rowIs_vals _ _ _ _
    obtain ⟨w13, hw13⟩ : ∃ V, V = w12.drew.alloc (.cells (vals (cl T) 20).toArray 27) := ⟨_, rfl⟩
    obtain ⟨X, hX⟩ : ∃ X, X = w12.drew.heap.size := ⟨_, rfl⟩
    rw [← hw13, ← hX] at HO HX13
    rw [← hw13] at HB13
    rw [← hw13, ← hX]
    have hXs : w12.heap.size ≤ X := by rw [hX]; exact Nat.le_refl _
    have hXs2 : w.heap.size ≤ w12.heap.size := HF12.out.size
    have hPl : P0 < w12.heap.size := HP12.out.lt
    have hRl2 : R < w12.heap.size := HR12.out.lt
    clear hw13 hX
    have S13 : Fr (fun i => i = P0) w12 w13 := HD.out.trans (Fr.ofBelow HB13.out) (fun _ _ h => h)
    refine hK.out _ _ ⟨S13, _, rowIs_fr (P := fun _ => False) (rowIs_fr (P := fun _ => False) HP12.out (Fr.refl _ _).drew (fun h => h)) (Fr.ofBelow HB13.out) (fun h => h)⟩ (fun hHeld => ?_)
    clear hK K
    try simp only [Act.put, List.setIfInBounds_toArray, List.set_cons_zero, List.set_cons_succ]
    refine wpAnyH_ready (rs := [6]) (by kernel_rfl) (by simp) ?_
    refine AllReadyH.cons (o := ⟨some 40, _, _, _, _, _⟩) rfl (fun K hK => ?_) AllReadyH.nil
    refine step_app45 (by rfl) _ _ rfl _ _ 1 _ rfl rfl HO.out ?_
    refine hK.out _ _ hHeld (fun hHeld => ?_)
    clear hK K
    try simp only [Act.put, List.setIfInBounds_toArray, List.set_cons_zero, List.set_cons_succ]
    refine wpAnyH_ready (rs := [7]) (by kernel_rfl) (by simp) ?_
    refine AllReadyH.cons (o := ⟨some 41, _, _, _, _, _⟩) rfl (fun K hK => ?_) AllReadyH.nil
    refine step_build (by rfl) _ _ rfl T nlv A C M (.slice (some ⟨X, 0, none⟩) 1 1) rfl rfl rfl rfl ?_
    refine hK.out _ _ hHeld (fun hHeld => ?_)
    clear hK K
    try simp only [Act.put, List.setIfInBounds_toArray, List.set_cons_zero, List.set_cons_succ]
    obtain ⟨fp, hfp⟩ := hHeld.2
    refine wpAnyH_ready (rs := [8]) (by kernel_rfl) (by simp) ?_
    refine AllReadyH.cons (o := ⟨none, _, _, _, _, _⟩) rfl (fun K hK => ?_) AllReadyH.nil
    refine step_st107 (by rfl) _ _ rfl P0 rfl (psf nlv (cf T nlv A C M) (tf z20 0 [] [] []) (.slice (some ⟨X, 0, none⟩) 1 1)) rfl fp hfp (psf_one _ _ _ _ rfl (cf_one _ _ _ _ _ rfl) (tf_one _ _ _ _ _) rfl) ?_
    intro w14 r14 f14
    have S14 : Fr (fun i => i = P0) w12 w14 := S13.trans f14 (fun _ _ h => h)
    refine hK.out _ _ ⟨S14, _, r14⟩ (fun hHeld => ?_)
    clear hK K
    refine wpAnyH_done (by kernel_rfl) ?_ _
    refine NoPanic.normal ?_
    have HX14 : Hid (w14.rowIs X 27 20 (cl T)) := rowIs_fr HX13.out f14 (by omega)
    have HF14 : Hid (Fr (fun i => i = R) w w14) := HF12.out.trans S14 (fun i hi e => by have := HNE.out.2.2.2.1; omega)
    have HR14 : Hid (w14.rowIs R 150 2 (rf [] e4)) := rowIs_fr HR12.out S14 (fun h => HNE.out.1 h.symm)
    have hXw : w.heap.size ≤ X := by omega
    clear hHeld S13 S14 hfp f14 HO HB13 HX13 HSC HD HF12 HP12 HC12 HR12
    go_wp2_with fail
    refine bodyPost_ret (results_row (fn := Tryz.f117) (p := 2) (ty := 107) (by kernel_rfl) _ (by rfl) r14 Tryz.underlying107 rfl (by kernel_rfl)) rfl ⟨X, rfl, HX14.out, hXw, HR14.out, HF14.out⟩

end Go.Proofs.YtojgablpjdlegaaGreatDoor
