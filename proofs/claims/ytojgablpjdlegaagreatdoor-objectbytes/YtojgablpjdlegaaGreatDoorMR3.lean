/- The document's entry: one at a place. -/
import Derived.Test.YtojgablpjdlegaaGreatDoorMR0
import Derived.Test.YtojgablpjdlegaaGreatDoorMT08
import Derived.Test.YtojgablpjdlegaaGreatDoorMR1
import Derived.Test.YtojgablpjdlegaaGreatDoorMT09
namespace Go.Proofs.YtojgablpjdlegaaGreatDoor
open Go.RowKit Go.Shelf

/-- Where a mode's digits end. -/
def sp (xs : List Int) (p : Nat) : Nat := min (nx 32 xs p) (p + 8)

/-- The mode that has these digits, among the first k. -/
def mof (dg : List UInt8) : Nat → Int
  | 0 => 0
  | k + 1 => if mdt (mdv k) = dg then mdv k else mof dg k

/-- An entry stands there. -/
def gE (xs : List Int) (n S Z : Nat) (m : Int) (nm : List UInt8) : Prop := S < n ∧ xs.getD S 0 = 32 ∧ m ≠ 0 ∧ Z + 21 ≤ n ∧ nmB nm = true

theorem ef1 (m : Int) (s : ByteArray) (x : List Int) (j : Nat) : (ef m s x j).oneCell' = true := by
  unfold ef
  repeat' split
  all_goals first | rfl | (unfold cl; rfl)

theorem oq_call1 {o : Oper} {a : Act} {C : World → Prop} {K : Act → Prop} (f : FuncId) (hf : ∀ vs w, (callFunc f vs).run Tryz.prog w = .ok (.enter f vs) w) (x : Operand) (ts : Array TypeId) (ho : o.op = .call { callee := .value (.func f), args := #[x], argTypes := ts }) (u : Value) (hx : a.eval x = u) (v : Value)
    (hc : ∀ w, C w → Calls Tryz.prog f #[u] w (fun e w' => e = .returned v ∧ C w')) (hk : K (a.put o.dst v)) : o.quiet Tryz.prog a C K := by
  refine ⟨v, fun w hC => ?_, hk⟩
  have h := hc w hC
  have hr : (resolve a.eval { callee := .value (.func f), args := #[x], argTypes := ts } o.type >>= fun d => invoke d.target d.args).run Tryz.prog w = .ok (.enter f #[u]) w := by
    rw [← hf #[u] w, ← hx]
    simp [resolve, Act.eval, invoke, Deferred.ofValue]
  unfold Oper.quietAt execOp
  simp only [ho, hr]
  exact ⟨rfl, h⟩

theorem oq_sub {o : Oper} {a : Act} {C : World → Prop} {K : Act → Prop} (x : Operand) (lo hi : Option Operand) (ho : o.op = .slice 22 x lo hi none) (u v : Value) (ol oh : Option Value) (hx : a.eval x = u) (hl : lo.map a.eval = ol) (hh : hi.map a.eval = oh)
    (hr : ∀ w, C w → (Instr.sliceAt 22 u ol oh none).run Tryz.prog w = .ok v w) (hk : K (a.put o.dst v)) : o.quiet Tryz.prog a C K := by
  refine ⟨v, fun w hC => ?_, hk⟩
  have h := hr w hC
  unfold Oper.quietAt execOp
  simp only [ho, hx, hl, hh, Option.map_none]
  simp [h, Oper.quietUpon]

theorem oq_cv {o : Oper} {a : Act} {C : World → Prop} {K : Act → Prop} (x : Operand) (ho : o.op = .convert 22 9 x) (u v : Value) (hx : a.eval x = u)
    (hr : ∀ w, C w → (convert 22 9 u).run Tryz.prog w = .ok v w) (hk : K (a.put o.dst v)) : o.quiet Tryz.prog a C K := by
  refine ⟨v, fun w hC => ?_, hk⟩
  have h := hr w hC
  unfold Oper.quietAt execOp
  simp only [ho, hx]
  simp [h, Oper.quietUpon]

theorem oq_eqS {o : Oper} {a : Act} {C : World → Prop} {K : Act → Prop} (x y : Operand) (t : TypeId) (ho : o.op = .binOp .eql 9 x y t) (l m : List UInt8) (hx : a.eval x = sv l) (hy : a.eval y = sv m) (b : Bool) (hb : (l == m) = b) (hk : K (a.put o.dst (.bool b))) : o.quiet Tryz.prog a C K := by
  refine ⟨_, fun w _ => ?_, hk⟩
  unfold Oper.quietAt execOp
  simp only [ho, hx, hy]
  simp [Oper.quietUpon, go_sem, hb]

theorem wpList_bs155 {ops : Array Oper} {rest : List Oper} {op : Oper} {a : Act} {w w' : World} {Q : Exit → Act → World → Prop} (hgd : op.guard = none) (ho : op.op = .buildSlice 155 5 #[(0, .const (.int .i64 16384)), (1, .const (.int .i64 33188)), (2, .const (.int .i64 33261)), (3, .const (.int .i64 40960)), (4, .const (.int .i64 57344))]) (v : Value)
    (h : (Instr.buildSlice 155 5 #[(0, .int .i64 16384), (1, .int .i64 33188), (2, .int .i64 33261), (3, .int .i64 40960), (4, .int .i64 57344)]).run Tryz.prog w = .ok v w') (hk : wpList Tryz.prog ops Q rest (a.put op.dst v) w') : wpList Tryz.prog ops Q (op :: rest) a w := by
  refine wpList_plain hgd fun K hK => ?_
  unfold Oper.wp
  simp only [execOp, ho, List.map_toArray, List.map_cons, List.map_nil, Act.eval, Sem.run_bind, h, Result.andThen_ok, Sem.run_pure]
  exact hK _ _ hk

theorem cf67 (vs : Array Value) (w : World) : (callFunc 67 vs).run Tryz.prog w = .ok (.enter 67 vs) w := by simp [go_sem]

theorem ef0 (m m' : Int) (s : ByteArray) (x : List Int) (j : Nat) (_ : j < 22) : ef m' s x j = if j = 0 then .int .i64 m' else ef m s x j := by
  unfold ef
  by_cases h : j = 0
  · rw [if_pos h, if_pos h]
  · rw [if_neg h, if_neg h, if_neg h]

theorem ef1s (m : Int) (s s' : ByteArray) (x : List Int) (j : Nat) (_ : j < 22) : ef m s' x j = if j = 1 then .string s' else ef m s x j := by
  unfold ef
  by_cases h : j = 1
  · subst h; rfl
  · rw [if_neg h, if_neg h, if_neg h]

/-- An entry's cells while its name of twenty bytes is filled. -/
def fil (m : Int) (nm : List UInt8) (xs : List Int) (q k j : Nat) : Value := if j = 0 then .int .i64 m else if j = 1 then sv nm else if j - 2 < k then .int .u8 (xs.getD (q + (j - 2)) 0) else .int .u8 0

theorem fil_zero (m : Int) (nm : List UInt8) (xs : List Int) (q j : Nat) : fil m nm xs q 0 j = ef m ⟨nm.toArray⟩ z20 j := by
  unfold fil ef
  by_cases h0 : j = 0
  · rw [if_pos h0, if_pos h0]
  · by_cases h1 : j = 1
    · rw [if_neg h0, if_pos h1, if_neg h0, if_pos h1]
    · rw [if_neg h0, if_neg h1, if_neg (by omega), if_neg h0, if_neg h1]
      exact (zc _).symm

theorem fil_succ (m : Int) (nm : List UInt8) (xs : List Int) (q k : Nat) (v : Int) (hk : k < 20) (hv : v = xs.getD (q + k) 0) (j : Nat) (_ : j < 22) : fil m nm xs q (k + 1) j = if j = 2 + k then .int .u8 v else fil m nm xs q k j := by
  unfold fil
  by_cases h : j = 2 + k
  · subst h
    rw [if_neg (by omega), if_neg (by omega), if_pos (by omega), if_pos rfl, hv, show 2 + k - 2 = k by omega]
  · rw [if_neg h]
    by_cases h0 : j = 0
    · rw [if_pos h0, if_pos h0]
    · by_cases h1 : j = 1
      · rw [if_neg h0, if_pos h1, if_neg h0, if_pos h1]
      · rw [if_neg h0, if_neg h1, if_neg h0, if_neg h1]
        by_cases h2 : j - 2 < k
        · rw [if_pos h2, if_pos (by omega)]
        · rw [if_neg h2, if_neg (by omega)]

theorem fil_all (m : Int) (nm : List UInt8) (xs : List Int) (q : Nat) (hq : q + 20 ≤ xs.length) (j : Nat) (hj : j < 22) : ef m ⟨nm.toArray⟩ ((xs.drop q).take 20) j = fil m nm xs q 20 j := by
  unfold fil ef
  by_cases h0 : j = 0
  · rw [if_pos h0, if_pos h0]
  · by_cases h1 : j = 1
    · rw [if_neg h0, if_pos h1, if_neg h0, if_pos h1]
    · rw [if_neg h0, if_neg h1, if_neg h0, if_neg h1, if_pos (by omega)]
      unfold cl bt
      congr 1
      have h2 : j - 2 < 20 := by omega
      have h3 : q + (j - 2) < xs.length := by omega
      simp [List.getD, h2]

theorem wpList_ixv {ops : Array Oper} {rest : List Oper} {op : Oper} {a : Act} {w : World} {Q : Exit → Act → World → Prop} (hgd : op.guard = none) (t : TypeId) (x y : Operand) (ho : op.op = .indexAddr t x y) (u v p : Value) (hx : a.eval x = u) (hy : a.eval y = v) (h : (Instr.indexAt t u v).run Tryz.prog w = .ok p w)
    (hk : wpList Tryz.prog ops Q rest (a.put op.dst p) w) : wpList Tryz.prog ops Q (op :: rest) a w := by
  refine wpList_plain hgd fun K hK => ?_
  unfold Oper.wp
  simp only [execOp, ho, hx, hy, Sem.run_bind, h, Result.andThen_ok, Sem.run_pure]
  exact hK _ _ hk

theorem run_ix155 (b k : Nat) (hk : k < 5) (w : World) : (Instr.indexAt 155 (.slice (some ⟨b, 0, none⟩) 5 5) (.int .i64 (k : Int))).run Tryz.prog w = .ok (.pointer (some ⟨b, k, none⟩)) w := by
  have hz : ∀ w, (sizeOf 3).run Tryz.prog w = .ok 1 w := fun w => by simp [go_sem]

  simp [Instr.indexAt, asIntOf, run_underlying Tryz.underlying155, hz, hk, Addr.add_lit]

set_option maxRecDepth 100000 in
set_option maxHeartbeats 8000000 in
theorem rentry_any (ao : Option Addr) (n c : Nat) (xs : List Int) (p : Nat) (w : World) (hr : Rd w ao n c xs) (hn : n ≤ 16384) (hp : p ≤ n) (S Z : Nat) (dg nm : List UInt8) (m : Int)
    (hS : S = sp xs p) (hdg : dg = tb ((xs.drop p).take (S - p))) (hm : m = mof dg 5) (hZ : Z = nx 0 xs (S + 1)) (hnm : nm = tb ((xs.drop (S + 1)).take (Z - (S + 1)))) :
    Calls Tryz.prog 57 #[.slice ao n c, .int .i64 (p : Int)] w fun e w' => ∃ (x : En) (r : Int), e = .returned (.tuple #[eV x, .int .i64 r]) ∧
      (gE xs n S Z m nm → x = ⟨m, nm, (xs.drop (Z + 1)).take 20⟩ ∧ r = (Z : Int) + 21) ∧ (¬ gE xs n S Z m nm → r = -1) ∧ Below w.heap.size w w' := by
  have hz := zero66
  have hlen := hr.len
  have hSn : S ≤ n := by have := nx_le 32 xs p (by omega); rw [hS]; unfold sp; omega
  have hSp : p ≤ S := by have := nx_ge 32 xs p; rw [hS]; unfold sp; omega
  have hS8 : S ≤ p + 8 := by rw [hS]; unfold sp; omega
  have HF : Hid (∀ j, p ≤ j → j < S → xs.getD j 0 ≠ 32) := fun j h1 h2 => nx_ne 32 xs p j h1 (by rw [hS] at h2; unfold sp at h2; omega)
  have HE : Hid (S < n → xs.getD S 0 ≠ 32 → S = p + 8) := fun h1 h2 => by
    rcases Nat.lt_or_ge S (p + 8) with h | h
    · exfalso
      have e1 : S = nx 32 xs p := by rw [hS]; unfold sp; rw [hS] at h; unfold sp at h; omega
      apply h2
      rw [e1]
      exact nx_at 32 xs p (by omega)
    · omega
  have HRD : Hid (∀ V : World, Below w.heap.size w V → Rd V ao n c xs) := fun V hV => hr.keep hV
  have HCL : Hid (0 < n → ∃ b off, ao = some ⟨b, off, none⟩ ∧ ∀ V : World, Below w.heap.size w V → ∀ j, j < n → V.cell? ⟨b, off + j, none⟩ = some (.int .u8 (xs.getD j 0))) := fun h0 => by
    obtain ⟨b, off, rfl, _⟩ := hr.plain h0
    refine ⟨b, off, rfl, fun V hV j hj => ?_⟩
    have := (hr.keep hV).cells _ rfl j hj
    simpa [Addr.add_lit] using this
  have HS : Hid (p ≤ S ∧ S ≤ n ∧ S ≤ p + 8 ∧ n ≤ 16384 ∧ xs.length = n) := ⟨hSp, hSn, hS8, hn, hlen⟩
  have HDG : Hid (tb ((xs.drop p).take (S - p)) = dg) := hdg.symm
  have HM : Hid (m = mof dg 5) := hm
  have HNM : Hid (tb ((xs.drop (S + 1)).take (Z - (S + 1))) = nm) := hnm.symm
  have HZ : Hid (S + 1 ≤ Z ∧ (S < n → Z ≤ n) ∧ (∀ j, S + 1 ≤ j → j < Z → xs.getD j 0 ≠ 0) ∧ (Z < n → xs.getD Z 0 = 0)) := by
    refine ⟨by rw [hZ]; exact nx_ge _ _ _, fun h => by have := nx_le 0 xs (S + 1) (by omega); rw [hZ]; omega, fun j h1 h2 => nx_ne 0 xs (S + 1) j h1 (by omega), fun h => by rw [hZ]; exact nx_at 0 xs (S + 1) (by omega)⟩
  obtain ⟨W, hW⟩ : ∃ W, W = (w.alloc (Obj.cells (vals (ef 0 ⟨#[]⟩ z20) 22).toArray 66)).alloc (Obj.cells (vals (ef 0 ⟨#[]⟩ z20) 22).toArray 66) := ⟨_, rfl⟩
  have bW : Below w.heap.size w W := by rw [hW]; exact (new_below _ _).alloc (by simp) _
  have HBW : Hid (Below w.heap.size w W) := bW
  have HWS : Hid (W.heap.size = w.heap.size + 2) := by show _ = _; rw [hW]; simp
  have HR0 : Hid (W.rowIs w.heap.size 66 22 (ef 0 ⟨#[]⟩ z20)) := by show World.rowIs _ _ _ _ _; rw [hW]; exact rowIs_fr (P := fun _ => False) (rowIs_vals w _ 22 66) (Fr.ofBelow (new_below _ _)) (fun h => h)
  have HR1 : Hid (W.rowIs (w.heap.size + 1) 66 22 (ef 0 ⟨#[]⟩ z20)) := by show World.rowIs _ _ _ _ _; rw [hW]; have := rowIs_vals (w.alloc (Obj.cells (vals (ef 0 ⟨#[]⟩ z20) 22).toArray 66)) (ef 0 ⟨#[]⟩ z20) 22 66; simpa using this
  clear hr hn hp hS hdg hm hZ hnm hlen hSn hSp hS8 bW
  go_enter Tryz.func57, Tryz.ntmps57
  go_wp2_with fail
  rw [← hW]
  clear hW
  go_loopw [7] (fun iv wr => wr = W ∧ ∃ j : Nat, p ≤ j ∧ j ≤ S ∧ iv = .int .i64 (j : Int)) (fun iv _ => S - (intOf iv).toNat)
  case atStart => exact ⟨rfl, p, Nat.le_refl _, HS.out.1, rfl⟩
  case round =>
    obtain ⟨hwr, j, hpj, hj, rfl⟩ := hrel
    subst wr
    by_cases hjS : j < S
    · obtain ⟨b, off, rfl, hcl⟩ := HCL.out (by have := HS.out; omega)
      have cj := hcl W HBW.out j (by have := HS.out; omega)
      have zj := HF.out j hpj hjS
      obtain ⟨z, hz'⟩ : ∃ z, z = xs.getD j 0 := ⟨_, rfl⟩
      rw [← hz'] at cj zj
      have z1 : (z == 32) = false := by simp [zj]
      have z2 : (z != 32) = true := by simp [zj]
      obtain ⟨q, hq⟩ : ∃ q, j = p + q := ⟨j - p, by omega⟩
      have w1 : IntKind.i64.wrap ((j : Int) - (p : Int)) = (q : Int) := by rw [IntKind.wrap_i64]; have := HS.out; omega
      have e1 : decide ((j : Int) < n) = true := by have := HS.out; simp; omega
      have e2 : decide (j < n) = true := by have := HS.out; simp; omega
      have e3 : decide ((q : Int) < 8) = true := by have := HS.out; simp; omega
      have e4 : decide (q < 8) = true := by have := HS.out; simp; omega
      have x1 : (j : Int) < n := by have := HS.out; omega
      have x2 : j < n := by have := HS.out; omega
      have y1 : IntKind.i64.wrap ((j : Int) + 1) = (j : Int) + 1 := by rw [IntKind.wrap_i64]; have := HS.out; omega
      have HJ : Hid (p ≤ j + 1 ∧ j + 1 ≤ S) := ⟨by omega, hjS⟩
      clear hz' zj hjS hj hcl hpj hq
      go_wp2
      go_roundw
      case measure => have := HJ.out; simp [intOf]; omega
      case rel => exact ⟨trivial, j + 1, HJ.out.1, HJ.out.2, by simp⟩
    · have hjS' : j = S := by omega
      have hl66 : (loadVar 66 ⟨w.heap.size + 1, 0, none⟩).run Tryz.prog W = .ok (env 0 ⟨#[]⟩ z20) W := load_all (P := Tryz.prog) 66 _ HR1.out Tryz.underlying66 rfl (by kernel_rfl)
      by_cases hjn : j = n
      · have HNG : Hid (¬ gE xs n S Z m nm) := fun h => by have := h.1; omega
        have hpn : p ≤ n := by have := HS.out; omega
        have w1 : IntKind.i64.wrap ((n : Int) - (p : Int)) = (n : Int) - (p : Int) := by rw [IntKind.wrap_i64]; have := HS.out; omega
        have y0 : ¬ (n : Int) < (n : Int) := by omega
        subst hjn
        clear hjS' hjS hj hpj
        go_wp2_with (first
          | (refine wpList_ldv rfl 66 _ rfl ⟨w.heap.size + 1, 0, none⟩ rfl _ hl66 ?_; clear hl66)
          | (refine wpList_st rfl 66 _ _ rfl w.heap.size rfl (ef 0 ⟨#[]⟩ z20) rfl HR0.out (by kernel_rfl) (ef1 _ _ _) ?_; intro w9 r9 f9; have HB9 : Hid (Below w.heap.size w w9) := st_below HBW.out f9; clear f9))
        refine bodyPost_ret (results_two (fn := Tryz.f57) (p := 4) (q := 5) (ty := 66) (by kernel_rfl) _ (by rfl) r9 Tryz.underlying66 rfl (by kernel_rfl)) rfl ⟨⟨0, [], z20⟩, -1, rfl, fun hg => absurd hg HNG.out, fun _ => rfl, HB9.out⟩
      · obtain ⟨b, off, rfl, hcl⟩ := HCL.out (by have := HS.out; omega)
        have cj := hcl W HBW.out j (by have := HS.out; omega)
        obtain ⟨z, hz'⟩ : ∃ z, z = xs.getD j 0 := ⟨_, rfl⟩
        rw [← hz'] at cj
        obtain ⟨q, hq⟩ : ∃ q, j = p + q := ⟨j - p, by omega⟩
        have w1 : IntKind.i64.wrap ((j : Int) - (p : Int)) = (q : Int) := by rw [IntKind.wrap_i64]; have := HS.out; omega
        have e1 : decide ((j : Int) < n) = true := by have := HS.out; simp; omega
        have e2 : decide (j < n) = true := by have := HS.out; simp; omega
        have e5 : decide ((n : Int) ≤ (j : Int)) = false := by have := HS.out; simp; omega
        have e6 : decide (n ≤ j) = false := by have := HS.out; simp; omega
        have x1 : (j : Int) < n := by have := HS.out; omega
        have x2 : j < n := by have := HS.out; omega
        by_cases hz32 : z = 32
        · subst hz32
          have H32 : Hid (xs.getD S 0 = 32 ∧ S < n) := by
            have := HS.out
            exact ⟨by rw [← hjS']; exact hz'.symm, by omega⟩
          have w2 : IntKind.i64.wrap ((j : Int) + 1) = (j : Int) + 1 := by rw [IntKind.wrap_i64]; have := HS.out; omega
          have HJQ : Hid (j = S ∧ p + (S - p) ≤ n ∧ p + (S - p) = S) := by have := HS.out; exact ⟨hjS', by omega, by omega⟩
          have hs5 := rowIs_vals W (fun k => Value.int .i64 (mdv k)) 5 3
          have HW2 : Hid (Below w.heap.size w (W.alloc (.cells (vals (fun k => Value.int .i64 (mdv k)) 5).toArray 3))) := HBW.out.trans ((new_below _ _).mono HBW.out.size)
          have H20 : Hid ((W.alloc (.cells (vals (fun k => Value.int .i64 (mdv k)) 5).toArray 3)).rowIs w.heap.size 66 22 (ef 0 ⟨#[]⟩ z20)) := rowIs_fr (P := fun _ => False) HR0.out (Fr.ofBelow (new_below _ _)) (fun h => h)
          have H21 : Hid ((W.alloc (.cells (vals (fun k => Value.int .i64 (mdv k)) 5).toArray 3)).rowIs (w.heap.size + 1) 66 22 (ef 0 ⟨#[]⟩ z20)) := rowIs_fr (P := fun _ => False) HR1.out (Fr.ofBelow (new_below _ _)) (fun h => h)
          rw [HWS.out] at hs5
          have H2M : Hid ((W.alloc (.cells (vals (fun k => Value.int .i64 (mdv k)) 5).toArray 3)).rowIs (w.heap.size + 2) 3 5 (fun k => .int .i64 (mdv k))) := hs5
          have hbs : (Instr.buildSlice 155 5 #[(0, .int .i64 16384), (1, .int .i64 33188), (2, .int .i64 33261), (3, .int .i64 40960), (4, .int .i64 57344)]).run Tryz.prog W = .ok (.slice (some ⟨W.heap.size, 0, none⟩) 5 5) (W.alloc (.cells (vals (fun k => Value.int .i64 (mdv k)) 5).toArray 3)) := by kernel_rfl
          rw [HWS.out] at hbs
          obtain ⟨W2, hW2⟩ : ∃ V, V = W.alloc (.cells (vals (fun k => Value.int .i64 (mdv k)) 5).toArray 3) := ⟨_, rfl⟩
          rw [← hW2] at HW2 H20 H21 H2M hbs
          clear hjS' hjS hj hpj hz' hcl hq hs5 hW2
          go_wp2_with (refine wpList_bs155 rfl rfl _ hbs ?_; clear hbs)
          have HIX : Hid (∀ k : Nat, k < 5 → ∀ V : World, (Instr.indexAt 155 (.slice (some ⟨w.heap.size + 2, 0, none⟩) 5 5) (.int .i64 (k : Int))).run Tryz.prog V = .ok (.pointer (some ⟨w.heap.size + 2, k, none⟩)) V) := fun k hk V => run_ix155 _ k hk V
          obtain ⟨V5, hV5⟩ : ∃ v : Value, v = .slice (if c = p then (some (⟨b, off, none⟩ : Addr)) else Option.map (fun x : Addr => x.add p) (some (⟨b, off, none⟩ : Addr))) (S - p) (c - p) := ⟨_, rfl⟩
          have HSUB : Hid (∀ V : World, Below w.heap.size w V → (Instr.sliceAt 22 (.slice (some ⟨b, off, none⟩) n c) (some (.int .i64 (p : Int))) (some (.int .i64 (j : Int))) none).run Tryz.prog V = .ok V5 V) := fun V hV => by
            rw [hV5]
            unfold Instr.sliceAt
            simp only [Sem.run_bind, run_underlying Tryz.underlying22, Result.andThen_ok]
            exact run_sub (HRD.out V hV) (p := p) (m := S - p) HJQ.out.2.1 _ _ (.inl rfl) (.inl (by rw [HJQ.out.2.2, HJQ.out.1]))
          have HCV : Hid (∀ V : World, Below w.heap.size w V → (convert 22 9 V5).run Tryz.prog V = .ok (sv dg) V) := fun V hV => by
            rw [hV5]
            have h := ((HRD.out V hV).sub p (S - p) HJQ.out.2.1).str
            rw [tb_sv, HDG.out] at h
            exact h
          clear hV5
          go_loopw [9] (fun s9 wr => ∃ k : Nat, s9 = .int .i64 (k : Int) ∧ k ≤ 5 ∧ Hid (wr.rowIs w.heap.size 66 22 (ef 0 ⟨#[]⟩ z20)) ∧ Hid (wr.rowIs (w.heap.size + 1) 66 22 (ef (mof dg k) ⟨#[]⟩ z20)) ∧ Hid (wr.rowIs (w.heap.size + 2) 3 5 (fun k => .int .i64 (mdv k))) ∧ Hid (Below w.heap.size w wr)) (fun s9 _ => 5 - (intOf s9).toNat)
          case atStart => exact ⟨0, rfl, by omega, H20, H21, H2M, HW2⟩
          case round =>
            obtain ⟨k, rfl, hk5, HA0, HA1, HAM, HAB⟩ := hrel
            by_cases hk : k < 5
            · have hq : (k : Int) < 5 := by omega
              have d1 : decide ((k : Int) < 5) = true := by simp; omega
              have hwk : IntKind.i64.wrap ((k : Int) + 1) = (k : Int) + 1 := by rw [IntKind.wrap_i64]; omega
              obtain ⟨dk, hdk⟩ : ∃ d, d = mdt (mdv k) := ⟨_, rfl⟩
              obtain ⟨mk, hmk⟩ : ∃ x, x = mdv k := ⟨_, rfl⟩
              have HDK : Hid (dk = mdt mk ∧ mk = mdv k) := ⟨by rw [hdk, hmk], hmk⟩
              have HKK : Hid (k < 5) := hk
              have HLM : Hid (∀ V : World, Below wr.heap.size wr V → (loadVar 3 ⟨w.heap.size + 2, k, none⟩).run Tryz.prog V = .ok (.int .i64 mk) V) := fun V hV => by
                have h := (rowIs_fr (P := fun _ => False) HAM.out (Fr.ofBelow hV) (fun h => h)).cell (i := k) hk
                have h' : V.cell? ⟨w.heap.size + 2, k, none⟩ = some (.int .i64 mk) := by rw [h, hmk]
                simp [go_sem, h']
              have HMO : Hid (∀ V : World, Below wr.heap.size wr V → Calls Tryz.prog 67 #[.int .i64 mk] V fun e w' => e = .returned (sv dk) ∧ Below wr.heap.size wr w') := fun V hV => (rmode_any mk V).mono (fun e w' ⟨g1, g2⟩ => ⟨by rw [g1, HDK.out.1], by rw [g2]; exact hV⟩)
              obtain ⟨bq, hbq⟩ : ∃ bq, (dk == dg) = bq := ⟨_, rfl⟩
              have HBQ : Hid ((dk == dg) = bq) := hbq
              clear hdk hmk hk hk5 hbq
              go_wp2_with fail
              refine wp_region_quiet (C := fun V => Below wr.heap.size wr V) (by kernel_rfl) (by kernel_rfl) (Below.refl _ _).drew ?_
              with_reducible refine wpQuiet_step (fun K hK => ?_)
              rw [if_pos (by kernel_rfl)]
              refine oq_mv _ rfl (.slice (some ⟨w.heap.size + 2, 0, none⟩) 5 5) (by kernel_rfl) ?_
              with_reducible refine hK _ ?_; clear hK K
              try simp only [Act.put, List.setIfInBounds_toArray, List.set_cons_zero, List.set_cons_succ]
              with_reducible refine wpQuiet_step (fun K hK => ?_)
              rw [if_pos (by kernel_rfl)]
              refine oq_mv _ rfl (.int .i64 (k : Int)) (by kernel_rfl) ?_
              with_reducible refine hK _ ?_; clear hK K
              try simp only [Act.put, List.setIfInBounds_toArray, List.set_cons_zero, List.set_cons_succ]
              with_reducible refine wpQuiet_step (fun K hK => ?_)
              rw [if_pos (by kernel_rfl)]
              refine oq_ix 155 _ _ rfl (.slice (some ⟨w.heap.size + 2, 0, none⟩) 5 5) (.int .i64 (k : Int)) (.pointer (some ⟨w.heap.size + 2, k, none⟩)) (by kernel_rfl) (by kernel_rfl) (fun V => HIX.out k HKK.out V) ?_
              with_reducible refine hK _ ?_; clear hK K
              try simp only [Act.put, List.setIfInBounds_toArray, List.set_cons_zero, List.set_cons_succ]
              with_reducible refine wpQuiet_step (fun K hK => ?_)
              rw [if_pos (by kernel_rfl)]
              refine oq_load 3 _ rfl ⟨w.heap.size + 2, k, none⟩ (by kernel_rfl) (.int .i64 mk) (fun V hV => HLM.out V hV) ?_
              with_reducible refine hK _ ?_; clear hK K
              try simp only [Act.put, List.setIfInBounds_toArray, List.set_cons_zero, List.set_cons_succ]
              with_reducible refine wpQuiet_step (fun K hK => ?_)
              rw [if_pos (by kernel_rfl)]
              refine oq_call1 67 cf67 _ _ rfl (.int .i64 mk) (by kernel_rfl) (sv dk) (fun V hV => HMO.out V hV) ?_
              with_reducible refine hK _ ?_; clear hK K
              try simp only [Act.put, List.setIfInBounds_toArray, List.set_cons_zero, List.set_cons_succ]
              with_reducible refine wpQuiet_step (fun K hK => ?_)
              rw [if_pos (by kernel_rfl)]
              refine oq_mv _ rfl (.slice (some ⟨b, off, none⟩) n c) (by kernel_rfl) ?_
              with_reducible refine hK _ ?_; clear hK K
              try simp only [Act.put, List.setIfInBounds_toArray, List.set_cons_zero, List.set_cons_succ]
              with_reducible refine wpQuiet_step (fun K hK => ?_)
              rw [if_pos (by kernel_rfl)]
              refine oq_mv _ rfl (.int .i64 (p : Int)) (by kernel_rfl) ?_
              with_reducible refine hK _ ?_; clear hK K
              try simp only [Act.put, List.setIfInBounds_toArray, List.set_cons_zero, List.set_cons_succ]
              with_reducible refine wpQuiet_step (fun K hK => ?_)
              rw [if_pos (by kernel_rfl)]
              refine oq_mv _ rfl (.int .i64 (j : Int)) (by kernel_rfl) ?_
              with_reducible refine hK _ ?_; clear hK K
              try simp only [Act.put, List.setIfInBounds_toArray, List.set_cons_zero, List.set_cons_succ]
              with_reducible refine wpQuiet_step (fun K hK => ?_)
              rw [if_pos (by kernel_rfl)]
              refine oq_sub _ _ _ rfl (.slice (some ⟨b, off, none⟩) n c) V5 (some (.int .i64 (p : Int))) (some (.int .i64 (j : Int))) (by kernel_rfl) (by kernel_rfl) (by kernel_rfl) (fun V hV => HSUB.out V (HAB.out.trans (hV.mono HAB.out.size))) ?_
              with_reducible refine hK _ ?_; clear hK K
              try simp only [Act.put, List.setIfInBounds_toArray, List.set_cons_zero, List.set_cons_succ]
              with_reducible refine wpQuiet_step (fun K hK => ?_)
              rw [if_pos (by kernel_rfl)]
              refine oq_cv _ rfl V5 (sv dg) (by kernel_rfl) (fun V hV => HCV.out V (HAB.out.trans (hV.mono HAB.out.size))) ?_
              with_reducible refine hK _ ?_; clear hK K
              try simp only [Act.put, List.setIfInBounds_toArray, List.set_cons_zero, List.set_cons_succ]
              with_reducible refine wpQuiet_step (fun K hK => ?_)
              rw [if_pos (by kernel_rfl)]
              refine oq_eqS _ _ _ rfl dk dg (by kernel_rfl) (by kernel_rfl) bq HBQ.out ?_
              with_reducible refine hK _ ?_; clear hK K
              try simp only [Act.put, List.setIfInBounds_toArray, List.set_cons_zero, List.set_cons_succ]
              refine wpQuiet_nil ?_
              intro w4 hB4
              have HB4 : Hid (Below w.heap.size w w4) := HAB.out.trans (hB4.mono HAB.out.size)
              have H40 : Hid (w4.rowIs w.heap.size 66 22 (ef 0 ⟨#[]⟩ z20)) := rowIs_fr (P := fun _ => False) HA0.out (Fr.ofBelow hB4) (fun h => h)
              have H41 : Hid (w4.rowIs (w.heap.size + 1) 66 22 (ef (mof dg k) ⟨#[]⟩ z20)) := rowIs_fr (P := fun _ => False) HA1.out (Fr.ofBelow hB4) (fun h => h)
              have H4M : Hid (w4.rowIs (w.heap.size + 2) 3 5 (fun k => .int .i64 (mdv k))) := rowIs_fr (P := fun _ => False) HAM.out (Fr.ofBelow hB4) (fun h => h)
              cases bq with
              | false =>
                have HMF : Hid (mof dg (k + 1) = mof dg k) := by
                  show _ = _
                  rw [mof, if_neg (by rw [← HDK.out.2, ← HDK.out.1]; have := HBQ.out; simpa using this)]
                have h41 := H41.out
                rw [← HMF.out] at h41
                have H41' : Hid (w4.rowIs (w.heap.size + 1) 66 22 (ef (mof dg (k + 1)) ⟨#[]⟩ z20)) := h41
                clear h41 hB4
                go_wp2_with fail
                exact ⟨⟨k + 1, by simp, HKK.out, H40, H41', H4M, HB4⟩, by simp [intOf]; have := HKK.out; omega⟩
              | true =>
                have HMF : Hid (mof dg (k + 1) = mk) := by
                  show _ = _
                  rw [mof, if_pos (by rw [← HDK.out.2, ← HDK.out.1]; have := HBQ.out; simpa using this), HDK.out.2]
                have hlm := HLM.out w4 hB4
                have hix := HIX.out k HKK.out w4
                have c4 := H41.out.cell (i := 0) (by omega)
                have z4 := World.rowIs.frozen H41.out 0
                clear hB4
                go_wp2_with (first
                  | (refine wpList_ixv rfl 155 _ _ rfl _ _ _ rfl rfl hix ?_; clear hix)
                  | (refine wpList_ldv rfl 3 _ rfl ⟨w.heap.size + 2, k, none⟩ rfl (.int .i64 mk) hlm ?_; clear hlm))
                have s4 := set_row H41.out 0 (.int .i64 mk) (ef0 (mof dg k) mk ⟨#[]⟩ z20)
                have f4 := set_fr w4 (w.heap.size + 1) 0 (.int .i64 mk)
                refine ⟨⟨k + 1, by simp, HKK.out, rowIs_fr H40.out f4 (fun e => by omega), ?_, rowIs_fr H4M.out f4 (fun e => by omega), HB4.out.trans (f4.below w.heap.size HB4.out.size (fun i hi e => by omega))⟩, by simp [intOf]; have := HKK.out; omega⟩
                rw [HMF.out]
                exact s4
            · obtain rfl : k = 5 := by omega
              have hq5 : ¬ ((5 : Nat) : Int) < 5 := by omega
              have d5 : decide (((5 : Nat) : Int) < 5) = false := by simp
              have h1 := HA1.out
              rw [← HM.out] at h1
              have HA1' : Hid (wr.rowIs (w.heap.size + 1) 66 22 (ef m ⟨#[]⟩ z20)) := h1
              clear h1 hk hk5
              go_wp2_with fail
              rename World => wa
              have HZ0 : Hid (S + 1 ≤ Z ∧ Z ≤ n ∧ j = S) := ⟨HZ.out.1, HZ.out.2.1 H32.out.2, HJQ.out.1⟩
              go_loopw [10] (fun iv wr => wr = wa ∧ ∃ q : Nat, S + 1 ≤ q ∧ q ≤ Z ∧ iv = .int .i64 (q : Int)) (fun iv _ => Z - (intOf iv).toNat)
              case atStart => exact ⟨rfl, S + 1, Nat.le_refl _, HZ0.out.1, by rw [HZ0.out.2.2]; simp⟩
              case round =>
                obtain ⟨hwr, q2, hq1, hq2, rfl⟩ := hrel
                subst wr
                obtain ⟨b', off', hbo, hcl⟩ := HCL.out (by have := HZ0.out; omega)
                injection hbo with hbo
                injection hbo with hb1 hb2
                subst hb1
                subst hb2
                by_cases hlt : q2 < Z
                · have cj2 := hcl wa HAB.out q2 (by have := HZ0.out; omega)
                  have zj := HZ.out.2.2.1 q2 hq1 hlt
                  obtain ⟨z, hz'⟩ : ∃ z, z = xs.getD q2 0 := ⟨_, rfl⟩
                  rw [← hz'] at cj2 zj
                  have z1 : (z == 0) = false := by simp [zj]
                  have z2 : (z != 0) = true := by simp [zj]
                  have g1 : decide ((q2 : Int) < n) = true := by have := HZ0.out; simp; omega
                  have g2 : decide (q2 < n) = true := by have := HZ0.out; simp; omega
                  have g3 : (q2 : Int) < n := by have := HZ0.out; omega
                  have g4 : q2 < n := by have := HZ0.out; omega
                  have y1 : IntKind.i64.wrap ((q2 : Int) + 1) = (q2 : Int) + 1 := by rw [IntKind.wrap_i64]; have := HZ0.out; have := HS.out; omega
                  have HJ2 : Hid (S + 1 ≤ q2 + 1 ∧ q2 + 1 ≤ Z) := ⟨by omega, hlt⟩
                  clear hz' zj hlt hq1 hq2 hcl
                  go_wp2
                  go_roundw
                  case measure => have := HJ2.out; simp [intOf]; omega
                  case rel => exact ⟨trivial, q2 + 1, HJ2.out.1, HJ2.out.2, by simp⟩
                · have hqZ : q2 = Z := by omega
                  subst hqZ
                  have hcz : q2 < n → wa.cell? ⟨b, off + q2, none⟩ = some (.int .u8 0) := fun h => by
                    have := hcl wa HAB.out q2 h
                    rwa [HZ.out.2.2.2 h] at this
                  have hl66 : (loadVar 66 ⟨w.heap.size + 1, 0, none⟩).run Tryz.prog wa = .ok (env m ⟨#[]⟩ z20) wa := load_all (P := Tryz.prog) 66 _ HA1'.out Tryz.underlying66 rfl (by kernel_rfl)
                  have c0 : wa.cell? ⟨w.heap.size + 1, 0, none⟩ = some (.int .i64 m) := HA1'.out.cell (i := 0) (by omega)
                  obtain ⟨d, hd⟩ : ∃ d, n = q2 + d := ⟨n - q2, by have := HZ0.out; omega⟩
                  have wd : IntKind.i64.wrap ((n : Int) - (q2 : Int)) = (d : Int) := by rw [IntKind.wrap_i64]; have := HS.out; omega
                  have HD : Hid (n = q2 + d) := hd
                  have HCZ : Hid (q2 < n → wa.cell? ⟨b, off + q2, none⟩ = some (.int .u8 0)) := hcz
                  clear hcz hcl hlt hq1 hq2
                  by_cases hm0 : m = 0
                  · subst hm0
                    have HNG : Hid (¬ gE xs n S q2 0 nm) := fun h => h.2.2.1 rfl
                    by_cases hd0 : d = 0
                    · have g1 : decide ((q2 : Int) < n) = false := by simp; omega
                      have g2 : decide (q2 < n) = false := by simp; omega
                      have g3 : ¬ (q2 : Int) < n := by omega
                      have g4 : ¬ q2 < n := by omega
                      clear hd0 hd
                      go_wp2_with (first
                        | (refine wpList_ldv rfl 66 _ rfl ⟨w.heap.size + 1, 0, none⟩ rfl _ hl66 ?_; clear hl66)
                        | (refine wpList_st rfl 66 _ _ rfl w.heap.size rfl (ef 0 ⟨#[]⟩ z20) rfl HA0.out (by kernel_rfl) (ef1 _ _ _) ?_; intro w9 r9 f9; have HB9 : Hid (Below w.heap.size w w9) := st_below HAB.out f9; clear f9))
                      refine bodyPost_ret (results_two (fn := Tryz.f57) (p := 4) (q := 5) (ty := 66) (by kernel_rfl) _ (by rfl) r9 Tryz.underlying66 rfl (by kernel_rfl)) rfl ⟨⟨0, [], z20⟩, -1, rfl, fun hg => absurd hg HNG.out, fun _ => rfl, HB9.out⟩
                    · have cj2 := HCZ.out (by omega)
                      have g1 : decide ((q2 : Int) < n) = true := by simp; omega
                      have g2 : decide (q2 < n) = true := by simp; omega
                      have g3 : (q2 : Int) < n := by omega
                      have g4 : q2 < n := by omega
                      clear hd0 hd
                      go_wp2_with (first
                        | (refine wpList_ldv rfl 66 _ rfl ⟨w.heap.size + 1, 0, none⟩ rfl _ hl66 ?_; clear hl66)
                        | (refine wpList_st rfl 66 _ _ rfl w.heap.size rfl (ef 0 ⟨#[]⟩ z20) rfl HA0.out (by kernel_rfl) (ef1 _ _ _) ?_; intro w9 r9 f9; have HB9 : Hid (Below w.heap.size w w9) := st_below HAB.out f9; clear f9))
                      refine bodyPost_ret (results_two (fn := Tryz.f57) (p := 4) (q := 5) (ty := 66) (by kernel_rfl) _ (by rfl) r9 Tryz.underlying66 rfl (by kernel_rfl)) rfl ⟨⟨0, [], z20⟩, -1, rfl, fun hg => absurd hg HNG.out, fun _ => rfl, HB9.out⟩
                  · have m0 : (m == 0) = false := by simpa using hm0
                    by_cases hd21 : d < 21
                    · have HNG : Hid (¬ gE xs n S q2 m nm) := fun h => by have := h.2.2.2.1; omega
                      have g5 : decide ((d : Int) < 21) = true := by simp; omega
                      have g6 : decide (d < 21) = true := by simp; omega
                      by_cases hd0 : d = 0
                      · have g1 : decide ((q2 : Int) < n) = false := by simp; omega
                        have g2 : decide (q2 < n) = false := by simp; omega
                        have g3 : ¬ (q2 : Int) < n := by omega
                        have g4 : ¬ q2 < n := by omega
                        clear hd0 hd hd21
                        go_wp2_with (first
                          | (refine wpList_ldv rfl 66 _ rfl ⟨w.heap.size + 1, 0, none⟩ rfl _ hl66 ?_; clear hl66)
                          | (refine wpList_st rfl 66 _ _ rfl w.heap.size rfl (ef m ⟨#[]⟩ z20) rfl HA0.out (by kernel_rfl) (ef1 _ _ _) ?_; intro w9 r9 f9; have HB9 : Hid (Below w.heap.size w w9) := st_below HAB.out f9; clear f9))
                        refine bodyPost_ret (results_two (fn := Tryz.f57) (p := 4) (q := 5) (ty := 66) (by kernel_rfl) _ (by rfl) r9 Tryz.underlying66 rfl (by kernel_rfl)) rfl ⟨⟨m, [], z20⟩, -1, rfl, fun hg => absurd hg HNG.out, fun _ => rfl, HB9.out⟩
                      · have cj2 := HCZ.out (by omega)
                        have g1 : decide ((q2 : Int) < n) = true := by simp; omega
                        have g2 : decide (q2 < n) = true := by simp; omega
                        have g3 : (q2 : Int) < n := by omega
                        have g4 : q2 < n := by omega
                        clear hd0 hd hd21
                        go_wp2_with (first
                          | (refine wpList_ldv rfl 66 _ rfl ⟨w.heap.size + 1, 0, none⟩ rfl _ hl66 ?_; clear hl66)
                          | (refine wpList_st rfl 66 _ _ rfl w.heap.size rfl (ef m ⟨#[]⟩ z20) rfl HA0.out (by kernel_rfl) (ef1 _ _ _) ?_; intro w9 r9 f9; have HB9 : Hid (Below w.heap.size w w9) := st_below HAB.out f9; clear f9))
                        refine bodyPost_ret (results_two (fn := Tryz.f57) (p := 4) (q := 5) (ty := 66) (by kernel_rfl) _ (by rfl) r9 Tryz.underlying66 rfl (by kernel_rfl)) rfl ⟨⟨m, [], z20⟩, -1, rfl, fun hg => absurd hg HNG.out, fun _ => rfl, HB9.out⟩
                    · have cj2 := HCZ.out (by omega)
                      have g1 : decide ((q2 : Int) < n) = true := by simp; omega
                      have g2 : decide (q2 < n) = true := by simp; omega
                      have g3 : (q2 : Int) < n := by omega
                      have g4 : q2 < n := by omega
                      have g5 : decide ((d : Int) < 21) = false := by simp; omega
                      have g6 : decide (d < 21) = false := by simp; omega
                      have HD21 : Hid (q2 + 21 ≤ n ∧ S + 1 ≤ q2 ∧ S + 1 + (q2 - (S + 1)) ≤ n) := by have := HZ0.out; exact ⟨by omega, by omega, by omega⟩
                      have c1 : wa.cell? ⟨w.heap.size + 1, 1, none⟩ = some (sv []) := HA1'.out.cell (i := 1) (by omega)
                      have z1 := World.rowIs.frozen HA1'.out 1
                      obtain ⟨wb, hwb⟩ : ∃ V, wa.setCell ⟨w.heap.size + 1, 1, none⟩ (sv nm) = V := ⟨_, rfl⟩
                      have sb := set_row HA1'.out 1 (sv nm) (ef1s m ⟨#[]⟩ ⟨nm.toArray⟩ z20)
                      have fb := set_fr wa (w.heap.size + 1) 1 (sv nm)
                      rw [hwb] at sb fb
                      have HBb : Hid (Below w.heap.size w wb) := HAB.out.trans (fb.below w.heap.size HAB.out.size (fun i hi e => by omega))
                      have Hb0 : Hid (wb.rowIs w.heap.size 66 22 (ef 0 ⟨#[]⟩ z20)) := rowIs_fr HA0.out fb (fun e => by omega)
                      have Hb1 : Hid (wb.rowIs (w.heap.size + 1) 66 22 (ef m ⟨nm.toArray⟩ z20)) := sb
                      have HMM : Hid (m ≠ 0) := hm0
                      obtain ⟨S1, hS1⟩ : ∃ S1, S1 = S + 1 := ⟨_, rfl⟩
                      have HS1 : Hid (S1 = S + 1) := hS1
                      have ws1 : IntKind.i64.wrap ((j : Int) + 1) = (S1 : Int) := by have := HZ0.out; have := HS.out; rw [IntKind.wrap_i64]; omega
                      clear sb fb hm0 hd21 hd hl66 w2 hS1
                      go_wp2_with (first
                        | (refine wpList_subW (by kernel_rfl) _ _ _ rfl (HRD.out wa HAB.out) S1 (q2 - S1) (by have := HD21.out; have := HS1.out; omega) rfl (.inl rfl) (.inl (by refine congrArg some (congrArg (Value.int IntKind.i64) ?_); have := HD21.out; have := HS1.out; omega)) ?_; intro a5 c5 rd5; have HR5 : Hid _ := rd5; clear rd5)
                        | (refine wpList_convW (by kernel_rfl) _ rfl HR5.out rfl nm (by rw [HS1.out]; exact HNM.out) ?_)
                        | (refine wpList_st9 rfl _ _ rfl (w.heap.size + 1) 1 rfl nm rfl _ c1 z1 wb hwb ?_; clear c1 z1 hwb))
                      obtain ⟨Q1, hQ1⟩ : ∃ Q1, Q1 = q2 + 1 := ⟨_, rfl⟩
                      have wq1 : IntKind.i64.wrap ((q2 : Int) + 1) = (Q1 : Int) := by have := HD21.out; have := HS.out; rw [IntKind.wrap_i64]; omega
                      have HQ1 : Hid (Q1 = q2 + 1 ∧ Q1 + 20 ≤ n) := by have := HD21.out; exact ⟨hQ1, by omega⟩
                      have Hb1' : Hid (wb.rowIs (w.heap.size + 1) 66 22 (fil m nm xs Q1 0)) := World.rowIs.congr Hb1.out (fun j _ => (fil_zero m nm xs Q1 j).symm)
                      clear hQ1 cj2
                      go_loopw [11] (fun iv wr => ∃ i : Nat, i ≤ 20 ∧ iv = .int .i64 (i : Int) ∧ Hid (wr.rowIs w.heap.size 66 22 (ef 0 ⟨#[]⟩ z20)) ∧ Hid (wr.rowIs (w.heap.size + 1) 66 22 (fil m nm xs Q1 i)) ∧ Hid (Below w.heap.size w wr)) (fun iv _ => 20 - (intOf iv).toNat)
                      case atStart => exact ⟨0, by omega, rfl, Hb0, Hb1', HBb⟩
                      case round =>
                        obtain ⟨i, hi, rfl, HE0, HE1, HEB⟩ := hrel
                        by_cases hlt : i < 20
                        · have hqi : (i : Int) < 20 := by omega
                          have d9 : decide ((i : Int) < 20) = true := by simp; omega
                          have d9' : decide (i < 20) = true := by simp; omega
                          have hwi : IntKind.i64.wrap ((i : Int) + 1) = (i : Int) + 1 := by rw [IntKind.wrap_i64]; omega
                          obtain ⟨b', off', hbo, hcl⟩ := HCL.out (by have := HQ1.out; omega)
                          injection hbo with hbo
                          injection hbo with hb1 hb2
                          subst hb1
                          subst hb2
                          obtain ⟨t, ht⟩ : ∃ t, t = Q1 + i := ⟨_, rfl⟩
                          have wt : IntKind.i64.wrap ((Q1 : Int) + (i : Int)) = (t : Int) := by have := HQ1.out; have := HS.out; rw [IntKind.wrap_i64]; omega
                          have ct := hcl wr HEB.out t (by have := HQ1.out; omega)
                          obtain ⟨v, hv⟩ : ∃ v, v = xs.getD t 0 := ⟨_, rfl⟩
                          rw [← hv] at ct
                          have hvr : 0 ≤ v ∧ v < 256 := by
                            rw [hv]
                            have := HQ1.out
                            have hl := HS.out.2.2.2.2
                            have hlt2 : t < xs.length := by omega
                            have := (HRD.out wr HEB.out).byt xs[t] (List.getElem_mem hlt2)
                            simpa [List.getD, hlt2] using this
                          have xt : (t : Int) < n := by have := HQ1.out; omega
                          have xt2 : t < n := by have := HQ1.out; omega
                          have cx0 : wr.cell? ⟨w.heap.size + 1, 2 + i, none⟩ = some (fil m nm xs Q1 i (2 + i)) := HE1.out.cell (i := 2 + i) (by omega)
                          obtain ⟨y, hy⟩ : ∃ y, y = fil m nm xs Q1 i (2 + i) := ⟨_, rfl⟩
                          rw [← hy] at cx0
                          have zx0 : wr.frozen? ⟨w.heap.size + 1, 2 + i, none⟩ = false := World.rowIs.frozen HE1.out (2 + i)
                          have HV : Hid (v = xs.getD (Q1 + i) 0) := by show _ = _; rw [hv, ht]
                          have HI20 : Hid (i < 20) := hlt
                          clear hy hv ht hcl hlt hi
                          go_wp2_with fail
                          have s5 := set_row HE1.out (2 + i) (.int .u8 v) (fil_succ m nm xs Q1 i v HI20.out HV.out)
                          have f5 := set_fr wr (w.heap.size + 1) (2 + i) (.int .u8 v)
                          exact ⟨⟨i + 1, by have := HI20.out; omega, by simp, rowIs_fr HE0.out f5 (fun e => by omega), s5, HEB.out.trans (f5.below w.heap.size HEB.out.size (fun k hk e => by omega))⟩, by simp [intOf]; have := HI20.out; omega⟩
                        · obtain rfl : i = 20 := by omega
                          have hqi : ¬ ((20 : Nat) : Int) < 20 := by omega
                          have d9 : decide (((20 : Nat) : Int) < 20) = false := by simp
                          have HEF : Hid (wr.rowIs (w.heap.size + 1) 66 22 (ef m ⟨nm.toArray⟩ ((xs.drop (q2 + 1)).take 20))) := World.rowIs.congr HE1.out (fun j hj => by rw [← HQ1.out.1]; exact (fil_all m nm xs Q1 (by have := HQ1.out; have := HS.out; omega) j hj).symm)
                          have c1 : wr.cell? ⟨w.heap.size + 1, 1, none⟩ = some (sv nm) := HEF.out.cell (i := 1) (by omega)
                          have hl66 : (loadVar 66 ⟨w.heap.size + 1, 0, none⟩).run Tryz.prog wr = .ok (env m ⟨nm.toArray⟩ ((xs.drop (q2 + 1)).take 20)) wr := load_all (P := Tryz.prog) 66 _ HEF.out Tryz.underlying66 rfl (by kernel_rfl)
                          have hnb := rname_any nm wr (by rw [← HNM.out, tb_len, List.length_take, List.length_drop]; have := HS.out; omega)
                          obtain ⟨nb, hnb2⟩ : ∃ nb, nmB nm = nb := ⟨_, rfl⟩
                          have HNB : Hid (nmB nm = nb) := hnb2
                          rw [hnb2] at hnb
                          clear hnb2 hlt hi
                          go_wp2_with fail
                          refine hnb.mono ?_
                          rintro e wx ⟨rfl, hwx⟩
                          subst wx
                          clear hnb c1
                          obtain ⟨I20, hI⟩ : ∃ I, I = (xs.drop (q2 + 1)).take 20 := ⟨_, rfl⟩
                          rw [← hI] at hl66
                          have HI : Hid (I20 = (xs.drop (q2 + 1)).take 20) := hI
                          clear hI
                          cases nb with
                          | false =>
                            have HNG : Hid (¬ gE xs n S q2 m nm) := fun h => by have := h.2.2.2.2; rw [HNB.out] at this; cases this
                            go_wp2_with (first
                              | (refine wpList_ldv rfl 66 _ rfl ⟨w.heap.size + 1, 0, none⟩ rfl _ hl66 ?_; clear hl66)
                              | (refine wpList_st rfl 66 _ _ rfl w.heap.size rfl (ef m ⟨nm.toArray⟩ I20) rfl HE0.out (by kernel_rfl) (ef1 _ _ _) ?_; intro w9 r9 f9; have HB9 : Hid (Below w.heap.size w w9) := st_below HEB.out f9; clear f9))
                            refine bodyPost_ret (results_two (fn := Tryz.f57) (p := 4) (q := 5) (ty := 66) (by kernel_rfl) _ (by rfl) r9 Tryz.underlying66 rfl (by kernel_rfl)) rfl ⟨⟨m, nm, I20⟩, -1, rfl, fun hg => absurd hg HNG.out, fun _ => rfl, HB9.out⟩
                          | true =>
                            have HG : Hid (gE xs n S q2 m nm) := ⟨H32.out.2, H32.out.1, HMM.out, HD21.out.1, HNB.out⟩
                            have w21 : IntKind.i64.wrap ((q2 : Int) + 21) = (q2 : Int) + 21 := by have := HD21.out; have := HS.out; rw [IntKind.wrap_i64]; omega
                            go_wp2_with (first
                              | (refine wpList_ldv rfl 66 _ rfl ⟨w.heap.size + 1, 0, none⟩ rfl _ hl66 ?_; clear hl66)
                              | (refine wpList_st rfl 66 _ _ rfl w.heap.size rfl (ef m ⟨nm.toArray⟩ I20) rfl HE0.out (by kernel_rfl) (ef1 _ _ _) ?_; intro w9 r9 f9; have HB9 : Hid (Below w.heap.size w w9) := st_below HEB.out f9; clear f9))
                            refine bodyPost_ret (results_two (fn := Tryz.f57) (p := 4) (q := 5) (ty := 66) (by kernel_rfl) _ (by rfl) r9 Tryz.underlying66 rfl (by kernel_rfl)) rfl ⟨⟨m, nm, I20⟩, (q2 : Int) + 21, rfl, fun _ => ⟨by rw [HI.out], rfl⟩, fun h => absurd HG.out h, HB9.out⟩
        · have HNG : Hid (¬ gE xs n S Z m nm) := fun h => by have := h.2.1; apply hz32; rw [hz', hjS']; exact this
          have hq8 : q = 8 := by have := HE.out (by omega) (by rw [← hjS', ← hz']; exact hz32); omega
          have z1 : (z == 32) = false := by simp [hz32]
          have z2 : (z != 32) = true := by simp [hz32]
          have e3 : decide ((q : Int) < 8) = false := by simp; omega
          have e4 : decide (q < 8) = false := by simp; omega
          clear hjS' hjS hj hpj hz' hcl hq hz32 hq8
          go_wp2_with (first
            | (refine wpList_ldv rfl 66 _ rfl ⟨w.heap.size + 1, 0, none⟩ rfl _ hl66 ?_; clear hl66)
            | (refine wpList_st rfl 66 _ _ rfl w.heap.size rfl (ef 0 ⟨#[]⟩ z20) rfl HR0.out (by kernel_rfl) (ef1 _ _ _) ?_; intro w9 r9 f9; have HB9 : Hid (Below w.heap.size w w9) := st_below HBW.out f9; clear f9))
          refine bodyPost_ret (results_two (fn := Tryz.f57) (p := 4) (q := 5) (ty := 66) (by kernel_rfl) _ (by rfl) r9 Tryz.underlying66 rfl (by kernel_rfl)) rfl ⟨⟨0, [], z20⟩, -1, rfl, fun hg => absurd hg HNG.out, fun _ => rfl, HB9.out⟩

end Go.Proofs.YtojgablpjdlegaaGreatDoor
