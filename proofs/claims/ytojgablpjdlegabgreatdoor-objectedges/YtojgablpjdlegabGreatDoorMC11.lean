/- NmB, NmA, Rq, Rcm. -/
import Derived.Test.YtojgablpjdlegabGreatDoorM19
import Derived.Test.YtojgablpjdlegabGreatDoorMC07
import Derived.Test.YtojgablpjdlegabGreatDoorMC10
/- A row of bytes of one's own that was a text: appended to, twice and more. -/
namespace Go.Proofs.YtojgablpjdlegabGreatDoor
open Go.RowKit

structure Ob (B : Nat) (W : World) (g n cap : Nat) (xs : List Int) : Prop where
  low : B ≤ g
  rd : Rd W (some ⟨g, 0, none⟩) n cap xs
  fre : ∀ j, j < cap → (∃ u, W.cell? ⟨g, j, none⟩ = some u) ∧ W.frozen? ⟨g, j, none⟩ = false

theorem Ob.keep {B g n cap : Nat} {W W' : World} {xs : List Int} (h : Ob B W g n cap xs) (hb : Below W.heap.size W W') : Ob B W' g n cap xs := by
  refine ⟨h.low, h.rd.keep hb, fun j hj => ?_⟩
  obtain ⟨⟨u, hu⟩, hf⟩ := h.fre j hj
  have hg : g < W.heap.size := World.block_lt_of_cell? W _ hu
  have hbk := hb.block g hg
  refine ⟨⟨u, by rw [← hu]; unfold World.cell?; rw [hbk]⟩, by rw [← hf]; unfold World.frozen?; rw [hbk]⟩

theorem Ob.text (w : World) (l : List UInt8) : Ob w.heap.size (Lib.bytesWorld w 5 ⟨l.toArray⟩) w.heap.size l.length (grownCap w l.length 0 5) (tn l) :=
  ⟨Nat.le_refl _, bw_rd w l, fun j hj => by obtain ⟨u, h1, h2⟩ := bw_cell w l j hj; exact ⟨⟨u, h1⟩, h2⟩⟩

theorem run_appO (ty : TypeId) (B : Nat) (W : World) (g n cap : Nat) (xs : List Int) (h : Ob B W g n cap xs) (hB : B ≤ W.heap.size) (ao : Option Addr) (m c : Nat) (ys : List Int) (hr : Rd W ao m c ys) (hn : n + m ≤ 100000000) :
    ∃ g' cap' W', (Builtin.append_ #[30, 30] ty #[.slice (some ⟨g, 0, none⟩) n cap, .slice ao m c]).run Tryz.prog W = .ok (.slice (some ⟨g', 0, none⟩) (n + m) cap') W' ∧ Ob B W' g' (n + m) cap' (xs ++ ys) ∧ Fr (fun k => k = g) W W' := by
  obtain ⟨i0, hi, hz0, hz1, hz2⟩ := info_parts Tryz.info5
  have hd := h.rd
  have hbc := h.fre
  have hcl : n ≤ cap := hd.le
  have hxl := hd.len
  cases ao with
  | none =>
    obtain ⟨rfl, rfl⟩ := hr.nul rfl
    have hy : ys = [] := List.eq_nil_of_length_eq_zero hr.len
    subst hy
    refine ⟨g, cap, W, ?_, by simpa using h, Fr.refl _ _⟩
    simp [Builtin.append_, run_underlying Tryz.underlying30, sizeOf, typeInfo, hi, Builtin.lenOf, Builtin.firstCells, hcl, loadCells, storeCells]
  | some ad =>
    have hl : (ys.map (Value.int .u8)).length = m * i0.size := by rw [hz1, List.length_map, hr.len, Nat.mul_one]
    have hf := run_firstCells_some (P := Tryz.prog) W i0.size m ad m c (ys.map (Value.int .u8)) hl (hr.cellsOf ad rfl)
    by_cases hroom : n + m ≤ cap
    · have hst := run_storeCells_cells (P := Tryz.prog) g n (ys.map (Value.int .u8)) 0 W (fun j hj => by
        have hj' : j < m := by rw [List.length_map, hr.len] at hj; exact hj
        obtain ⟨⟨u, h1⟩, _⟩ := hbc (n + 0 + j) (by omega)
        rw [h1]; rfl) (fun j hj => by
        have hj' : j < m := by rw [List.length_map, hr.len] at hj; exact hj
        exact (hbc (n + 0 + j) (by omega)).2) (ints_oneCell _ _)
      rw [Nat.add_zero] at hst
      have hin := World.cell?_setCells_in g (ys.map (Value.int .u8)) n W (fun j hj => by
        have hj' : j < m := by rw [List.length_map, hr.len] at hj; exact hj
        obtain ⟨⟨u, h1⟩, _⟩ := hbc (n + j) (by omega)
        rw [h1]; rfl)
      refine ⟨g, cap, W.setCells g n (ys.map (Value.int .u8)), ?_, ⟨h.low, ⟨by simp [hxl, hr.len], hroom, (fun e => by cases e), fun a ha j hj => ?_, fun x hx => ?_⟩, fun j hj => ⟨?_, by rw [World.frozen?_setCells]; exact (hbc j hj).2⟩⟩, Fr.setCells (P := fun k => k = g) rfl _ _ _ _ (Fr.refl _ _)⟩
      · rw [hz1] at hf
        simp [Builtin.append_, run_underlying Tryz.underlying30, sizeOf, typeInfo, hi, Builtin.lenOf, hroom, hf, Addr.add_lit, hz1]
        rw [hst]
        simp
      · cases ha
        rw [Addr.add_lit, Nat.zero_add]
        by_cases hj2 : j < n
        · rw [World.cell?_setCells_out _ _ _ _ _ (fun _ _ => .inl hj2)]
          have := hd.cells _ rfl j hj2
          rw [Addr.add_lit, Nat.zero_add] at this
          rw [this, getD_left _ _ _ (by rw [hxl]; exact hj2)]
        · have hin := hin (j - n) (by rw [List.length_map, hr.len]; omega)
          rw [show n + (j - n) = j by omega] at hin
          rw [hin, List.getElem_map, getD_right _ _ _ (by rw [hxl]; omega), hxl, List.getD, List.getElem?_eq_getElem (by rw [hr.len]; omega)]
          rfl
      · rcases List.mem_append.1 hx with h | h
        · exact hd.byt x h
        · exact hr.byt x h
      · by_cases hj2 : n ≤ j ∧ j < n + m
        · have hin := hin (j - n) (by rw [List.length_map, hr.len]; omega)
          rw [show n + (j - n) = j by omega] at hin
          exact ⟨_, hin⟩
        · rw [World.cell?_setCells_out _ _ _ _ _ (fun _ _ => by
            rw [List.length_map, hr.len]
            show j < n ∨ n + m ≤ j
            omega)]
          exact (hbc j hj).1
    · have hg := run_append_grow (P := Tryz.prog) W 30 ty 5 i0 (.int .u8 0) Tryz.underlying30 hi hz0 ⟨g, 0, none⟩ n cap (xs.map (Value.int .u8)) (by rw [hz1, List.length_map, hxl, Nat.mul_one]) (hd.cellsOf _ rfl) ad m c (ys.map (Value.int .u8)) hl (hr.cellsOf ad rfl) (by omega) (by omega) (by rw [hz2]; exact growslice_fits (bytes := 1) (by omega) (by omega))
      have hge := grownCap_ge W (n + m) cap 5
      have hcx : ∀ j, (W.drew.alloc (.cells ((xs.map (Value.int .u8)).toArray ++ (ys.map (Value.int .u8)).toArray ++ Builtin.zeroCells (Value.cells (.int .u8 0)) (grownCap W (n + m) cap 5 - (n + m))) 5)).cell? ⟨W.heap.size, j, none⟩ = ((xs.map (Value.int .u8)).toArray ++ (ys.map (Value.int .u8)).toArray ++ Builtin.zeroCells (Value.cells (.int .u8 0)) (grownCap W (n + m) cap 5 - (n + m)))[j]? := fun j => by
        simp [go_sem]
      refine ⟨W.heap.size, _, _, hg, ⟨hB, ⟨by simp [hxl, hr.len], hge, (fun e => by cases e), fun a ha j hj => ?_, fun x hx => ?_⟩, fun j hj => ⟨?_, ?_⟩⟩, (((Fr.refl (fun k => k = g) W).drew).alloc _)⟩
      · cases ha
        rw [Addr.add_lit, Nat.zero_add, hcx]
        generalize Builtin.zeroCells (Value.cells (.int .u8 0)) (grownCap W (n + m) cap 5 - (n + m)) = Z
        have hsz : j < ((xs.map (Value.int .u8)).toArray ++ (ys.map (Value.int .u8)).toArray).size := by simp [hxl, hr.len]; omega
        rw [Array.getElem?_append_left hsz]
        have hx : ((xs.map (Value.int .u8)).toArray ++ (ys.map (Value.int .u8)).toArray)[j]? = ((xs ++ ys).map (Value.int .u8))[j]? := by simp
        rw [hx, List.getElem?_map, List.getD, List.getElem?_eq_getElem (by simp [hxl, hr.len]; omega)]
        rfl
      · rcases List.mem_append.1 hx with h | h
        · exact hd.byt x h
        · exact hr.byt x h
      · rw [hcx]
        have : j < ((xs.map (Value.int .u8)).toArray ++ (ys.map (Value.int .u8)).toArray ++ Builtin.zeroCells (Value.cells (.int .u8 0)) (grownCap W (n + m) cap 5 - (n + m))).size := by
          have hz : (Builtin.zeroCells (Value.cells (.int .u8 0)) (grownCap W (n + m) cap 5 - (n + m))).size = grownCap W (n + m) cap 5 - (n + m) := by rw [size_zeroCells]; simp [Value.cells]
          rw [Array.size_append, Array.size_append, hz]
          simp only [List.size_toArray, List.length_map, hxl, hr.len]
          omega
        exact ⟨_, Array.getElem?_eq_getElem this⟩
      · unfold World.frozen?
        show (match (W.drew.alloc (Obj.cells _ 5)).heap[W.drew.heap.size]? with | some (.cells _ _ (lo, hi)) => decide (lo ≤ j) && decide (j < hi) | _ => false) = false
        rw [heap_alloc_new W.drew _]
        simp

theorem wpList_appO {W : World} {ops : Array Oper} {rest : List Oper} {o : Oper} {a : Act} {Q : Exit → Act → World → Prop} (hgd : o.guard = none) (s x : Operand)
    (ho : o.op = .call { callee := .builtin .append, args := #[s, x], argTypes := #[30, 30] }) (B g n cap : Nat) (xs : List Int) (hs : a.eval s = .slice (some ⟨g, 0, none⟩) n cap) (h : Ob B W g n cap xs) (hB : B ≤ W.heap.size)
    (ao : Option Addr) (m c : Nat) (ys : List Int) (hx : a.eval x = .slice ao m c) (hr : Rd W ao m c ys) (hn : n + m ≤ 100000000)
    (hk : ∀ g' cap' W', Ob B W' g' (n + m) cap' (xs ++ ys) → Fr (fun k => k = g) W W' → wpList Tryz.prog ops Q rest (a.put o.dst (.slice (some ⟨g', 0, none⟩) (n + m) cap')) W') :
    wpList Tryz.prog ops Q (o :: rest) a W := by
  obtain ⟨g', cap', w', hrun, h1, h2⟩ := run_appO o.type B W g n cap xs h hB ao m c ys hr hn
  refine wpList_plain hgd fun K hK => ?_
  unfold Oper.wp
  simp [execOp, ho, resolve, invoke, builtin, hs, hx, hrun, Result.andThen]
  exact hK _ _ (hk g' cap' w' h1 h2)

end Go.Proofs.YtojgablpjdlegabGreatDoor

/- The document's words and numbers. -/
namespace Go.Proofs.YtojgablpjdlegabGreatDoor
open Go.RowKit

/-- What stands ahead of a number's last digit. -/
def frd (m : Nat) : List UInt8 := if m < 10 then [] else Lib.decDigits (m / 10)

theorem dec_frd (m : Nat) : Lib.decDigits m = frd m ++ [UInt8.ofNat (48 + m % 10)] := by
  unfold frd
  by_cases h : m < 10
  · rw [Lib.decDigits_one h, if_pos h, Nat.mod_eq_of_lt h]
    rfl
  · rw [if_neg h]
    conv => lhs; unfold Lib.decDigits
    rw [dif_neg h]

theorem dig_byte (d : Nat) (h : d < 10) : (strOfNums [48 + (d : Int)]) = ⟨[UInt8.ofNat (48 + d)].toArray⟩ := by
  rcases (by omega : d = 0 ∨ d = 1 ∨ d = 2 ∨ d = 3 ∨ d = 4 ∨ d = 5 ∨ d = 6 ∨ d = 7 ∨ d = 8 ∨ d = 9) with rfl | rfl | rfl | rfl | rfl | rfl | rfl | rfl | rfl | rfl <;> rfl

theorem dig_str (d : Nat) (h : d < 10) (w : World) : (convert 30 9 (.slice (some ⟨w.heap.size, 0, none⟩) 1 1)).run Tryz.prog (w.alloc (Obj.cells #[.int .u8 (48 + (d : Int))] 5)) = .ok (sv [UInt8.ofNat (48 + d)]) (w.alloc (Obj.cells #[.int .u8 (48 + (d : Int))] 5)) := by
  have h := (one_rd w (48 + (d : Int)) (by omega)).str
  rw [dig_byte d (by omega)] at h
  exact h

theorem dec_le9 : ∀ k n : Nat, n < 10 ^ (k + 1) → (Lib.decDigits n).length ≤ k + 1 := by
  intro k
  induction k with
  | zero => intro n h; rw [Lib.decDigits_one (by simpa using h)]; simp
  | succ k ih =>
    intro n h
    unfold Lib.decDigits
    split
    · simp
    · have := ih (n / 10) (Nat.div_lt_of_lt_mul (by rw [Nat.pow_succ] at h; omega))
      simp
      exact this

end Go.Proofs.YtojgablpjdlegabGreatDoor

/- Quiet steps: a call with nothing, a text behind a text. -/
namespace Go.Proofs.YtojgablpjdlegabGreatDoor
open Go.RowKit Go.Shelf

theorem q_call0 {ops : Array Oper} {o : Oper} {a : Act} {C : World → Prop} {K : Act → Prop} {E : Prop} (hw : Region.wanted o (yielded ops a.tmps) = true) (f : FuncId) (hf : ∀ vs w, (callFunc f vs).run Tryz.prog w = .ok (.enter f vs) w) (ts : Array TypeId) (ho : o.op = .call { callee := .value (.func f), args := #[], argTypes := ts }) (v : Value)
    (hc : ∀ w, C w → Calls Tryz.prog f #[] w (fun e w' => e = .returned v ∧ C w')) (hk : K (a.put o.dst v)) : if Region.wanted o (yielded ops a.tmps) = true then o.quiet Tryz.prog a C K else E := by
  rw [if_pos hw]
  refine ⟨v, fun w hC => ?_, hk⟩
  have h := hc w hC
  have hr : (resolve a.eval { callee := .value (.func f), args := #[], argTypes := ts } o.type >>= fun d => invoke d.target d.args).run Tryz.prog w = .ok (.enter f #[]) w := by
    rw [← hf #[] w]
    simp [resolve, Act.eval, invoke, Deferred.ofValue]
  unfold Oper.quietAt execOp
  simp only [ho, hr]
  exact ⟨rfl, h⟩

theorem q_add {ops : Array Oper} {o : Oper} {a : Act} {C : World → Prop} {K : Act → Prop} {E : Prop} (hw : Region.wanted o (yielded ops a.tmps) = true) (x y : Operand) (t : TypeId) (ho : o.op = .binOp .add 9 x y t) (l m : List UInt8) (hx : a.eval x = sv l) (hy : a.eval y = sv m) (h : l.length + m.length ≤ 9223372036854775807)
    (hk : K (a.put o.dst (sv (l ++ m)))) : if Region.wanted o (yielded ops a.tmps) = true then o.quiet Tryz.prog a C K else E := by
  rw [if_pos hw]
  refine ⟨sv (l ++ m), fun w hC => ?_, hk⟩
  have q : (9223372036854775807 < l.length + m.length) = False := by simp; omega
  have e := cat_sv l m
  unfold Oper.quietAt execOp
  simp only [ho, hx, hy]
  simp [Oper.quietUpon, go_sem, q, e]

/-- A text behind a text: what comes is a letter, and what it is stands hidden. -/
theorem q_add2 {ops : Array Oper} {o : Oper} {a : Act} {C : World → Prop} {K : Act → Prop} {E : Prop} (hw : Region.wanted o (yielded ops a.tmps) = true) (x y : Operand) (t : TypeId) (ho : o.op = .binOp .add 9 x y t) (l m : List UInt8) (hx : a.eval x = sv l) (hy : a.eval y = sv m) (L : List UInt8) (hl : Hid (l = L)) (h : L.length + m.length ≤ 9223372036854775807)
    (hk : ∀ z, Hid (z = L ++ m) → K (a.put o.dst (sv z))) : if Region.wanted o (yielded ops a.tmps) = true then o.quiet Tryz.prog a C K else E :=
  q_add hw x y t ho l m hx hy (by rw [hl.out]; exact h) (hk _ (by show _ = _; rw [hl.out]))

end Go.Proofs.YtojgablpjdlegabGreatDoor

/- The document's EncodeCommit. -/
namespace Go.Proofs.YtojgablpjdlegabGreatDoor
open Go.RowKit Go.Shelf

theorem wpList_add2 {ops : Array Oper} {rest : List Oper} {o : Oper} {a : Act} {w : World} {Q : Exit → Act → World → Prop} (hgd : o.guard = none) (x y : Operand) (t : TypeId) (ho : o.op = .binOp .add 9 x y t) (l m : List UInt8) (hx : a.eval x = sv l) (hy : a.eval y = sv m) (L : List UInt8) (hl : Hid (l = L)) (h : L.length + m.length ≤ 9223372036854775807)
    (hk : ∀ z, Hid (z = L ++ m) → wpList Tryz.prog ops Q rest (a.put o.dst (sv z)) w) : wpList Tryz.prog ops Q (o :: rest) a w := by
  refine wpList_plain hgd fun K hK => ?_
  have hle : l.length + m.length ≤ 9223372036854775807 := by rw [hl.out]; exact h
  have q : (9223372036854775807 < l.length + m.length) = False := by simp; omega
  have e := cat_sv l m
  unfold Oper.wp execOp
  simp only [ho, hx, hy]
  simp [go_sem, q, e]
  exact hK _ _ (hk _ (by show _ = _; rw [hl.out]))

end Go.Proofs.YtojgablpjdlegabGreatDoor
