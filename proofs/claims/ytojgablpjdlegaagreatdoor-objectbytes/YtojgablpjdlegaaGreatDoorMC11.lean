/- NmB, NmA, Rq, Rcm. -/
import Derived.Test.YtojgablpjdlegaaGreatDoorM19
import Derived.Test.YtojgablpjdlegaaGreatDoorMC07
import Derived.Test.YtojgablpjdlegaaGreatDoorMC10
/- A row of bytes of one's own that was a text: appended to, twice and more. -/
namespace Go.Proofs.YtojgablpjdlegaaGreatDoor
open Go.RowKit

structure Ob (B : Nat) (W : World) (g n cap : Nat) (xs : List Int) : Prop where
  low : B ≤ g
  rd : Rd W (some ⟨g, 0, none⟩) n cap xs
  fre : ∀ j, j < cap → (∃ u, W.cell? ⟨g, j, none⟩ = some u) ∧ W.frozen? ⟨g, j, none⟩ = false

theorem Ob.keep {B g n cap : Nat} {W W' : World} {xs : List Int} (h : Ob B W g n cap xs) (hb : Below W.heap.size W W') : Ob B W' g n cap xs := by
  refine ⟨h.low, h.rd.keep hb, fun j hj => ?_⟩
  obtain ⟨⟨u, hu⟩, hf⟩ := h.fre j hj
  have hg : g < W.heap.size := World.block_lt_of_cell? W _ hu
  have hbk := hb.block g hg
  refine ⟨⟨u, by rw [← hu]; unfold World.cell?; rw [hbk]⟩, by rw [← hf]; unfold World.frozen?; rw [hbk]⟩

theorem Ob.text (w : World) (l : List UInt8) : Ob w.heap.size (Lib.bytesWorld w 5 ⟨l.toArray⟩) w.heap.size l.length (grownCap w l.length 0 5) (tn l) :=
  ⟨Nat.le_refl _, bw_rd w l, fun j hj => by obtain ⟨u, h1, h2⟩ := bw_cell w l j hj; exact ⟨⟨u, h1⟩, h2⟩⟩

theorem run_appO (ty : TypeId) (B : Nat) (W : World) (g n cap : Nat) (xs : List Int) (h : Ob B W g n cap xs) (hB : B ≤ W.heap.size) (ao : Option Addr) (m c : Nat) (ys : List Int) (hr : Rd W ao m c ys) (hn : n + m ≤ 100000000) :
    ∃ g' cap' W', (Builtin.append_ #[22, 22] ty #[.slice (some ⟨g, 0, none⟩) n cap, .slice ao m c]).run Tryz.prog W = .ok (.slice (some ⟨g', 0, none⟩) (n + m) cap') W' ∧ Ob B W' g' (n + m) cap' (xs ++ ys) ∧ Fr (fun k => k = g) W W' := by
  obtain ⟨i0, hi, hz0, hz1, hz2⟩ := info_parts Tryz.info5
  have hd := h.rd
  have hbc := h.fre
  have hcl : n ≤ cap := hd.le
  have hxl := hd.len
  cases ao with
  | none =>
    obtain ⟨rfl, rfl⟩ := hr.nul rfl
    have hy : ys = [] := List.eq_nil_of_length_eq_zero hr.len
    subst hy
    refine ⟨g, cap, W, ?_, by simpa using h, Fr.refl _ _⟩
    simp [Builtin.append_, run_underlying Tryz.underlying22, sizeOf, typeInfo, hi, Builtin.lenOf, Builtin.firstCells, hcl, loadCells, storeCells]
  | some ad =>
    have hl : (ys.map (Value.int .u8)).length = m * i0.size := by rw [hz1, List.length_map, hr.len, Nat.mul_one]
    have hf := run_firstCells_some (P := Tryz.prog) W i0.size m ad m c (ys.map (Value.int .u8)) hl (hr.cellsOf ad rfl)
    by_cases hroom : n + m ≤ cap
    · have hst := run_storeCells_cells (P := Tryz.prog) g n (ys.map (Value.int .u8)) 0 W (fun j hj => by
        have hj' : j < m := by rw [List.length_map, hr.len] at hj; exact hj
        obtain ⟨⟨u, h1⟩, _⟩ := hbc (n + 0 + j) (by omega)
        rw [h1]; rfl) (fun j hj => by
        have hj' : j < m := by rw [List.length_map, hr.len] at hj; exact hj
        exact (hbc (n + 0 + j) (by omega)).2) (ints_oneCell _ _)
      rw [Nat.add_zero] at hst
      have hin := World.cell?_setCells_in g (ys.map (Value.int .u8)) n W (fun j hj => by
        have hj' : j < m := by rw [List.length_map, hr.len] at hj; exact hj
        obtain ⟨⟨u, h1⟩, _⟩ := hbc (n + j) (by omega)
        rw [h1]; rfl)
      refine ⟨g, cap, W.setCells g n (ys.map (Value.int .u8)), ?_, ⟨h.low, ⟨by simp [hxl, hr.len], hroom, (fun e => by cases e), fun a ha j hj => ?_, fun x hx => ?_⟩, fun j hj => ⟨?_, by rw [World.frozen?_setCells]; exact (hbc j hj).2⟩⟩, Fr.setCells (P := fun k => k = g) rfl _ _ _ _ (Fr.refl _ _)⟩
      · rw [hz1] at hf
        simp [Builtin.append_, run_underlying Tryz.underlying22, sizeOf, typeInfo, hi, Builtin.lenOf, hroom, hf, Addr.add_lit, hz1]
        rw [hst]
        simp
      · cases ha
        rw [Addr.add_lit, Nat.zero_add]
        by_cases hj2 : j < n
        · rw [World.cell?_setCells_out _ _ _ _ _ (fun _ _ => .inl hj2)]
          have := hd.cells _ rfl j hj2
          rw [Addr.add_lit, Nat.zero_add] at this
          rw [this, getD_left _ _ _ (by rw [hxl]; exact hj2)]
        · have hin := hin (j - n) (by rw [List.length_map, hr.len]; omega)
          rw [show n + (j - n) = j by omega] at hin
          rw [hin, List.getElem_map, getD_right _ _ _ (by rw [hxl]; omega), hxl, List.getD, List.getElem?_eq_getElem (by rw [hr.len]; omega)]
          rfl
      · rcases List.mem_append.1 hx with h | h
        · exact hd.byt x h
        · exact hr.byt x h
      · by_cases hj2 : n ≤ j ∧ j < n + m
        · have hin := hin (j - n) (by rw [List.length_map, hr.len]; omega)
          rw [show n + (j - n) = j by omega] at hin
          exact ⟨_, hin⟩
        · rw [World.cell?_setCells_out _ _ _ _ _ (fun _ _ => by
            rw [List.length_map, hr.len]
            show j < n ∨ n + m ≤ j
            omega)]
          exact (hbc j hj).1
    · have hg := run_append_grow (P := Tryz.prog) W 22 ty 5 i0 (.int .u8 0) Tryz.underlying22 hi hz0 ⟨g, 0, none⟩ n cap (xs.map (Value.int .u8)) (by rw [hz1, List.length_map, hxl, Nat.mul_one]) (hd.cellsOf _ rfl) ad m c (ys.map (Value.int .u8)) hl (hr.cellsOf ad rfl) (by omega) (by omega) (by rw [hz2]; exact growslice_fits (bytes := 1) (by omega) (by omega))
      have hge := grownCap_ge W (n + m) cap 5
      have hcx : ∀ j, (W.drew.alloc (.cells ((xs.map (Value.int .u8)).toArray ++ (ys.map (Value.int .u8)).toArray ++ Builtin.zeroCells (Value.cells (.int .u8 0)) (grownCap W (n + m) cap 5 - (n + m))) 5)).cell? ⟨W.heap.size, j, none⟩ = ((xs.map (Value.int .u8)).toArray ++ (ys.map (Value.int .u8)).toArray ++ Builtin.zeroCells (Value.cells (.int .u8 0)) (grownCap W (n + m) cap 5 - (n + m)))[j]? := fun j => by
        simp [go_sem]
      refine ⟨W.heap.size, _, _, hg, ⟨hB, ⟨by simp [hxl, hr.len], hge, (fun e => by cases e), fun a ha j hj => ?_, fun x hx => ?_⟩, fun j hj => ⟨?_, ?_⟩⟩, (((Fr.refl (fun k => k = g) W).drew).alloc _)⟩
      · cases ha
        rw [Addr.add_lit, Nat.zero_add, hcx]
        generalize Builtin.zeroCells (Value.cells (.int .u8 0)) (grownCap W (n + m) cap 5 - (n + m)) = Z
        have hsz : j < ((xs.map (Value.int .u8)).toArray ++ (ys.map (Value.int .u8)).toArray).size := by simp [hxl, hr.len]; omega
        rw [Array.getElem?_append_left hsz]
        have hx : ((xs.map (Value.int .u8)).toArray ++ (ys.map (Value.int .u8)).toArray)[j]? = ((xs ++ ys).map (Value.int .u8))[j]? := by simp
        rw [hx, List.getElem?_map, List.getD, List.getElem?_eq_getElem (by simp [hxl, hr.len]; omega)]
        rfl
      · rcases List.mem_append.1 hx with h | h
        · exact hd.byt x h
        · exact hr.byt x h
      · rw [hcx]
        have : j < ((xs.map (Value.int .u8)).toArray ++ (ys.map (Value.int .u8)).toArray ++ Builtin.zeroCells (Value.cells (.int .u8 0)) (grownCap W (n + m) cap 5 - (n + m))).size := by
          have hz : (Builtin.zeroCells (Value.cells (.int .u8 0)) (grownCap W (n + m) cap 5 - (n + m))).size = grownCap W (n + m) cap 5 - (n + m) := by rw [size_zeroCells]; simp [Value.cells]
          rw [Array.size_append, Array.size_append, hz]
          simp only [List.size_toArray, List.length_map, hxl, hr.len]
          omega
        exact ⟨_, Array.getElem?_eq_getElem this⟩
      · unfold World.frozen?
        show (match (W.drew.alloc (Obj.cells _ 5)).heap[W.drew.heap.size]? with | some (.cells _ _ (lo, hi)) => decide (lo ≤ j) && decide (j < hi) | _ => false) = false
        rw [heap_alloc_new W.drew _]
        simp

theorem wpList_appO {W : World} {ops : Array Oper} {rest : List Oper} {o : Oper} {a : Act} {Q : Exit → Act → World → Prop} (hgd : o.guard = none) (s x : Operand)
    (ho : o.op = .call { callee := .builtin .append, args := #[s, x], argTypes := #[22, 22] }) (B g n cap : Nat) (xs : List Int) (hs : a.eval s = .slice (some ⟨g, 0, none⟩) n cap) (h : Ob B W g n cap xs) (hB : B ≤ W.heap.size)
    (ao : Option Addr) (m c : Nat) (ys : List Int) (hx : a.eval x = .slice ao m c) (hr : Rd W ao m c ys) (hn : n + m ≤ 100000000)
    (hk : ∀ g' cap' W', Ob B W' g' (n + m) cap' (xs ++ ys) → Fr (fun k => k = g) W W' → wpList Tryz.prog ops Q rest (a.put o.dst (.slice (some ⟨g', 0, none⟩) (n + m) cap')) W') :
    wpList Tryz.prog ops Q (o :: rest) a W := by
  obtain ⟨g', cap', w', hrun, h1, h2⟩ := run_appO o.type B W g n cap xs h hB ao m c ys hr hn
  refine wpList_plain hgd fun K hK => ?_
  unfold Oper.wp
  simp [execOp, ho, resolve, invoke, builtin, hs, hx, hrun, Result.andThen]
  exact hK _ _ (hk g' cap' w' h1 h2)

end Go.Proofs.YtojgablpjdlegaaGreatDoor

/- The document's words and numbers. -/
namespace Go.Proofs.YtojgablpjdlegaaGreatDoor
open Go.RowKit

set_option maxRecDepth 100000 in
theorem rword_any (k : Int) (w : World) : Calls Tryz.prog 16 #[.int .i64 k] w fun e w' => e = .returned (sv (wl k)) ∧ w' = w := by
  show Calls Tryz.prog 16 #[.int .i64 k] w fun e w' => e = .returned (.string (wrd k)) ∧ w' = w
  by_cases h1 : k = 1
  · subst h1
    go_enter Tryz.func16, Tryz.ntmps16
    go_wp2
    go_ret
    exact ⟨rfl, rfl⟩
  have d1 : (k == 1) = false := by simp [h1]
  by_cases h2 : k = 2
  · subst h2
    go_enter Tryz.func16, Tryz.ntmps16
    go_wp2
    go_ret
    exact ⟨rfl, rfl⟩
  have d2 : (k == 2) = false := by simp [h2]
  by_cases h3 : k = 3
  · subst h3
    go_enter Tryz.func16, Tryz.ntmps16
    go_wp2
    go_ret
    exact ⟨rfl, rfl⟩
  have d3 : (k == 3) = false := by simp [h3]
  by_cases h4 : k = 4
  · subst h4
    go_enter Tryz.func16, Tryz.ntmps16
    go_wp2
    go_ret
    exact ⟨rfl, rfl⟩
  have d4 : (k == 4) = false := by simp [h4]
  have e : wrd k = ⟨#[]⟩ := by unfold wrd; rw [if_neg h1, if_neg h2, if_neg h3, if_neg h4]
  rw [e]
  clear e h1 h2 h3 h4
  go_enter Tryz.func16, Tryz.ntmps16
  go_wp2
  go_ret
  exact ⟨rfl, rfl⟩

set_option maxRecDepth 100000 in
theorem rkindOf_any (l : List UInt8) (w : World) : Calls Tryz.prog 20 #[sv l] w fun e w' => e = .returned (.tuple #[.int .i64 (kof l).1, .bool (kof l).2]) ∧ w' = w := by
  have c1 := rword_any 1 w
  have c2 := rword_any 2 w
  have c3 := rword_any 3 w
  have c4 := rword_any 4 w
  obtain ⟨r, hr⟩ : ∃ r, r = kof l := ⟨_, rfl⟩
  rw [← hr]
  unfold kof at hr
  generalize wl 1 = a1 at *
  generalize wl 2 = a2 at *
  generalize wl 3 = a3 at *
  generalize wl 4 = a4 at *
  have HR : Hid (r = if a1 = l then (1, true) else if a2 = l then (2, true) else if a3 = l then (3, true) else if a4 = l then (4, true) else (0, false)) := hr
  clear hr
  go_enter Tryz.func20, Tryz.ntmps20
  go_wp2_with fail
  go_loopw [4] (fun kv wr => wr = w ∧ ((kv = .int .i64 1) ∨ (kv = .int .i64 2 ∧ Hid (¬ a1 = l)) ∨ (kv = .int .i64 3 ∧ Hid (¬ a1 = l) ∧ Hid (¬ a2 = l)) ∨ (kv = .int .i64 4 ∧ Hid (¬ a1 = l) ∧ Hid (¬ a2 = l) ∧ Hid (¬ a3 = l)) ∨ (kv = .int .i64 5 ∧ Hid (¬ a1 = l) ∧ Hid (¬ a2 = l) ∧ Hid (¬ a3 = l) ∧ Hid (¬ a4 = l)))) (fun kv _ => 5 - (intOf kv).toNat)
  case atStart => exact ⟨rfl, .inl rfl⟩
  case round =>
    obtain ⟨hwr, rfl | ⟨rfl, N1⟩ | ⟨rfl, N1, N2⟩ | ⟨rfl, N1, N2, N3⟩ | ⟨rfl, N1, N2, N3, N4⟩⟩ := hrel
    all_goals subst wr
    · by_cases h : a1 = l
      · have b : (a1 == l) = true := by simp [h]
        have HK : Hid (r = (1, true)) := by show _ = _; rw [HR.out, if_pos h]
        clear h
        go_wp2_with (go_at_call 16; refine c1.mono ?_; rintro e w1 ⟨rfl, hw1⟩; subst w1)
        go_ret2
        exact ⟨by rw [HK.out]; rfl, rfl⟩
      · have b : (a1 == l) = false := by simp [h]
        have HN : Hid (¬ a1 = l) := h
        clear h
        go_wp2_with (go_at_call 16; refine c1.mono ?_; rintro e w1 ⟨rfl, hw1⟩; subst w1)
        go_roundw
        case measure => simp [intOf]
        case rel => exact ⟨trivial, .inr (.inl ⟨rfl, HN⟩)⟩
    · by_cases h : a2 = l
      · have b : (a2 == l) = true := by simp [h]
        have HK : Hid (r = (2, true)) := by show _ = _; rw [HR.out, if_neg N1.out, if_pos h]
        clear h
        go_wp2_with (go_at_call 16; refine c2.mono ?_; rintro e w1 ⟨rfl, hw1⟩; subst w1)
        go_ret2
        exact ⟨by rw [HK.out]; rfl, rfl⟩
      · have b : (a2 == l) = false := by simp [h]
        have HN : Hid (¬ a2 = l) := h
        clear h
        go_wp2_with (go_at_call 16; refine c2.mono ?_; rintro e w1 ⟨rfl, hw1⟩; subst w1)
        go_roundw
        case measure => simp [intOf]
        case rel => exact ⟨trivial, .inr (.inr (.inl ⟨rfl, N1, HN⟩))⟩
    · by_cases h : a3 = l
      · have b : (a3 == l) = true := by simp [h]
        have HK : Hid (r = (3, true)) := by show _ = _; rw [HR.out, if_neg N1.out, if_neg N2.out, if_pos h]
        clear h
        go_wp2_with (go_at_call 16; refine c3.mono ?_; rintro e w1 ⟨rfl, hw1⟩; subst w1)
        go_ret2
        exact ⟨by rw [HK.out]; rfl, rfl⟩
      · have b : (a3 == l) = false := by simp [h]
        have HN : Hid (¬ a3 = l) := h
        clear h
        go_wp2_with (go_at_call 16; refine c3.mono ?_; rintro e w1 ⟨rfl, hw1⟩; subst w1)
        go_roundw
        case measure => simp [intOf]
        case rel => exact ⟨trivial, .inr (.inr (.inr (.inl ⟨rfl, N1, N2, HN⟩)))⟩
    · by_cases h : a4 = l
      · have b : (a4 == l) = true := by simp [h]
        have HK : Hid (r = (4, true)) := by show _ = _; rw [HR.out, if_neg N1.out, if_neg N2.out, if_neg N3.out, if_pos h]
        clear h
        go_wp2_with (go_at_call 16; refine c4.mono ?_; rintro e w1 ⟨rfl, hw1⟩; subst w1)
        go_ret2
        exact ⟨by rw [HK.out]; rfl, rfl⟩
      · have b : (a4 == l) = false := by simp [h]
        have HN : Hid (¬ a4 = l) := h
        clear h
        go_wp2_with (go_at_call 16; refine c4.mono ?_; rintro e w1 ⟨rfl, hw1⟩; subst w1)
        go_roundw
        case measure => simp [intOf]
        case rel => exact ⟨trivial, .inr (.inr (.inr (.inr (⟨rfl, N1, N2, N3, HN⟩))))⟩
    · have HK : Hid (r = (0, false)) := by show _ = _; rw [HR.out, if_neg N1.out, if_neg N2.out, if_neg N3.out, if_neg N4.out]
      go_wp2
      go_ret2
      exact ⟨by rw [HK.out]; rfl, rfl⟩

/-- What stands ahead of a number's last digit. -/
def frd (m : Nat) : List UInt8 := if m < 10 then [] else Lib.decDigits (m / 10)

theorem dec_frd (m : Nat) : Lib.decDigits m = frd m ++ [UInt8.ofNat (48 + m % 10)] := by
  unfold frd
  by_cases h : m < 10
  · rw [Lib.decDigits_one h, if_pos h, Nat.mod_eq_of_lt h]
    rfl
  · rw [if_neg h]
    conv => lhs; unfold Lib.decDigits
    rw [dif_neg h]

theorem dig_byte (d : Nat) (h : d < 10) : (strOfNums [48 + (d : Int)]) = ⟨[UInt8.ofNat (48 + d)].toArray⟩ := by
  rcases (by omega : d = 0 ∨ d = 1 ∨ d = 2 ∨ d = 3 ∨ d = 4 ∨ d = 5 ∨ d = 6 ∨ d = 7 ∨ d = 8 ∨ d = 9) with rfl | rfl | rfl | rfl | rfl | rfl | rfl | rfl | rfl | rfl <;> rfl

theorem dig_str (d : Nat) (h : d < 10) (w : World) : (convert 22 9 (.slice (some ⟨w.heap.size, 0, none⟩) 1 1)).run Tryz.prog (w.alloc (Obj.cells #[.int .u8 (48 + (d : Int))] 5)) = .ok (sv [UInt8.ofNat (48 + d)]) (w.alloc (Obj.cells #[.int .u8 (48 + (d : Int))] 5)) := by
  have h := (one_rd w (48 + (d : Int)) (by omega)).str
  rw [dig_byte d (by omega)] at h
  exact h

theorem dec_le9 : ∀ k n : Nat, n < 10 ^ (k + 1) → (Lib.decDigits n).length ≤ k + 1 := by
  intro k
  induction k with
  | zero => intro n h; rw [Lib.decDigits_one (by simpa using h)]; simp
  | succ k ih =>
    intro n h
    unfold Lib.decDigits
    split
    · simp
    · have := ih (n / 10) (Nat.div_lt_of_lt_mul (by rw [Nat.pow_succ] at h; omega))
      simp
      exact this

set_option maxRecDepth 100000 in
theorem rdec_any (N : Nat) (w : World) (hN : N ≤ 1000000000) : Calls Tryz.prog 50 #[.int .i64 N] w fun e w' => e = .returned (sv (Lib.decDigits N)) ∧ Below w.heap.size w w' := by
  obtain ⟨D, hD⟩ : ∃ D, D = Lib.decDigits N := ⟨_, rfl⟩
  rw [← hD]
  obtain ⟨d, hd⟩ : ∃ d : Nat, d = N % 10 := ⟨_, rfl⟩
  have hd10 : d < 10 := by omega
  have hm : (N : Int) % 10 = d := by omega
  obtain ⟨cc, hcc⟩ : ∃ c, c = UInt8.ofNat (48 + d) := ⟨_, rfl⟩
  have HD : Hid (N ≤ N ∧ frd N ++ [cc] = D) := ⟨Nat.le_refl _, by rw [hD, dec_frd, hcc, hd]⟩
  have HL : Hid (D.length ≤ 100) := by have := dec_le9 9 N (by omega); show D.length ≤ 100; rw [hD]; omega
  have hs := dig_str d hd10 w
  have HB : Hid (Below w.heap.size w (w.alloc (Obj.cells #[.int .u8 (48 + (d : Int))] 5))) := new_below w _
  have y1 : IntKind.i64.wrap (48 + (d : Int)) = 48 + (d : Int) := by rw [IntKind.wrap_i64]; omega
  have y2 : IntKind.u8.wrap (48 + (d : Int)) = 48 + (d : Int) := wraps_u8 _ (by omega) (by omega)
  rw [← hcc] at hs
  clear hcc hd hd10 hD
  have HN : Hid (N ≤ 1000000000) := hN
  clear hN
  go_enter Tryz.func50, Tryz.ntmps50
  go_wp2_with fail
  clear hs hm y1 y2
  go_loopw [0, 3] (fun nv s wr => ∃ (m : Nat) (t : List UInt8), nv = .int .i64 m ∧ s = sv t ∧ Hid (m ≤ N ∧ frd m ++ t = D) ∧ Below w.heap.size w wr) (fun nv _ _ => (intOf nv).toNat)
  case atStart => exact ⟨N, [cc], rfl, rfl, HD, HB.out⟩
  case round =>
    clear HD HB
    obtain ⟨m, t, rfl, rfl, HM, hb⟩ := hrel
    by_cases h10 : 10 ≤ m
    · have e1 : decide ((10 : Int) ≤ m) = true := by simp; omega
      have e2 : decide (10 ≤ m) = true := by simp [h10]
      obtain ⟨q, hq⟩ : ∃ q : Nat, q = m / 10 := ⟨_, rfl⟩
      have hqi : (m : Int) / 10 = q := by omega
      obtain ⟨d, hd⟩ : ∃ d : Nat, d = q % 10 := ⟨_, rfl⟩
      have hd10 : d < 10 := by omega
      have hdi : (q : Int) % 10 = d := by omega
      obtain ⟨c2, hc2⟩ : ∃ c, c = UInt8.ofNat (48 + d) := ⟨_, rfl⟩
      have hs := dig_str d hd10 wr
      rw [← hc2] at hs
      have HB : Hid (Below w.heap.size w (wr.alloc (Obj.cells #[.int .u8 (48 + (d : Int))] 5))) := hb.trans ((new_below wr _).mono hb.size)
      have y1 : IntKind.i64.wrap (48 + (d : Int)) = 48 + (d : Int) := by rw [IntKind.wrap_i64]; omega
      have y2 : IntKind.u8.wrap (48 + (d : Int)) = 48 + (d : Int) := wraps_u8 _ (by omega) (by omega)
      have y3 : IntKind.i64.wrap (q : Int) = q := by rw [IntKind.wrap_i64]; have := HM.out.1; have := HN.out; omega
      have HQ : Hid (q ≤ N ∧ frd q ++ (c2 :: t) = D) := ⟨by have := HM.out.1; omega, by
        have hf : frd m = Lib.decDigits q := by unfold frd; rw [if_neg (by omega), hq]
        rw [← HM.out.2, hf, dec_frd q, ← hd, hc2]; simp⟩
      have hcat : (⟨#[c2]⟩ ++ ⟨t.toArray⟩ : ByteArray) = ⟨(c2 :: t).toArray⟩ := cat_sv [c2] t
      have ht : t.length ≤ 100 := by have := HL.out; rw [← HM.out.2, List.length_append] at this; omega
      have hsz : (9223372036854775807 < 1 + t.length) = False := by simp; omega
      have HQM : Hid (q < m) := by show q < m; omega
      clear hc2 hd hd10 hq ht h10 hb
      go_wp2
      go_roundw
      case measure => have := HQM.out; simp [intOf]; omega
      case rel => exact ⟨q, _, rfl, rfl, HQ, HB.out⟩
    · have e1 : decide ((10 : Int) ≤ m) = false := by simp; omega
      have e2 : decide (10 ≤ m) = false := by simp; omega
      have HT : Hid (t = D) := by
        have := HM.out.2
        unfold frd at this
        rw [if_pos (by omega)] at this
        exact this
      have HB : Hid (Below w.heap.size w wr) := hb
      clear h10 hb
      go_wp2
      go_ret
      exact ⟨by rw [HT.out]; rfl, HB.out⟩

end Go.Proofs.YtojgablpjdlegaaGreatDoor

/- Quiet steps: a call with nothing, a text behind a text. -/
namespace Go.Proofs.YtojgablpjdlegaaGreatDoor
open Go.RowKit Go.Shelf

theorem q_call0 {ops : Array Oper} {o : Oper} {a : Act} {C : World → Prop} {K : Act → Prop} {E : Prop} (hw : Region.wanted o (yielded ops a.tmps) = true) (f : FuncId) (hf : ∀ vs w, (callFunc f vs).run Tryz.prog w = .ok (.enter f vs) w) (ts : Array TypeId) (ho : o.op = .call { callee := .value (.func f), args := #[], argTypes := ts }) (v : Value)
    (hc : ∀ w, C w → Calls Tryz.prog f #[] w (fun e w' => e = .returned v ∧ C w')) (hk : K (a.put o.dst v)) : if Region.wanted o (yielded ops a.tmps) = true then o.quiet Tryz.prog a C K else E := by
  rw [if_pos hw]
  refine ⟨v, fun w hC => ?_, hk⟩
  have h := hc w hC
  have hr : (resolve a.eval { callee := .value (.func f), args := #[], argTypes := ts } o.type >>= fun d => invoke d.target d.args).run Tryz.prog w = .ok (.enter f #[]) w := by
    rw [← hf #[] w]
    simp [resolve, Act.eval, invoke, Deferred.ofValue]
  unfold Oper.quietAt execOp
  simp only [ho, hr]
  exact ⟨rfl, h⟩

theorem q_add {ops : Array Oper} {o : Oper} {a : Act} {C : World → Prop} {K : Act → Prop} {E : Prop} (hw : Region.wanted o (yielded ops a.tmps) = true) (x y : Operand) (t : TypeId) (ho : o.op = .binOp .add 9 x y t) (l m : List UInt8) (hx : a.eval x = sv l) (hy : a.eval y = sv m) (h : l.length + m.length ≤ 9223372036854775807)
    (hk : K (a.put o.dst (sv (l ++ m)))) : if Region.wanted o (yielded ops a.tmps) = true then o.quiet Tryz.prog a C K else E := by
  rw [if_pos hw]
  refine ⟨sv (l ++ m), fun w hC => ?_, hk⟩
  have q : (9223372036854775807 < l.length + m.length) = False := by simp; omega
  have e := cat_sv l m
  unfold Oper.quietAt execOp
  simp only [ho, hx, hy]
  simp [Oper.quietUpon, go_sem, q, e]

/-- A text behind a text: what comes is a letter, and what it is stands hidden. -/
theorem q_add2 {ops : Array Oper} {o : Oper} {a : Act} {C : World → Prop} {K : Act → Prop} {E : Prop} (hw : Region.wanted o (yielded ops a.tmps) = true) (x y : Operand) (t : TypeId) (ho : o.op = .binOp .add 9 x y t) (l m : List UInt8) (hx : a.eval x = sv l) (hy : a.eval y = sv m) (L : List UInt8) (hl : Hid (l = L)) (h : L.length + m.length ≤ 9223372036854775807)
    (hk : ∀ z, Hid (z = L ++ m) → K (a.put o.dst (sv z))) : if Region.wanted o (yielded ops a.tmps) = true then o.quiet Tryz.prog a C K else E :=
  q_add hw x y t ho l m hx hy (by rw [hl.out]; exact h) (hk _ (by show _ = _; rw [hl.out]))

end Go.Proofs.YtojgablpjdlegaaGreatDoor

/- The document's EncodeCommit. -/
namespace Go.Proofs.YtojgablpjdlegaaGreatDoor
open Go.RowKit Go.Shelf

theorem zero52 (w : World) : (zeroValue 52).run Tryz.prog w = .ok (cmv z20 (.slice none 0 0) [] [] []) w := by kernel_rfl

theorem wpList_add2 {ops : Array Oper} {rest : List Oper} {o : Oper} {a : Act} {w : World} {Q : Exit → Act → World → Prop} (hgd : o.guard = none) (x y : Operand) (t : TypeId) (ho : o.op = .binOp .add 9 x y t) (l m : List UInt8) (hx : a.eval x = sv l) (hy : a.eval y = sv m) (L : List UInt8) (hl : Hid (l = L)) (h : L.length + m.length ≤ 9223372036854775807)
    (hk : ∀ z, Hid (z = L ++ m) → wpList Tryz.prog ops Q rest (a.put o.dst (sv z)) w) : wpList Tryz.prog ops Q (o :: rest) a w := by
  refine wpList_plain hgd fun K hK => ?_
  have hle : l.length + m.length ≤ 9223372036854775807 := by rw [hl.out]; exact h
  have q : (9223372036854775807 < l.length + m.length) = False := by simp; omega
  have e := cat_sv l m
  unfold Oper.wp execOp
  simp only [ho, hx, hy]
  simp [go_sem, q, e]
  exact hK _ _ (hk _ (by show _ = _; rw [hl.out]))

set_option maxRecDepth 100000 in
set_option maxHeartbeats 4000000 in
theorem rencCommit_no (T : List Int) (v : Value) (A C M : List UInt8) (d : Array (List Int)) (B : Nat) (w : World) (hv : Dn B w v d) (hA : A.length ≤ 1000000) (hC : C.length ≤ 1000000) (hd : d.size < 90000) (hm : mb A C d.toList = false) :
    Calls Tryz.prog 42 #[cmv T v A C M] w fun e w' => e = .returned (.tuple #[nlv, .int .i64 1]) ∧ Below w.heap.size w w' := by
  have hz := zero52
  obtain ⟨ao, cap, hve⟩ := hv.shape
  obtain ⟨n, hn⟩ : ∃ n, n = d.size := ⟨_, rfl⟩
  rw [← hn] at hve
  subst hve
  obtain ⟨W, hW⟩ : ∃ W, W = w.alloc (Obj.cells (vals (cf T (.slice ao n cap) A C M) 24).toArray 52) := ⟨_, rfl⟩
  have bW : Below w.heap.size w W := by rw [hW]; exact new_below _ _
  have rW : W.rowIs w.heap.size 52 24 (cf T (.slice ao n cap) A C M) := by rw [hW]; exact rowIs_vals _ _ _ _
  have HB : Hid (Below w.heap.size w W) := bW
  have hv20 : (vals (cf T (.slice ao n cap) A C M) 24)[20]? = some (.slice ao n cap) := vals_get (cf T (.slice ao n cap) A C M) 24 20 (by omega)
  have HR : Hid (∀ V, Below W.heap.size W V → V.cell? ⟨w.heap.size, 21, none⟩ = some (sv A) ∧ V.cell? ⟨w.heap.size, 22, none⟩ = some (sv C)) := fun V hV => by
    have h := rowIs_fr (P := fun _ => False) rW (Fr.ofBelow hV) (fun h => h)
    exact ⟨h.cell (i := 21) (by omega), h.cell (i := 22) (by omega)⟩
  have htw := twice_any B (.slice ao n cap) d W (hv.keep bW) (by omega)
  have htA := fun V => rtext_any A 200 V hA
  have htC := fun V => rtext_any C 200 V hC
  unfold mb at hm
  rw [Array.length_toList, ← hn] at hm
  have hvd := hv
  clear bW hA hC rW hv hvd hd hn
  by_cases h5 : 512 < n
  · have d1 : decide ((512 : Int) < n) = true := by simp; omega
    have d2 : decide (512 < n) = true := by simp [h5]
    clear hm htw htA htC
    go_enter Tryz.func42, Tryz.ntmps42
    go_wp2_with fail
    go_ret2
    exact ⟨rfl, by rw [← hW]; exact HB.out⟩
  · have d1 : decide ((512 : Int) < n) = false := by simp; omega
    have d2 : decide (512 < n) = false := by simp; omega
    have d3 : decide (n ≤ 512) = true := by simp; omega
    rw [d3] at hm
    by_cases hnd : d.toList.Nodup
    · rw [decide_eq_false (not_not_intro hnd)] at htw
      rw [decide_eq_true hnd] at hm
      generalize txtB A 200 = ba at *
      generalize txtB C 200 = bc at *
      cases ba with
      | false =>
        clear hm
        go_enter Tryz.func42, Tryz.ntmps42
        go_wp2_with (first
          | (go_at_call 77; refine (htA w1).mono ?_; rintro e w3 ⟨rfl, hw3⟩; subst w3)
          | (go_at_call 76; rw [← hW]; refine htw.mono ?_; rintro e w1 ⟨rfl, b1⟩; have HB1 : Hid (Below W.heap.size W w1) := b1; obtain ⟨c21, c22⟩ := HR.out w1 b1; clear b1 hW htw))
        go_ret2
        exact ⟨rfl, HB.out.trans (HB1.out.mono HB.out.size)⟩
      | true =>
        cases bc with
        | false =>
          clear hm
          go_enter Tryz.func42, Tryz.ntmps42
          go_wp2_with (first
            | (go_at_call 77; refine (htA w1).mono ?_; rintro e w3 ⟨rfl, hw3⟩; subst w3; clear htA)
            | (go_at_call 77; refine (htC w1).mono ?_; rintro e w3 ⟨rfl, hw3⟩; subst w3)
            | (go_at_call 76; rw [← hW]; refine htw.mono ?_; rintro e w1 ⟨rfl, b1⟩; have HB1 : Hid (Below W.heap.size W w1) := b1; obtain ⟨c21, c22⟩ := HR.out w1 b1; clear b1 hW htw))
          go_ret2
          exact ⟨rfl, HB.out.trans (HB1.out.mono HB.out.size)⟩
        | true => exact absurd hm (by simp)
    · rw [decide_eq_true hnd] at htw
      clear hm htA htC
      go_enter Tryz.func42, Tryz.ntmps42
      go_wp2_with (first
        | (go_at_call 76; rw [← hW]; refine htw.mono ?_; rintro e w1 ⟨rfl, b1⟩; have HB1 : Hid (Below W.heap.size W w1) := b1; obtain ⟨c21, c22⟩ := HR.out w1 b1; clear b1 hW htw))
      go_ret2
      exact ⟨rfl, HB.out.trans (HB1.out.mono HB.out.size)⟩

end Go.Proofs.YtojgablpjdlegaaGreatDoor
