/- known. -/
import Derived.Test.YtmjcikomcnokkaaDoorWSort
import Derived.Test.YtmjcikomcnokkaaDoorWPar
namespace Go.Proofs.YtmjcikomcnokkaaDoor
open Go.RowKit Go.Shelf

/-- The name that is known, and its text. -/
def kid : List Int := [1, 35, 69, 103, 137, 171, 205, 239, 1, 35, 69, 103, 137, 171, 205, 239, 1, 35, 69, 103]

abbrev klit : ByteArray := { data := #[48, 49, 50, 51, 52, 53, 54, 55, 56, 57, 97, 98, 99, 100, 101, 102, 48, 49, 50, 51, 52, 53, 54, 55, 56, 57, 97, 98, 99, 100, 101, 102, 48, 49, 50, 51, 52, 53, 54, 55] }

abbrev kupp : ByteArray := { data := #[48, 49, 50, 51, 52, 53, 54, 55, 56, 57, 65, 66, 67, 68, 69, 70, 48, 49, 50, 51, 52, 53, 54, 55, 56, 57, 97, 98, 99, 100, 101, 102, 48, 49, 50, 51, 52, 53, 54, 55] }

theorem kid_id : IsId kid := ⟨rfl, by decide⟩

theorem par_k : par (ns klit) = (kid, 0) := by decide +kernel

theorem par_u : par (ns kupp) = (z20, 2) := by decide +kernel

theorem hex_k : strOfNums (hx kid) = klit := by
  have : (strOfNums (hx kid)).data = klit.data := by decide +kernel
  exact ByteArray.ext this

theorem less_k : ltl z20 kid = true := by decide +kernel

theorem z20_id : IsId z20 := ⟨rfl, by decide⟩

theorem wpList_ldw {ops : Array Oper} {rest : List Oper} {op : Oper} {a : Act} {w : World} {Q : Exit → Act → World → Prop} (hw : Region.wanted op (yielded ops a.tmps) = true) (ty : TypeId) (x : Operand) (ho : op.op = .load ty x)
    (ad : Addr) (hx : a.eval x = .pointer (some ad)) (v : Value) (hr : (loadVar ty ad).run Tryd.prog w = .ok v w)
    (hk : wpList Tryd.prog ops Q rest (a.put op.dst v) w) : wpList Tryd.prog ops Q (op :: rest) a w := by
  unfold wpList
  rw [if_pos hw]
  refine .inl ?_
  unfold Oper.wp execOp
  simp only [ho, hx, Instr.loadAt, Instr.sureAddr, Sem.run_bind, Sem.run_pure, Result.andThen_ok, hr]
  exact hk

theorem row_load {w : World} {b : Nat} {x : List Int} (h : w.rowIs b 23 20 (cl x)) : (loadVar 23 ⟨b, 0, none⟩).run Tryd.prog w = .ok (idv x) w := load_all (P := Tryd.prog) 23 _ h Tryd.underlying23 rfl size23

theorem st_new {w w' : World} (hf : Fr (fun k => k = w.heap.size) (w.alloc (Obj.cells zcs 23)) w') : Below w.heap.size w w' := new_fr hf

/-- The cells of the name, twice. -/
abbrev kcs : Array Value := List.foldl (fun cs x => cs.setIfInBounds (20 + x.snd) x.fst) (List.foldl (fun cs x => cs.setIfInBounds x.snd x.fst) #[.int .u8 0, .int .u8 0, .int .u8 0, .int .u8 0, .int .u8 0, .int .u8 0, .int .u8 0, .int .u8 0, .int .u8 0, .int .u8 0, .int .u8 0, .int .u8 0, .int .u8 0, .int .u8 0, .int .u8 0, .int .u8 0, .int .u8 0, .int .u8 0, .int .u8 0, .int .u8 0, .int .u8 0, .int .u8 0, .int .u8 0, .int .u8 0, .int .u8 0, .int .u8 0, .int .u8 0, .int .u8 0, .int .u8 0, .int .u8 0, .int .u8 0, .int .u8 0, .int .u8 0, .int .u8 0, .int .u8 0, .int .u8 0, .int .u8 0, .int .u8 0, .int .u8 0, .int .u8 0] (vals (cl kid) 20).zipIdx) (vals (cl kid) 20).zipIdx

theorem kcs_eq : kcs = (fl #[kid, kid]).toArray := by kernel_rfl

theorem k_is (w : World) : Is (w.alloc (Obj.cells kcs 23)) (.slice (some ⟨w.heap.size, 0, none⟩) 2 2) #[kid, kid] := by
  have hr : (w.alloc (Obj.cells kcs 23)).rowIs w.heap.size 23 40 (fun j => (fl #[kid, kid]).getD j undef) := by
    have hl : (fl #[kid, kid]).length = 40 := by rw [fl_len]; rfl
    have := World.rowIs_alloc w kcs 23 (fun j => (fl #[kid, kid]).getD j undef) (fun i hi => by
      rw [kcs_eq] at hi ⊢
      have hi' : i < (fl #[kid, kid]).length := by simpa using hi
      show (fl #[kid, kid]).toArray[i]? = some ((fl #[kid, kid]).getD i undef)
      rw [List.getD, List.getElem?_toArray, List.getElem?_eq_getElem hi']
      rfl)
    rwa [show kcs.size = 40 by rw [kcs_eq]; simpa using hl] at this
  refine Rw.is (N := 40) (d := #[kid, kid]) ⟨⟨_, hr, fun i hi j hj => ?_⟩, by decide, fun i hi => ?_⟩ 2 (Nat.le_refl _)
  · show (fl #[kid, kid]).getD (i * 20 + j) undef = _
    rw [List.getD, fl_get _ i j hi hj]
    rfl
  · have : i < 2 := hi
    match i, this with
    | 0, _ => exact kid_id
    | 1, _ => exact kid_id

theorem one_of {r : Array (List Int)} (h : Srt #[kid, kid] r) : r.size = 1 := by
  have hall : ∀ x ∈ r.toList, x = kid := fun x hx => by
    have := (h.2 x).1 hx
    simpa using this
  have hk : kid ∈ r.toList := (h.2 kid).2 (by simp)
  have hi := h.1
  match hr : r.toList, hk, hall, hi with
  | [], hk, _, _ => cases hk
  | [x], _, _, _ =>
    have : r.toList.length = 1 := by rw [hr]; rfl
    simpa using this
  | x :: y :: t, _, hall, hi =>
    exfalso
    have hx := hall x (by simp)
    have hy := hall y (by simp)
    have := (List.pairwise_cons.1 hi).1 y (by simp)
    rw [hx, hy, ltl_irr] at this
    cases this

theorem sort_k (w : World) : Calls Tryd.prog 13 #[.slice (some ⟨w.heap.size, 0, none⟩) 2 2] (w.alloc (Obj.cells kcs 23)) fun e w' => ∃ ao c, e = .returned (.slice ao 1 c) ∧ Below w.heap.size w w' := by
  refine (Sort_any 2 (pdq_is_small 2 (by omega)) _ 2 #[kid, kid] _ (k_is w) rfl (by omega)).mono ?_
  rintro e w' ⟨v, r, rfl, hs, _, hN, hB⟩
  have h1 := one_of hs
  have hb : Below w.heap.size w w' := ((Below.refl _ _).alloc (Nat.le_refl _) _).trans (hB.mono (by simp))
  rcases hN with ⟨h0, _⟩ | ⟨_, b, c, rfl, _⟩
  · omega
  · exact ⟨_, c, by rw [h1], hb⟩

set_option maxRecDepth 100000 in
set_option maxHeartbeats 4000000 in
theorem known_yes (w : World) : Calls Tryd.prog 8 #[] w fun e w' => e = .returned (.bool true) ∧ Below w.heap.size w w' := by
  have p1 := fun W => parse_any klit W (by decide)
  have p2 := fun W => parse_any kupp W (by decide)
  rw [par_k] at p1
  rw [par_u] at p2
  have h11 := fun W => hex_any kid kid_id W
  rw [hex_k] at h11
  have h21 := fun W => less_any z20 kid z20_id kid_id W
  rw [less_k] at h21
  have hbd : ∀ W, (Instr.build 23 #[]).run Tryd.prog W = .ok (idv z20) W := fun W => by rw [← z_agg]; simp [go_sem]
  go_enter Tryd.func8, Tryd.ntmps8
  go_wp2_with (first
    | (go_at_call 9; refine (p1 _).mono ?_; rintro e w1 ⟨rfl, b1⟩; have B1 : Hid (Below w.heap.size w w1) := b1; have z1 := z_row w1 23; clear b1 p1)
    | (refine wpList_st rfl 23 _ _ rfl w1.heap.size rfl (cl kid) rfl z1 size23 (fun j => rfl) ?_; intro w2 r2 f2; have B2 : Hid (Below w.heap.size w w2) := B1.out.trans ((st_new (w := w1) f2).mono B1.out.size); have S2 : Hid (w1.heap.size < w2.heap.size) := r2.lt; clear z1 f2)
    | (go_at_call 9; refine (p2 _).mono ?_; rintro e w3 ⟨rfl, b3⟩; have r3 := rowIs_fr r2 (Fr.ofBelow (P := fun _ => False) b3) (fun h => h); have B3 : Hid (Below w.heap.size w w3) := B2.out.trans (b3.mono B2.out.size); have z3 := z_row w3 23; have S3 : Hid (w1.heap.size < w3.heap.size) := Nat.lt_of_lt_of_le S2.out b3.size; clear b3 p2 r2)
    | (refine wpList_st rfl 23 _ _ rfl w3.heap.size rfl (cl z20) rfl z3 size23 (fun j => rfl) ?_; intro w4 r4 f4; have r4' := rowIs_fr (r3.alloc (Obj.cells zcs 23)) f4 (by have := S3.out; omega); have B4 : Hid (Below w.heap.size w w4) := B3.out.trans ((st_new (w := w3) f4).mono B3.out.size); have c4 : w4.cell? ⟨w1.heap.size, 1, none⟩ = some (.int .u8 35) := r4'.cell (i := 1) (by omega); have l4 : Hid _ := row_load r4'; have R4 : Hid _ := r4'; clear z3 f4 r4 r3 r4')
    | (refine wpList_ldw (by rfl) 23 _ rfl ⟨w1.heap.size, 0, none⟩ rfl (idv kid) l4.out ?_)
    | (go_at_call 11; refine (h11 _).mono ?_; rintro e w5 ⟨rfl, b5⟩; have r5 := rowIs_fr R4.out (Fr.ofBelow (P := fun _ => False) b5) (fun h => h); have B5 : Hid (Below w.heap.size w w5) := B4.out.trans (b5.mono B4.out.size); have l5 : Hid _ := row_load r5; have R5 : Hid _ := r5; clear b5 r5 c4)
    | (refine wpList_ldw (by rfl) 23 _ rfl ⟨w1.heap.size, 0, none⟩ rfl (idv kid) l5.out ?_)
    | (go_at_call 13; refine (sort_k _).mono ?_; rintro e w6 ⟨ao, c6, rfl, b6⟩; have r6 := rowIs_fr R5.out (Fr.ofBelow (P := fun _ => False) b6) (fun h => h); have B6 : Hid (Below w.heap.size w w6) := B5.out.trans (b6.mono B5.out.size); have l6 : Hid _ := row_load r6; clear b6 r6)
    | (refine wpList_ldw (by rfl) 23 _ rfl ⟨w1.heap.size, 0, none⟩ rfl (idv kid) l6.out ?_)
    | (go_at_call 21; refine (h21 _).mono ?_; rintro e w7 ⟨rfl, b7⟩; have B7 : Hid (Below w.heap.size w w7) := B6.out.trans (b7.mono B6.out.size); clear b7))
  go_ret
  exact ⟨rfl, B7.out⟩

end Go.Proofs.YtmjcikomcnokkaaDoor
