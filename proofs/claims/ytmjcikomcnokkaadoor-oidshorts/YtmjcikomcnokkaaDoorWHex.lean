/- A name by value; Hex. -/
import Derived.Test.YtmjcikomcnokkaaDoorHelp
import Derived.Test.YtmjcikomcnokkaaDoorOid
namespace Go.Proofs.YtmjcikomcnokkaaDoor
open Go.RowKit

/-- A name's cells. -/
def cl (x : List Int) (j : Nat) : Value := .int .u8 (bt x j)

/-- A name, by value. -/
abbrev idv (x : List Int) : Value := row (cl x) 20

/-- The sixteen signs. -/
abbrev sgs : ByteArray := { data := #[48, 49, 50, 51, 52, 53, 54, 55, 56, 57, 97, 98, 99, 100, 101, 102] }

theorem sgs_at (kk : IntKind) (k : Int) (h0 : 0 ≤ k) (h1 : k < 16) (w : World) : (Instr.index 9 (.string sgs) (.int kk k)).run Tryd.prog w = .ok (.int .u8 (sg k)) w := by
  obtain ⟨n, rfl⟩ : ∃ n : Nat, k = n := ⟨k.toNat, by omega⟩
  have hn : n < 16 := by omega
  match n, hn with
  | 0, _ | 1, _ | 2, _ | 3, _ | 4, _ | 5, _ | 6, _ | 7, _ | 8, _ | 9, _ | 10, _ | 11, _ | 12, _ | 13, _ | 14, _ | 15, _ => simp [Instr.index, asIntOf, run_underlying Tryd.underlying9, sg, go_sem]; try rfl

theorem u8_15 (v : Int) (h0 : 0 ≤ v) (h1 : v < 256) : bits .and .u8 v 15 = v % 16 := bits_mask .u8 8 (by decide) wraps_u8 4 (by decide) v h0 h1

theorem size23 : (Tryd.prog.info? 23).map (·.size) = some 20 := by kernel_rfl

theorem size22 : (Tryd.prog.info? 22).map (·.size) = some 20 := by kernel_rfl

theorem Rd.str {w : World} {ao : Option Addr} {n c : Nat} {xs : List Int} (h : Rd w ao n c xs) : (convert 55 9 (.slice ao n c)).run Tryd.prog w = .ok (.string (strOfNums xs)) w := by
  cases ao with
  | none =>
    obtain ⟨rfl, rfl⟩ := h.nul rfl
    have hx : xs = [] := List.eq_nil_of_length_eq_zero h.len
    subst hx
    rw [run_convert_bytes_nil w 55 5 Tryd.underlying55 Tryd.underlying5 0 0 9 Tryd.underlying9]
    rfl
  | some ad =>
    have hl : (loadCells ad n).run Tryd.prog w = .ok (xs.map (Value.int .u8)).toArray w := by
      have := run_loadCells_list (P := Tryd.prog) w ad (xs.map (Value.int .u8)) (h.cellsOf ad rfl)
      simpa [h.len] using this
    rw [run_convert_bytes_string w 55 9 5 _ n c Tryd.underlying55 Tryd.underlying5 Tryd.underlying9, run_bytesToString w _ n c xs hl, foldl_push_bytes]
    simp [strOfNums, ByteArray.empty, ByteArray.emptyWithCapacity]
    rfl

theorem two_rd (w : World) (a b : Int) (h : 0 ≤ a ∧ a < 256) (g : 0 ≤ b ∧ b < 256) : Rd (w.alloc (Obj.cells #[.int .u8 a, .int .u8 b] 5)) (some ⟨w.heap.size, 0, none⟩) 2 2 [a, b] :=
  Rd.ofRow (World.rowIs_alloc w #[.int .u8 a, .int .u8 b] 5 _ (fun i hi => by
    simp at hi
    rcases i with _ | _ | i <;> first | rfl | omega)) rfl (by intro x hx; simp at hx; omega)

theorem hx_take (x : List Int) (k : Nat) (h : k < x.length) : hx (x.take (k + 1)) = hx (x.take k) ++ [sg (bt x k / 16), sg (bt x k % 16)] := by
  rw [List.take_add_one, hx_app, List.getElem?_eq_getElem h]
  simp [hx, bt, List.getD, List.getElem?_eq_getElem h]

theorem id_index (ty : TypeId) (hu : Tryd.prog.underlying ty = some (.array 20 5)) (x : List Int) (i : Nat) (hi : i < 20) (w : World) : (Instr.index ty (idv x) (.int .i64 i)).run Tryd.prog w = .ok (.int .u8 (bt x i)) w :=
  run_index_row ty 5 20 .i64 _ i hi hu (fun w => by simp [go_sem]) (fun w => by simp [go_sem]) w

set_option maxRecDepth 100000 in
set_option maxHeartbeats 4000000 in
theorem hex_any (x : List Int) (hx0 : IsId x) (w : World) : Calls Tryd.prog 11 #[idv x] w fun e w' => e = .returned (.string (strOfNums (hx x))) ∧ Below w.heap.size w w' := by
  obtain ⟨i0, hi, hz0, hz1, hz2⟩ := info_parts Tryd.info5
  go_enter Tryd.func11, Tryd.ntmps11
  have hb0 := rowIs_vals w (cl x) 20 23
  have hB0 : Below w.heap.size w (w.alloc (.cells (vals (cl x) 20).toArray 23)) := new_below _ _
  have HB0 : Hid (Below w.heap.size w (w.alloc (.cells (vals (cl x) 20).toArray 23))) := hB0
  clear hB0
  go_wp2_with (first
    | (refine wpList_ld0 rfl 23 _ rfl w.heap.size rfl _ hb3 20 (by omega) Tryd.underlying23 rfl size23 ?_; clear hb3)
    | (at_make; refine wpList_make_own _ rfl _ _ 55 rfl w.heap.size 5 i0 (.int .u8 0) 1 Tryd.underlying55 hi hz0 hz1 _ _ _ 40 rfl rfl rfl (by rw [hz2]; omega) (by unfold maxLen; omega) (by simp) ?_; intro w3 hown3 hgrow3; have hb3 := rowIs_fr hb0 ((Fr.refl (fun _ => False) _).grown hgrow3 (fun k _ e => by cases e)) (fun h => h); clear hb0))
  have B3 : Hid (Below w.heap.size w w3) := HB0.out.grown hgrow3 (by simp) (fun q hq => by cases hq)
  have o3 : w3.ownsRow w.heap.size 5 1 (.slice (some ⟨w.heap.size + 1, 0, none⟩) 0 40) 0 [] := by simpa using hown3
  have O3 : Hid (w3.ownsRow w.heap.size 5 1 (.slice (some ⟨w.heap.size + 1, 0, none⟩) 0 40) 0 []) := o3
  clear hown3 hgrow3 HB0 o3
  have e20 := hx0.1
  go_loopw [3, 8] (fun o i wr => ∃ (k g cap : Nat), k ≤ 20 ∧ i = .int .i64 k ∧ o = .slice (some ⟨g, 0, none⟩) (2 * k) cap ∧ Hid (wr.ownsRow w.heap.size 5 1 (.slice (some ⟨g, 0, none⟩) (2 * k) cap) (2 * k) ((hx (x.take k)).map (Value.int .u8))) ∧ Hid (Below w.heap.size w wr)) (fun _ i _ => 20 - (intOf i).toNat)
  case atStart => exact ⟨0, _, _, by omega, rfl, by simp, O3.out, B3⟩
  case round =>
    obtain ⟨k, g, cap, hk, rfl, rfl, hown, hb⟩ := hrel
    clear O3 B3
    by_cases hlt : k < 20
    · have hbt := hx0.at k hlt
      have e1 := hx_take x k (by omega)
      have hix := fun W => id_index 23 Tryd.underlying23 x k hlt W
      have hs1 := fun W => sgs_at .u8 (bt x k / 16) (by omega) (by omega) W
      have hs2 := fun W => sgs_at .u8 (bt x k % 16) (by omega) (by omega) W
      have hm := u8_15 (bt x k) hbt.1 hbt.2
      have b1 := sg_b (bt x k / 16) (by omega) (by omega)
      have b2 := sg_b (bt x k % 16) (by omega) (by omega)
      have E1 : Hid (hx (x.take (k + 1)) = hx (x.take k) ++ [sg (bt x k / 16), sg (bt x k % 16)]) := e1
      clear e1
      generalize bt x k = c at *
      have rd2 := two_rd wr.drew (sg (c / 16)) (sg (c % 16)) b1 b2
      have sz2 : w.heap.size ≤ (wr.drew.alloc (Obj.cells #[.int .u8 (sg (c / 16)), .int .u8 (sg (c % 16))] 5)).heap.size := by have := hb.out.size; simp; omega
      have hb2 : Hid (Below w.heap.size w (wr.drew.alloc (Obj.cells #[.int .u8 (sg (c / 16)), .int .u8 (sg (c % 16))] 5))) := (Below.trans (c := wr.drew) hb.out ⟨rfl, rfl, rfl, Nat.le_refl _, fun _ _ => rfl⟩).alloc hb.out.size _
      have own2 : (wr.drew.alloc (Obj.cells #[.int .u8 (sg (c / 16)), .int .u8 (sg (c % 16))] 5)).ownsRow w.heap.size 5 1 (.slice (some ⟨g, 0, none⟩) (2 * k) cap) (2 * k) ((hx (x.take k)).map (Value.int .u8)) := hown.out.drew.alloc _
      have gb : w.heap.size ≤ g := own_base hown.out
      go_wp2_with fail
      go_region_law (refine step_append_rd (w := wr.drew.alloc (Obj.cells #[.int .u8 (sg (c / 16)), .int .u8 (sg (c % 16))] 5)) (by rfl) (.tmp 11) (.tmp 18) (by rfl) w.heap.size g (2 * k) cap (hx (x.take k)) (by rfl) own2 (some ⟨wr.heap.size, 0, none⟩) 2 2 _ (by rfl) rd2 (by omega) sz2 (2 * (k + 1)) (by omega) (hx (x.take (k + 1))) E1.out ?_; intro g' cap' w4 hown4 hg4)
      all_goals
        have B4 : Hid (Below w.heap.size w w4) := hb2.out.grown hg4 sz2 (fun q hq => by cases hq; exact gb)
        have O4 : Hid (w4.ownsRow w.heap.size 5 1 (.slice (some ⟨g', 0, none⟩) (2 * (k + 1)) cap') (2 * (k + 1)) ((hx (x.take (k + 1))).map (Value.int .u8))) := hown4
        clear hown4 hg4 hb2 own2 rd2 hown hb
        simp only [List.getElem_toArray, List.getElem_cons_zero, List.getElem_cons_succ, Act.put, List.setIfInBounds_toArray, List.set_cons_zero, List.set_cons_succ]
        go_wp2_with fail
        go_roundw
        case rel => exact ⟨k + 1, g', cap', by omega, by go_num, rfl, O4, B4⟩
        case measure => simp [intOf]; omega
    · obtain rfl : k = 20 := by omega
      have ho := hown.out
      rw [List.take_of_length_le (by omega)] at ho
      have hbx := fun c hc => (hx_byt x hx0.2 c hc).2
      obtain ⟨ao, c, e, hrd, _⟩ := own_rd ho hbx
      injection e with e1 e2 e3
      subst e1 e3
      have hs := hrd.str
      clear hown ho hrd
      go_wp2
      go_ret
      exact ⟨rfl, hb.out⟩

end Go.Proofs.YtmjcikomcnokkaaDoor
