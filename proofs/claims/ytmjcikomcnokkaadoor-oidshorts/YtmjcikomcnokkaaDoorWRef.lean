/- The document's Hex, digit; signs of a text. -/
import Derived.Test.YtmjcikomcnokkaaDoorWHex
namespace Go.Proofs.YtmjcikomcnokkaaDoor
open Go.RowKit

/-- 'append(v, ys...)' as one step of a region that draws its order, v the call's own or nil. -/
theorem step_append_v {w : World} {ops : Array Oper} {o : Oper} {a : Act} {K : Act → World → Prop} {Q : Exit → Act → World → Prop} {E : Prop} (hgd : o.guard = none) (s x : Operand)
    (ho : o.op = .call { callee := .builtin .append, args := #[s, x], argTypes := #[55, 55] })
    (base n : Nat) (v : Value) (xs : List Int) (hs : a.eval s = v) (hown : w.ownsRow base 5 1 v n (xs.map (Value.int .u8)))
    (ad : Addr) (m c : Nat) (ys : List Int) (hx : a.eval x = .slice (some ad) m c) (hr : Rd w (some ad) m c ys) (hlim : n + m ≤ 140737488355328) (hbase : base ≤ w.heap.size) (nm : Nat) (hnm : nm = n + m) (zs : List Int) (hzs : zs = xs ++ ys)
    (h : ∀ v' w', w'.ownsRow base 5 1 v' nm (zs.map (Value.int .u8)) → w.grownBy w' v.ownBlock → K (a.put o.dst v') w') :
    if Region.wanted o (yielded ops a.tmps) = true then Oper.wp Tryd.prog o a w K Q else E := by
  obtain ⟨i0, hi, hz0, hz1, hz2⟩ := info_parts Tryd.info5
  have hw : Region.wanted o (yielded ops a.tmps) = true := by simp [Region.wanted, hgd]
  rw [if_pos hw]
  subst hnm hzs
  refine wp_append_own w s x 55 ho base 5 i0 (.int .u8 0) 1 1 Tryd.underlying55 hi hz0 hz1 hz2 rfl (by decide) _ n _ hs hown ad m c (ys.map (Value.int .u8)) hx (by simpa using hr.len) (hr.cellsOf ad rfl) (ints_oneCell _ _)
    (by unfold maxLen; omega) (by omega) hbase ?_
  intro v' w' h1 h2 _
  exact h v' w' (by simpa using h1) h2

set_option maxRecDepth 100000 in
set_option maxHeartbeats 4000000 in
theorem rhex_any (x : List Int) (hx0 : IsId x) (w : World) : Calls Tryd.prog 12 #[idv x] w fun e w' => e = .returned (.string (strOfNums (hx x))) ∧ Below w.heap.size w w' := by
  have hb0 := rowIs_vals w (cl x) 20 22
  have hB0 : Hid (Below w.heap.size w (w.alloc (.cells (vals (cl x) 20).toArray 22))) := new_below _ _
  have e20 := hx0.1
  go_enter Tryd.func12, Tryd.ntmps12
  go_wp2_with fail
  go_loopw [4, 5] (fun o i wr => ∃ (k : Nat), k ≤ 20 ∧ i = .int .i64 k ∧ Hid (wr.ownsRow (w.heap.size + 1) 5 1 o (2 * k) ((hx (x.take k)).map (Value.int .u8))) ∧ Hid (wr.rowIs w.heap.size 22 20 (cl x)) ∧ Hid (Below w.heap.size w wr)) (fun _ i _ => 20 - (intOf i).toNat)
  case atStart => exact ⟨0, by omega, rfl, World.ownsRow_nil _ _ _ _, hb0, hB0⟩
  case round =>
    obtain ⟨k, hk, rfl, hown, hrow, hb⟩ := hrel
    clear hb0 hB0
    by_cases hlt : k < 20
    · have hbt := hx0.at k hlt
      have e1 := hx_take x k (by omega)
      have hs1 := fun W => sgs_at .u8 (bt x k / 16) (by omega) (by omega) W
      have hs2 := fun W => sgs_at .u8 (bt x k % 16) (by omega) (by omega) W
      have hm := u8_15 (bt x k) hbt.1 hbt.2
      have b1 := sg_b (bt x k / 16) (by omega) (by omega)
      have b2 := sg_b (bt x k % 16) (by omega) (by omega)
      have E1 : Hid (hx (x.take (k + 1)) = hx (x.take k) ++ [sg (bt x k / 16), sg (bt x k % 16)]) := e1
      have hcell : wr.cell? ⟨w.heap.size, k, none⟩ = some (.int .u8 (bt x k)) := hrow.out.cell (i := k) hlt
      clear e1
      generalize bt x k = c at *
      have rd2 := two_rd wr.drew (sg (c / 16)) (sg (c % 16)) b1 b2
      have sz1 : w.heap.size < wr.heap.size := hrow.out.lt
      have sz2 : w.heap.size + 1 ≤ (wr.drew.alloc (Obj.cells #[.int .u8 (sg (c / 16)), .int .u8 (sg (c % 16))] 5)).heap.size := by simp; omega
      have hb2 : Hid (Below w.heap.size w (wr.drew.alloc (Obj.cells #[.int .u8 (sg (c / 16)), .int .u8 (sg (c % 16))] 5))) := (Below.trans (c := wr.drew) hb.out ⟨rfl, rfl, rfl, Nat.le_refl _, fun _ _ => rfl⟩).alloc hb.out.size _
      have own2 : (wr.drew.alloc (Obj.cells #[.int .u8 (sg (c / 16)), .int .u8 (sg (c % 16))] 5)).ownsRow (w.heap.size + 1) 5 1 u4 (2 * k) ((hx (x.take k)).map (Value.int .u8)) := hown.out.drew.alloc _
      have gb : Hid (∀ q, u4.ownBlock = some q → w.heap.size + 1 ≤ q ∧ q < wr.heap.size) := fun q hq => hown.out.lt q hq
      have row2 : Hid ((wr.drew.alloc (Obj.cells #[.int .u8 (sg (c / 16)), .int .u8 (sg (c % 16))] 5)).rowIs w.heap.size 22 20 (cl x)) := World.rowIs.alloc (w := wr.drew) hrow.out _
      go_wp2_with fail
      go_region_law (refine step_append_v (w := wr.drew.alloc (Obj.cells #[.int .u8 (sg (c / 16)), .int .u8 (sg (c % 16))] 5)) (by rfl) (.tmp 10) (.tmp 23) (by rfl) (w.heap.size + 1) (2 * k) u4 (hx (x.take k)) (by rfl) own2 ⟨wr.heap.size, 0, none⟩ 2 2 _ (by rfl) rd2 (by omega) sz2 (2 * (k + 1)) (by omega) (hx (x.take (k + 1))) E1.out ?_; intro v' w4 hown4 hg4)
      all_goals
        have B4 : Hid (Below w.heap.size w w4) := hb2.out.grown hg4 (by omega) (fun q hq => by have := gb.out q hq; omega)
        have R4 : Hid (w4.rowIs w.heap.size 22 20 (cl x)) := rowIs_fr row2.out ((Fr.refl (fun k => u4.ownBlock = some k) _).grown hg4 (fun k _ e => e)) (fun e => by have := gb.out _ e; omega)
        have O4 : Hid (w4.ownsRow (w.heap.size + 1) 5 1 v' (2 * (k + 1)) ((hx (x.take (k + 1))).map (Value.int .u8))) := hown4
        clear hown4 hg4 hb2 own2 rd2 hown hb row2 hrow
        simp only [List.getElem_toArray, List.getElem_cons_zero, List.getElem_cons_succ, Act.put, List.setIfInBounds_toArray, List.set_cons_zero, List.set_cons_succ]
        go_wp2_with fail
        go_roundw
        case rel => exact ⟨k + 1, by omega, by go_num, O4, R4, B4⟩
        case measure => simp [intOf]; omega
    · obtain rfl : k = 20 := by omega
      have ho := hown.out
      rw [List.take_of_length_le (by omega)] at ho
      have hbx := fun c hc => (hx_byt x hx0.2 c hc).2
      obtain ⟨ao, c, rfl, hrd, _⟩ := own_rd ho hbx
      have hs := hrd.str
      clear hown ho hrd
      go_wp2
      go_ret
      exact ⟨rfl, hb.out⟩

/-- A text's bytes. -/
def ns (s : ByteArray) : List Int := s.data.toList.map fun b => (b.toNat : Int)

theorem ns_len (s : ByteArray) : (ns s).length = s.size := by
  unfold ns
  rw [List.length_map, Array.length_toList]
  rfl

theorem ns_byt (s : ByteArray) : ∀ c ∈ ns s, 0 ≤ c ∧ c < 256 := by
  intro c hc
  unfold ns at hc
  obtain ⟨b, _, rfl⟩ := List.mem_map.1 hc
  have := b.toNat_lt
  omega

theorem str_ns (s : ByteArray) : strOfNums (ns s) = s := by
  unfold strOfNums ns
  rw [List.map_map]
  have : ((fun n : Int => UInt8.ofNat n.toNat) ∘ fun b : UInt8 => (b.toNat : Int)) = id := by
    funext b
    simp
  rw [this, List.map_id]

theorem ns_str (xs : List Int) (h : ∀ c ∈ xs, 0 ≤ c ∧ c < 256) : ns (strOfNums xs) = xs := by
  unfold ns
  rw [strOfNums_data, List.map_map]
  conv => rhs; rw [← List.map_id xs]
  apply List.map_congr_left
  intro c hc
  have := h c hc
  simp only [Function.comp, id]
  rw [UInt8.toNat_ofNat']
  omega

theorem str_at (s : ByteArray) (k : Nat) (h : k < s.size) (w : World) : (Instr.index 9 (.string s) (.int .i64 k)).run Tryd.prog w = .ok (.int .u8 (bt (ns s) k)) w := by
  have e : bt (ns s) k = (s[k]'h).toNat := by
    rw [bt_get (by rw [ns_len]; exact h)]
    simp [ns, ByteArray.getElem_eq_getElem_data]
  rw [e]
  simp [Instr.index, asIntOf, run_underlying Tryd.underlying9, h, go_sem]

theorem digit_any (c : Int) (h0 : 0 ≤ c) (h1 : c < 256) (w : World) : Calls Tryd.prog 28 #[.int .u8 c] w fun e w' => e = .returned (.int .i64 (if isS c then dg c else -1)) ∧ w' = w := by
  by_cases a1 : 48 ≤ c
  · by_cases a2 : c ≤ 57
    · have e : (if isS c then dg c else -1) = c - 48 := by rw [if_pos (Or.inl ⟨a1, a2⟩)]; unfold dg; rw [if_pos a2]
      rw [e]
      have w1 : IntKind.u8.wrap (c - 48) = c - 48 := wraps_u8 _ (by omega) (by omega)
      clear e
      go_enter Tryd.func28, Tryd.ntmps28
      go_wp2
      go_ret
      exact ⟨rfl, rfl⟩
    · by_cases a3 : 97 ≤ c
      · by_cases a4 : c ≤ 102
        · have e : (if isS c then dg c else -1) = c - 97 + 10 := by rw [if_pos (Or.inr ⟨a3, a4⟩)]; unfold dg; rw [if_neg a2]; omega
          rw [e]
          have w1 : IntKind.u8.wrap (c - 97) = c - 97 := wraps_u8 _ (by omega) (by omega)
          clear e
          go_enter Tryd.func28, Tryd.ntmps28
          go_wp2
          go_ret
          exact ⟨rfl, rfl⟩
        · have e : (if isS c then dg c else -1) = -1 := if_neg (by unfold isS; omega)
          rw [e]
          clear e
          go_enter Tryd.func28, Tryd.ntmps28
          go_wp2
          go_ret
          exact ⟨rfl, rfl⟩
      · have e : (if isS c then dg c else -1) = -1 := if_neg (by unfold isS; omega)
        rw [e]
        clear e
        go_enter Tryd.func28, Tryd.ntmps28
        go_wp2
        go_ret
        exact ⟨rfl, rfl⟩
  · have e : (if isS c then dg c else -1) = -1 := if_neg (by unfold isS; omega)
    rw [e]
    clear e
    go_enter Tryd.func28, Tryd.ntmps28
    go_wp2
    go_ret
    exact ⟨rfl, rfl⟩

end Go.Proofs.YtmjcikomcnokkaaDoor
