/- Oid, WHex, WRef. -/
import Derived.WalkKit
import Derived.Test.YtojgablpjdlegaaGreatDoorM02
/- Names of objects as lists of twenty numbers; their signs. -/
namespace Go.Proofs.YtojgablpjdlegaaGreatDoor
open Go.RowKit

/-- A number below sixteen as a sign. -/
def sg (k : Int) : Int := if k < 10 then 48 + k else 87 + k

/-- The signs of some bytes. -/
def hx : List Int → List Int
  | [] => []
  | b :: r => sg (b / 16) :: sg (b % 16) :: hx r

/-- Is it a sign? -/
abbrev isS (c : Int) : Prop := (48 ≤ c ∧ c ≤ 57) ∨ (97 ≤ c ∧ c ≤ 102)

/-- A sign's number. -/
def dg (c : Int) : Int := if c ≤ 57 then c - 48 else c - 87

/-- Signs as bytes, two each. -/
def pr : List Int → List Int
  | a :: b :: r => (16 * dg a + dg b) :: pr r
  | _ => []

/-- A name. -/
def IsId (x : List Int) : Prop := x.length = 20 ∧ ∀ b ∈ x, 0 ≤ b ∧ b < 256


theorem sg_is (k : Int) (h0 : 0 ≤ k) (h1 : k < 16) : isS (sg k) := by unfold isS sg; split <;> omega

theorem dg_sg (k : Int) (h0 : 0 ≤ k) (h1 : k < 16) : dg (sg k) = k := by unfold dg sg; split <;> split <;> omega

theorem sg_dg (c : Int) (h : isS c) : sg (dg c) = c := by unfold isS at h; unfold dg sg; split <;> split <;> omega

theorem dg_b (c : Int) (h : isS c) : 0 ≤ dg c ∧ dg c < 16 := by unfold isS at h; unfold dg; split <;> omega

theorem sg_b (k : Int) (h0 : 0 ≤ k) (h1 : k < 16) : 0 ≤ sg k ∧ sg k < 256 := by unfold sg; split <;> omega

theorem sg_inj (a b : Int) (h0 : 0 ≤ a) (h1 : a < 16) (g0 : 0 ≤ b) (g1 : b < 16) (e : sg a = sg b) : a = b := by rw [← dg_sg a h0 h1, e, dg_sg b g0 g1]

theorem sg_lt (a b : Int) (h1 : a < 16) (g1 : b < 16) (h0 : 0 ≤ a) (g0 : 0 ≤ b) : sg a < sg b ↔ a < b := by unfold sg; split <;> split <;> omega

theorem hx_len (x : List Int) : (hx x).length = 2 * x.length := by
  induction x with
  | nil => rfl
  | cons b r ih => simp [hx, ih]; omega

theorem hx_app (x y : List Int) : hx (x ++ y) = hx x ++ hx y := by
  induction x with
  | nil => rfl
  | cons b r ih => simp [hx, ih]

theorem hx_byt (x : List Int) (h : ∀ b ∈ x, 0 ≤ b ∧ b < 256) : ∀ c ∈ hx x, isS c ∧ 0 ≤ c ∧ c < 256 := by
  induction x with
  | nil => simp [hx]
  | cons b r ih =>
    have hb := h b (by simp)
    have i := ih (fun c hc => h c (by simp [hc]))
    intro c hc
    simp only [hx, List.mem_cons] at hc
    rcases hc with rfl | rfl | hc
    · exact ⟨sg_is _ (by omega) (by omega), sg_b _ (by omega) (by omega)⟩
    · exact ⟨sg_is _ (by omega) (by omega), sg_b _ (by omega) (by omega)⟩
    · exact i c hc

theorem pr_hx (x : List Int) (h : ∀ b ∈ x, 0 ≤ b ∧ b < 256) : pr (hx x) = x := by
  induction x with
  | nil => rfl
  | cons b r ih =>
    have hb := h b (by simp)
    have i := ih (fun c hc => h c (by simp [hc]))
    simp only [hx, pr, i, dg_sg (b / 16) (by omega) (by omega), dg_sg (b % 16) (by omega) (by omega)]
    congr 1
    omega

theorem hx_pr : ∀ (s : List Int), s.length % 2 = 0 → (∀ c ∈ s, isS c) → hx (pr s) = s
  | [], _, _ => rfl
  | [a], h, _ => by simp at h
  | a :: b :: r, h, hs => by
    have ha := hs a (by simp)
    have hb := hs b (by simp)
    have da := dg_b a ha
    have db := dg_b b hb
    have e1 : (16 * dg a + dg b) / 16 = dg a := by omega
    have e2 : (16 * dg a + dg b) % 16 = dg b := by omega
    have i := hx_pr r (by simp at h; omega) (fun c hc => hs c (by simp [hc]))
    simp only [pr, hx, e1, e2, sg_dg a ha, sg_dg b hb, i]

theorem pr_len : ∀ (s : List Int), (pr s).length = s.length / 2
  | [] => rfl
  | [a] => by simp [pr]
  | a :: b :: r => by simp [pr, pr_len r]; omega

theorem pr_byt : ∀ (s : List Int), (∀ c ∈ s, isS c) → ∀ b ∈ pr s, 0 ≤ b ∧ b < 256
  | [], _, b, h => by simp [pr] at h
  | [a], _, b, h => by simp [pr] at h
  | x :: y :: r, hs, b, h => by
    have dx := dg_b x (hs x (by simp))
    have dy := dg_b y (hs y (by simp))
    simp only [pr, List.mem_cons] at h
    rcases h with rfl | h
    · omega
    · exact pr_byt r (fun c hc => hs c (by simp [hc])) b h

theorem pr_id (s : List Int) (hl : s.length = 40) (hs : ∀ c ∈ s, isS c) : IsId (pr s) := ⟨by rw [pr_len, hl], pr_byt s hs⟩

theorem hx_inj (x y : List Int) (hx' : ∀ b ∈ x, 0 ≤ b ∧ b < 256) (hy : ∀ b ∈ y, 0 ≤ b ∧ b < 256) (e : hx x = hx y) : x = y := by
  rw [← pr_hx x hx', e, pr_hx y hy]

/-- A name's byte. -/
def bt (x : List Int) (j : Nat) : Int := x.getD j 0

theorem bt_get {x : List Int} {j : Nat} (h : j < x.length) : bt x j = x[j] := by simp [bt, List.getD, List.getElem?_eq_getElem h]

theorem bt_some {x : List Int} {j : Nat} (h : j < x.length) : x[j]? = some (bt x j) := by rw [bt_get h, List.getElem?_eq_getElem h]

theorem IsId.at {x : List Int} (h : IsId x) (j : Nat) (hj : j < 20) : 0 ≤ bt x j ∧ bt x j < 256 := by
  have hl := h.1
  unfold bt
  apply h.2
  rw [List.getD, List.getElem?_eq_getElem (by omega : j < x.length)]
  simp

/-- One list ahead of another. -/
def ltl : List Int → List Int → Bool
  | [], [] => false
  | [], _ :: _ => true
  | _ :: _, [] => false
  | a :: r, b :: s => if a < b then true else if b < a then false else ltl r s

theorem ltl_irr : ∀ x, ltl x x = false
  | [] => rfl
  | a :: r => by simp [ltl, ltl_irr r]

theorem ltl_total : ∀ x y, ltl x y = false → ltl y x = false → x = y
  | [], [], _, _ => rfl
  | [], _ :: _, h, _ => by simp [ltl] at h
  | _ :: _, [], _, h => by simp [ltl] at h
  | a :: r, b :: s, h, g => by
    by_cases h1 : a < b
    · simp [ltl, h1] at h
    · by_cases h2 : b < a
      · simp [ltl, h2] at g
      · have e : a = b := by omega
        subst e
        simp [ltl] at h g
        rw [ltl_total r s h g]

theorem ltl_asym : ∀ x y, ltl x y = true → ltl y x = false
  | [], [], h => by simp [ltl] at h
  | [], _ :: _, _ => rfl
  | _ :: _, [], h => by simp [ltl] at h
  | a :: r, b :: s, h => by
    by_cases h1 : a < b
    · simp [ltl, h1, show ¬ b < a by omega]
    · by_cases h2 : b < a
      · simp [ltl, h1, h2] at h
      · simp [ltl, h1, h2] at h ⊢
        exact ltl_asym r s h

theorem ltl_trans : ∀ x y z, ltl x y = true → ltl y z = true → ltl x z = true
  | [], [], _, h, _ => by simp [ltl] at h
  | _ :: _, [], _, h, _ => by simp [ltl] at h
  | _, _ :: _, [], _, h => by simp [ltl] at h
  | [], _ :: _, _ :: _, _, _ => rfl
  | a :: r, b :: s, c :: t, h, g => by
    by_cases h1 : a < b
    · by_cases g1 : b < c
      · simp [ltl, show a < c by omega]
      · by_cases g2 : c < b
        · simp [ltl, g1, g2] at g
        · simp [ltl, show a < c by omega]
    · by_cases h2 : b < a
      · simp [ltl, h1, h2] at h
      · have e : a = b := by omega
        subst e
        simp [ltl] at h
        by_cases g1 : a < c
        · simp [ltl, g1]
        · by_cases g2 : c < a
          · simp [ltl, g1, g2] at g
          · simp [ltl, g1, g2] at g ⊢
            exact ltl_trans r s t h g

/-- The order of names is that of their signs. -/
theorem ltl_hx : ∀ x y, (∀ b ∈ x, 0 ≤ b ∧ b < 256) → (∀ b ∈ y, 0 ≤ b ∧ b < 256) → ltl (hx x) (hx y) = ltl x y
  | [], [], _, _ => rfl
  | [], _ :: _, _, _ => rfl
  | _ :: _, [], _, _ => rfl
  | a :: r, b :: s, h, g => by
    have ha := h a (by simp)
    have hb := g b (by simp)
    have i := ltl_hx r s (fun c hc => h c (by simp [hc])) (fun c hc => g c (by simp [hc]))
    have l1 := sg_lt (a / 16) (b / 16) (by omega) (by omega) (by omega) (by omega)
    have l2 := sg_lt (b / 16) (a / 16) (by omega) (by omega) (by omega) (by omega)
    have l3 := sg_lt (a % 16) (b % 16) (by omega) (by omega) (by omega) (by omega)
    have l4 := sg_lt (b % 16) (a % 16) (by omega) (by omega) (by omega) (by omega)
    simp only [hx, ltl, l1, l2, l3, l4, i]
    by_cases h1 : a / 16 < b / 16
    · rw [if_pos h1, if_pos (by omega)]
    · rw [if_neg h1]
      by_cases h2 : b / 16 < a / 16
      · rw [if_pos h2, if_neg (by omega), if_pos (by omega)]
      · rw [if_neg h2]
        by_cases h3 : a % 16 < b % 16
        · rw [if_pos h3, if_pos (by omega)]
        · rw [if_neg h3]
          by_cases h4 : b % 16 < a % 16
          · rw [if_pos h4, if_neg (by omega), if_pos (by omega)]
          · rw [if_neg h4, if_neg (by omega), if_neg (by omega)]

end Go.Proofs.YtojgablpjdlegaaGreatDoor

/- A name by value; Hex. -/
namespace Go.Proofs.YtojgablpjdlegaaGreatDoor
open Go.RowKit

/-- A name's cells. -/
def cl (x : List Int) (j : Nat) : Value := .int .u8 (bt x j)

/-- A name, by value. -/
abbrev idv (x : List Int) : Value := row (cl x) 20

/-- The sixteen signs. -/
abbrev sgs : ByteArray := { data := #[48, 49, 50, 51, 52, 53, 54, 55, 56, 57, 97, 98, 99, 100, 101, 102] }

theorem sgs_at (kk : IntKind) (k : Int) (h0 : 0 ≤ k) (h1 : k < 16) (w : World) : (Instr.index 9 (.string sgs) (.int kk k)).run Tryz.prog w = .ok (.int .u8 (sg k)) w := by
  obtain ⟨n, rfl⟩ : ∃ n : Nat, k = n := ⟨k.toNat, by omega⟩
  have hn : n < 16 := by omega
  match n, hn with
  | 0, _ | 1, _ | 2, _ | 3, _ | 4, _ | 5, _ | 6, _ | 7, _ | 8, _ | 9, _ | 10, _ | 11, _ | 12, _ | 13, _ | 14, _ | 15, _ => simp [Instr.index, asIntOf, run_underlying Tryz.underlying9, sg, go_sem]; try rfl

theorem u8_15 (v : Int) (h0 : 0 ≤ v) (h1 : v < 256) : bits .and .u8 v 15 = v % 16 := bits_mask .u8 8 (by decide) wraps_u8 4 (by decide) v h0 h1

theorem size23 : (Tryz.prog.info? 27).map (·.size) = some 20 := by kernel_rfl

theorem size22 : (Tryz.prog.info? 26).map (·.size) = some 20 := by kernel_rfl

theorem Rd.str {w : World} {ao : Option Addr} {n c : Nat} {xs : List Int} (h : Rd w ao n c xs) : (convert 22 9 (.slice ao n c)).run Tryz.prog w = .ok (.string (strOfNums xs)) w := by
  cases ao with
  | none =>
    obtain ⟨rfl, rfl⟩ := h.nul rfl
    have hx : xs = [] := List.eq_nil_of_length_eq_zero h.len
    subst hx
    rw [run_convert_bytes_nil w 22 5 Tryz.underlying22 Tryz.underlying5 0 0 9 Tryz.underlying9]
    rfl
  | some ad =>
    have hl : (loadCells ad n).run Tryz.prog w = .ok (xs.map (Value.int .u8)).toArray w := by
      have := run_loadCells_list (P := Tryz.prog) w ad (xs.map (Value.int .u8)) (h.cellsOf ad rfl)
      simpa [h.len] using this
    rw [run_convert_bytes_string w 22 9 5 _ n c Tryz.underlying22 Tryz.underlying5 Tryz.underlying9, run_bytesToString w _ n c xs hl, foldl_push_bytes]
    simp [strOfNums, ByteArray.empty, ByteArray.emptyWithCapacity]
    rfl

theorem two_rd (w : World) (a b : Int) (h : 0 ≤ a ∧ a < 256) (g : 0 ≤ b ∧ b < 256) : Rd (w.alloc (Obj.cells #[.int .u8 a, .int .u8 b] 5)) (some ⟨w.heap.size, 0, none⟩) 2 2 [a, b] :=
  Rd.ofRow (World.rowIs_alloc w #[.int .u8 a, .int .u8 b] 5 _ (fun i hi => by
    simp at hi
    rcases i with _ | _ | i <;> first | rfl | omega)) rfl (by intro x hx; simp at hx; omega)

theorem hx_take (x : List Int) (k : Nat) (h : k < x.length) : hx (x.take (k + 1)) = hx (x.take k) ++ [sg (bt x k / 16), sg (bt x k % 16)] := by
  rw [List.take_add_one, hx_app, List.getElem?_eq_getElem h]
  simp [hx, bt, List.getD, List.getElem?_eq_getElem h]

theorem id_index (ty : TypeId) (hu : Tryz.prog.underlying ty = some (.array 20 5)) (x : List Int) (i : Nat) (hi : i < 20) (w : World) : (Instr.index ty (idv x) (.int .i64 i)).run Tryz.prog w = .ok (.int .u8 (bt x i)) w :=
  run_index_row ty 5 20 .i64 _ i hi hu (fun w => by simp [go_sem]) (fun w => by simp [go_sem]) w

set_option maxRecDepth 100000 in
set_option maxHeartbeats 4000000 in
theorem hex_any (x : List Int) (hx0 : IsId x) (w : World) : Calls Tryz.prog 74 #[idv x] w fun e w' => e = .returned (.string (strOfNums (hx x))) ∧ Below w.heap.size w w' := by
  obtain ⟨i0, hi, hz0, hz1, hz2⟩ := info_parts Tryz.info5
  go_enter Tryz.func74, Tryz.ntmps74
  have hb0 := rowIs_vals w (cl x) 20 27
  have hB0 : Below w.heap.size w (w.alloc (.cells (vals (cl x) 20).toArray 27)) := new_below _ _
  have HB0 : Hid (Below w.heap.size w (w.alloc (.cells (vals (cl x) 20).toArray 27))) := hB0
  clear hB0
  go_wp2_with (first
    | (refine wpList_ld0 rfl 27 _ rfl w.heap.size rfl _ hb3 20 (by omega) Tryz.underlying27 rfl size23 ?_; clear hb3)
    | (at_make; refine wpList_make_own _ rfl _ _ 22 rfl w.heap.size 5 i0 (.int .u8 0) 1 Tryz.underlying22 hi hz0 hz1 _ _ _ 40 rfl rfl rfl (by rw [hz2]; omega) (by unfold maxLen; omega) (by simp) ?_; intro w3 hown3 hgrow3; have hb3 := rowIs_fr hb0 ((Fr.refl (fun _ => False) _).grown hgrow3 (fun k _ e => by cases e)) (fun h => h); clear hb0))
  have B3 : Hid (Below w.heap.size w w3) := HB0.out.grown hgrow3 (by simp) (fun q hq => by cases hq)
  have o3 : w3.ownsRow w.heap.size 5 1 (.slice (some ⟨w.heap.size + 1, 0, none⟩) 0 40) 0 [] := by simpa using hown3
  have O3 : Hid (w3.ownsRow w.heap.size 5 1 (.slice (some ⟨w.heap.size + 1, 0, none⟩) 0 40) 0 []) := o3
  clear hown3 hgrow3 HB0 o3
  have e20 := hx0.1
  go_loopw [3, 8] (fun o i wr => ∃ (k g cap : Nat), k ≤ 20 ∧ i = .int .i64 k ∧ o = .slice (some ⟨g, 0, none⟩) (2 * k) cap ∧ Hid (wr.ownsRow w.heap.size 5 1 (.slice (some ⟨g, 0, none⟩) (2 * k) cap) (2 * k) ((hx (x.take k)).map (Value.int .u8))) ∧ Hid (Below w.heap.size w wr)) (fun _ i _ => 20 - (intOf i).toNat)
  case atStart => exact ⟨0, _, _, by omega, rfl, by simp, O3.out, B3⟩
  case round =>
    obtain ⟨k, g, cap, hk, rfl, rfl, hown, hb⟩ := hrel
    clear O3 B3
    by_cases hlt : k < 20
    · have hbt := hx0.at k hlt
      have e1 := hx_take x k (by omega)
      have hix := fun W => id_index 27 Tryz.underlying27 x k hlt W
      have hs1 := fun W => sgs_at .u8 (bt x k / 16) (by omega) (by omega) W
      have hs2 := fun W => sgs_at .u8 (bt x k % 16) (by omega) (by omega) W
      have hm := u8_15 (bt x k) hbt.1 hbt.2
      have b1 := sg_b (bt x k / 16) (by omega) (by omega)
      have b2 := sg_b (bt x k % 16) (by omega) (by omega)
      have E1 : Hid (hx (x.take (k + 1)) = hx (x.take k) ++ [sg (bt x k / 16), sg (bt x k % 16)]) := e1
      clear e1
      generalize bt x k = c at *
      have rd2 := two_rd wr.drew (sg (c / 16)) (sg (c % 16)) b1 b2
      have sz2 : w.heap.size ≤ (wr.drew.alloc (Obj.cells #[.int .u8 (sg (c / 16)), .int .u8 (sg (c % 16))] 5)).heap.size := by have := hb.out.size; simp; omega
      have hb2 : Hid (Below w.heap.size w (wr.drew.alloc (Obj.cells #[.int .u8 (sg (c / 16)), .int .u8 (sg (c % 16))] 5))) := (Below.trans (c := wr.drew) hb.out ⟨rfl, rfl, rfl, Nat.le_refl _, fun _ _ => rfl⟩).alloc hb.out.size _
      have own2 : (wr.drew.alloc (Obj.cells #[.int .u8 (sg (c / 16)), .int .u8 (sg (c % 16))] 5)).ownsRow w.heap.size 5 1 (.slice (some ⟨g, 0, none⟩) (2 * k) cap) (2 * k) ((hx (x.take k)).map (Value.int .u8)) := hown.out.drew.alloc _
      have gb : w.heap.size ≤ g := own_base hown.out
      go_wp2_with fail
      go_region_law (refine step_append_rd (w := wr.drew.alloc (Obj.cells #[.int .u8 (sg (c / 16)), .int .u8 (sg (c % 16))] 5)) (by rfl) (.tmp 11) (.tmp 18) (by rfl) w.heap.size g (2 * k) cap (hx (x.take k)) (by rfl) own2 (some ⟨wr.heap.size, 0, none⟩) 2 2 _ (by rfl) rd2 (by omega) sz2 (2 * (k + 1)) (by omega) (hx (x.take (k + 1))) E1.out ?_; intro g' cap' w4 hown4 hg4)
      all_goals
        have B4 : Hid (Below w.heap.size w w4) := hb2.out.grown hg4 sz2 (fun q hq => by cases hq; exact gb)
        have O4 : Hid (w4.ownsRow w.heap.size 5 1 (.slice (some ⟨g', 0, none⟩) (2 * (k + 1)) cap') (2 * (k + 1)) ((hx (x.take (k + 1))).map (Value.int .u8))) := hown4
        clear hown4 hg4 hb2 own2 rd2 hown hb
        simp only [List.getElem_toArray, List.getElem_cons_zero, List.getElem_cons_succ, Act.put, List.setIfInBounds_toArray, List.set_cons_zero, List.set_cons_succ]
        go_wp2_with fail
        go_roundw
        case rel => exact ⟨k + 1, g', cap', by omega, by go_num, rfl, O4, B4⟩
        case measure => simp [intOf]; omega
    · obtain rfl : k = 20 := by omega
      have ho := hown.out
      rw [List.take_of_length_le (by omega)] at ho
      have hbx := fun c hc => (hx_byt x hx0.2 c hc).2
      obtain ⟨ao, c, e, hrd, _⟩ := own_rd ho hbx
      injection e with e1 e2 e3
      subst e1 e3
      have hs := hrd.str
      clear hown ho hrd
      go_wp2
      go_ret
      exact ⟨rfl, hb.out⟩

end Go.Proofs.YtojgablpjdlegaaGreatDoor

/- The document's Hex, digit; signs of a text. -/
namespace Go.Proofs.YtojgablpjdlegaaGreatDoor
open Go.RowKit

/-- 'append(v, ys...)' as one step of a region that draws its order, v the call's own or nil. -/
theorem step_append_v {w : World} {ops : Array Oper} {o : Oper} {a : Act} {K : Act → World → Prop} {Q : Exit → Act → World → Prop} {E : Prop} (hgd : o.guard = none) (s x : Operand)
    (ho : o.op = .call { callee := .builtin .append, args := #[s, x], argTypes := #[22, 22] })
    (base n : Nat) (v : Value) (xs : List Int) (hs : a.eval s = v) (hown : w.ownsRow base 5 1 v n (xs.map (Value.int .u8)))
    (ad : Addr) (m c : Nat) (ys : List Int) (hx : a.eval x = .slice (some ad) m c) (hr : Rd w (some ad) m c ys) (hlim : n + m ≤ 140737488355328) (hbase : base ≤ w.heap.size) (nm : Nat) (hnm : nm = n + m) (zs : List Int) (hzs : zs = xs ++ ys)
    (h : ∀ v' w', w'.ownsRow base 5 1 v' nm (zs.map (Value.int .u8)) → w.grownBy w' v.ownBlock → K (a.put o.dst v') w') :
    if Region.wanted o (yielded ops a.tmps) = true then Oper.wp Tryz.prog o a w K Q else E := by
  obtain ⟨i0, hi, hz0, hz1, hz2⟩ := info_parts Tryz.info5
  have hw : Region.wanted o (yielded ops a.tmps) = true := by simp [Region.wanted, hgd]
  rw [if_pos hw]
  subst hnm hzs
  refine wp_append_own w s x 22 ho base 5 i0 (.int .u8 0) 1 1 Tryz.underlying22 hi hz0 hz1 hz2 rfl (by decide) _ n _ hs hown ad m c (ys.map (Value.int .u8)) hx (by simpa using hr.len) (hr.cellsOf ad rfl) (ints_oneCell _ _)
    (by unfold maxLen; omega) (by omega) hbase ?_
  intro v' w' h1 h2 _
  exact h v' w' (by simpa using h1) h2

set_option maxRecDepth 100000 in
set_option maxHeartbeats 4000000 in
theorem rhex_any (x : List Int) (hx0 : IsId x) (w : World) : Calls Tryz.prog 78 #[idv x] w fun e w' => e = .returned (.string (strOfNums (hx x))) ∧ Below w.heap.size w w' := by
  have hb0 := rowIs_vals w (cl x) 20 26
  have hB0 : Hid (Below w.heap.size w (w.alloc (.cells (vals (cl x) 20).toArray 26))) := new_below _ _
  have e20 := hx0.1
  go_enter Tryz.func78, Tryz.ntmps78
  go_wp2_with fail
  go_loopw [4, 5] (fun o i wr => ∃ (k : Nat), k ≤ 20 ∧ i = .int .i64 k ∧ Hid (wr.ownsRow (w.heap.size + 1) 5 1 o (2 * k) ((hx (x.take k)).map (Value.int .u8))) ∧ Hid (wr.rowIs w.heap.size 26 20 (cl x)) ∧ Hid (Below w.heap.size w wr)) (fun _ i _ => 20 - (intOf i).toNat)
  case atStart => exact ⟨0, by omega, rfl, World.ownsRow_nil _ _ _ _, hb0, hB0⟩
  case round =>
    obtain ⟨k, hk, rfl, hown, hrow, hb⟩ := hrel
    clear hb0 hB0
    by_cases hlt : k < 20
    · have hbt := hx0.at k hlt
      have e1 := hx_take x k (by omega)
      have hs1 := fun W => sgs_at .u8 (bt x k / 16) (by omega) (by omega) W
      have hs2 := fun W => sgs_at .u8 (bt x k % 16) (by omega) (by omega) W
      have hm := u8_15 (bt x k) hbt.1 hbt.2
      have b1 := sg_b (bt x k / 16) (by omega) (by omega)
      have b2 := sg_b (bt x k % 16) (by omega) (by omega)
      have E1 : Hid (hx (x.take (k + 1)) = hx (x.take k) ++ [sg (bt x k / 16), sg (bt x k % 16)]) := e1
      have hcell : wr.cell? ⟨w.heap.size, k, none⟩ = some (.int .u8 (bt x k)) := hrow.out.cell (i := k) hlt
      clear e1
      generalize bt x k = c at *
      have rd2 := two_rd wr.drew (sg (c / 16)) (sg (c % 16)) b1 b2
      have sz1 : w.heap.size < wr.heap.size := hrow.out.lt
      have sz2 : w.heap.size + 1 ≤ (wr.drew.alloc (Obj.cells #[.int .u8 (sg (c / 16)), .int .u8 (sg (c % 16))] 5)).heap.size := by simp; omega
      have hb2 : Hid (Below w.heap.size w (wr.drew.alloc (Obj.cells #[.int .u8 (sg (c / 16)), .int .u8 (sg (c % 16))] 5))) := (Below.trans (c := wr.drew) hb.out ⟨rfl, rfl, rfl, Nat.le_refl _, fun _ _ => rfl⟩).alloc hb.out.size _
      have own2 : (wr.drew.alloc (Obj.cells #[.int .u8 (sg (c / 16)), .int .u8 (sg (c % 16))] 5)).ownsRow (w.heap.size + 1) 5 1 u4 (2 * k) ((hx (x.take k)).map (Value.int .u8)) := hown.out.drew.alloc _
      have gb : Hid (∀ q, u4.ownBlock = some q → w.heap.size + 1 ≤ q ∧ q < wr.heap.size) := fun q hq => hown.out.lt q hq
      have row2 : Hid ((wr.drew.alloc (Obj.cells #[.int .u8 (sg (c / 16)), .int .u8 (sg (c % 16))] 5)).rowIs w.heap.size 26 20 (cl x)) := World.rowIs.alloc (w := wr.drew) hrow.out _
      go_wp2_with fail
      go_region_law (refine step_append_v (w := wr.drew.alloc (Obj.cells #[.int .u8 (sg (c / 16)), .int .u8 (sg (c % 16))] 5)) (by rfl) (.tmp 10) (.tmp 23) (by rfl) (w.heap.size + 1) (2 * k) u4 (hx (x.take k)) (by rfl) own2 ⟨wr.heap.size, 0, none⟩ 2 2 _ (by rfl) rd2 (by omega) sz2 (2 * (k + 1)) (by omega) (hx (x.take (k + 1))) E1.out ?_; intro v' w4 hown4 hg4)
      all_goals
        have B4 : Hid (Below w.heap.size w w4) := hb2.out.grown hg4 (by omega) (fun q hq => by have := gb.out q hq; omega)
        have R4 : Hid (w4.rowIs w.heap.size 26 20 (cl x)) := rowIs_fr row2.out ((Fr.refl (fun k => u4.ownBlock = some k) _).grown hg4 (fun k _ e => e)) (fun e => by have := gb.out _ e; omega)
        have O4 : Hid (w4.ownsRow (w.heap.size + 1) 5 1 v' (2 * (k + 1)) ((hx (x.take (k + 1))).map (Value.int .u8))) := hown4
        clear hown4 hg4 hb2 own2 rd2 hown hb row2 hrow
        simp only [List.getElem_toArray, List.getElem_cons_zero, List.getElem_cons_succ, Act.put, List.setIfInBounds_toArray, List.set_cons_zero, List.set_cons_succ]
        go_wp2_with fail
        go_roundw
        case rel => exact ⟨k + 1, by omega, by go_num, O4, R4, B4⟩
        case measure => simp [intOf]; omega
    · obtain rfl : k = 20 := by omega
      have ho := hown.out
      rw [List.take_of_length_le (by omega)] at ho
      have hbx := fun c hc => (hx_byt x hx0.2 c hc).2
      obtain ⟨ao, c, rfl, hrd, _⟩ := own_rd ho hbx
      have hs := hrd.str
      clear hown ho hrd
      go_wp2
      go_ret
      exact ⟨rfl, hb.out⟩

/-- A text's bytes. -/
def ns (s : ByteArray) : List Int := s.data.toList.map fun b => (b.toNat : Int)

theorem ns_len (s : ByteArray) : (ns s).length = s.size := by
  unfold ns
  rw [List.length_map, Array.length_toList]
  rfl

theorem ns_byt (s : ByteArray) : ∀ c ∈ ns s, 0 ≤ c ∧ c < 256 := by
  intro c hc
  unfold ns at hc
  obtain ⟨b, _, rfl⟩ := List.mem_map.1 hc
  have := b.toNat_lt
  omega

theorem str_ns (s : ByteArray) : strOfNums (ns s) = s := by
  unfold strOfNums ns
  rw [List.map_map]
  have : ((fun n : Int => UInt8.ofNat n.toNat) ∘ fun b : UInt8 => (b.toNat : Int)) = id := by
    funext b
    simp
  rw [this, List.map_id]

theorem ns_str (xs : List Int) (h : ∀ c ∈ xs, 0 ≤ c ∧ c < 256) : ns (strOfNums xs) = xs := by
  unfold ns
  rw [strOfNums_data, List.map_map]
  conv => rhs; rw [← List.map_id xs]
  apply List.map_congr_left
  intro c hc
  have := h c hc
  simp only [Function.comp, id]
  rw [UInt8.toNat_ofNat']
  omega

theorem str_at (s : ByteArray) (k : Nat) (h : k < s.size) (w : World) : (Instr.index 9 (.string s) (.int .i64 k)).run Tryz.prog w = .ok (.int .u8 (bt (ns s) k)) w := by
  have e : bt (ns s) k = (s[k]'h).toNat := by
    rw [bt_get (by rw [ns_len]; exact h)]
    simp [ns, ByteArray.getElem_eq_getElem_data]
  rw [e]
  simp [Instr.index, asIntOf, run_underlying Tryz.underlying9, h, go_sem]

theorem digit_any (c : Int) (h0 : 0 ≤ c) (h1 : c < 256) (w : World) : Calls Tryz.prog 93 #[.int .u8 c] w fun e w' => e = .returned (.int .i64 (if isS c then dg c else -1)) ∧ w' = w := by
  by_cases a1 : 48 ≤ c
  · by_cases a2 : c ≤ 57
    · have e : (if isS c then dg c else -1) = c - 48 := by rw [if_pos (Or.inl ⟨a1, a2⟩)]; unfold dg; rw [if_pos a2]
      rw [e]
      have w1 : IntKind.u8.wrap (c - 48) = c - 48 := wraps_u8 _ (by omega) (by omega)
      clear e
      go_enter Tryz.func93, Tryz.ntmps93
      go_wp2
      go_ret
      exact ⟨rfl, rfl⟩
    · by_cases a3 : 97 ≤ c
      · by_cases a4 : c ≤ 102
        · have e : (if isS c then dg c else -1) = c - 97 + 10 := by rw [if_pos (Or.inr ⟨a3, a4⟩)]; unfold dg; rw [if_neg a2]; omega
          rw [e]
          have w1 : IntKind.u8.wrap (c - 97) = c - 97 := wraps_u8 _ (by omega) (by omega)
          clear e
          go_enter Tryz.func93, Tryz.ntmps93
          go_wp2
          go_ret
          exact ⟨rfl, rfl⟩
        · have e : (if isS c then dg c else -1) = -1 := if_neg (by unfold isS; omega)
          rw [e]
          clear e
          go_enter Tryz.func93, Tryz.ntmps93
          go_wp2
          go_ret
          exact ⟨rfl, rfl⟩
      · have e : (if isS c then dg c else -1) = -1 := if_neg (by unfold isS; omega)
        rw [e]
        clear e
        go_enter Tryz.func93, Tryz.ntmps93
        go_wp2
        go_ret
        exact ⟨rfl, rfl⟩
  · have e : (if isS c then dg c else -1) = -1 := if_neg (by unfold isS; omega)
    rw [e]
    clear e
    go_enter Tryz.func93, Tryz.ntmps93
    go_wp2
    go_ret
    exact ⟨rfl, rfl⟩

end Go.Proofs.YtojgablpjdlegaaGreatDoor
