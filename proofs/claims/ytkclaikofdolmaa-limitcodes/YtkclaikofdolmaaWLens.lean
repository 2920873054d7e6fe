/- coming; lengthen; lengths. -/
import Derived.Test.YtkclaikofdolmaaWQueue
namespace Go.Proofs.Ytkclaikofdolmaa
open Go.RowKit

/-- One part in a slice of its own. -/
theorem one_part (w : World) (b : Nat) (t : Pt) (h : IsP w b t) : Rp (w.alloc (Obj.cells #[pp b] 82)) (some ⟨w.heap.size, 0, none⟩) 1 1 (fun _ => (b, t)) := by
  refine ⟨Nat.le_refl _, (fun e => by cases e), fun ad had j hj => ?_, fun j hj => h.kp (Kp.ofBelow ((Below.refl _ _).alloc (Nat.le_refl _) _))⟩
  cases had
  obtain rfl : j = 0 := by omega
  exact cell_new w (pp b) 82 0 _ rfl

theorem new_leaf (w : World) (c : Int) (s : Nat) : IsP (w.alloc (Obj.cells #[.int .i64 c, .int .i64 s, .pointer none, .pointer none] 85)) w.heap.size (.leaf c s) :=
  .leaf _ _ _ (World.rowIs_alloc w #[.int .i64 c, .int .i64 s, .pointer none, .pointer none] 85 (pcells c s none none) (fun i hi => by
    simp at hi
    rcases i with _ | _ | _ | _ | i <;> first | rfl | omega))

/-- A list of one's own with parts. -/
structure Ow (w w' : World) (v : Value) (m : Nat) (f : Nat → It) : Prop where
  own : w'.ownsRow w.heap.size 82 1 v m (pps f m)
  prt : ∀ j, j < m → IsP w' (f j).1 (f j).2
  bel : Below w.heap.size w w'

theorem Ow.rp {w w' : World} {v : Value} {m : Nat} {f : Nat → It} (h : Ow w w' v m f) : ∃ ao c, v = .slice ao m c ∧ Rp w' ao m c f ∧ ∀ ad, ao = some ad → w.heap.size ≤ ad.block := by
  obtain ⟨ao, c, e, hr, hb⟩ := own_rp h.own h.prt
  exact ⟨ao, c, e, hr, fun ad had => (hb ad had).2⟩

theorem Ow.put {w w1 w2 w3 : World} {v v' : Value} {m b : Nat} {t : Pt} {f : Nat → It} (h : Ow w w1 v m f) (b12 : Below w1.heap.size w1 w2) (hp : IsP w2 b t)
    (ho : w3.ownsRow w.heap.size 82 1 v' (m + 1) (pps f m ++ pps (fun _ => (b, t)) 1)) (hg : w2.grownBy w3 v.ownBlock) : Ow w w3 v' (m + 1) (psh f m (b, t)) := by
  have hb2 : Below w.heap.size w w2 := h.bel.trans (b12.mono h.bel.size)
  have hb3 : Below w.heap.size w w3 := hb2.grown hg hb2.size (fun q hq => (h.own.lt q hq).1)
  have kp23 : Kp w2 w3 := ⟨hg.size, fun k g hr => by
    refine hr.of_block (hg.block k hr.lt (fun e => ?_))
    rcases h.own.2 with ⟨rfl, _⟩ | ⟨gg, cap, cur, rfl, _, hh, _⟩
    · cases e
    · cases e
      have h1 : w2.heap[gg]? = some (.cells cur 82 (0, 0)) := (b12.block gg (Array.getElem?_eq_some_iff.1 hh).1).trans hh
      obtain ⟨cs, hb, _⟩ := hr
      rw [h1] at hb
      simp at hb⟩
  refine ⟨?_, fun j hj => ?_, hb3⟩
  · have e : pps (psh f m (b, t)) (m + 1) = pps f m ++ pps (fun _ => (b, t)) 1 := by unfold pps; rw [fst_psh, List.map_append]; rfl
    rw [e]; exact ho
  · by_cases e : j = m
    · subst e; rw [psh_at]; exact hp.kp kp23
    · rw [psh_lt _ _ _ _ (by omega)]
      exact ((h.prt j (by omega)).kp (Kp.ofBelow b12)).kp kp23

set_option maxRecDepth 100000 in
set_option maxHeartbeats 2000000 in
theorem coming_any (ao : Option Addr) (n c : Nat) (D : Nat → Int) (w : World) (h : Ri w ao n c D) (hn : n ≤ 300) :
    Calls Try.prog 26 #[.slice ao n c] w fun e w' => ∃ v f, e = .returned v ∧ Ow w w' v (sy D n).length f ∧ (fst f (sy D n).length).map Prod.snd = lvs D n := by
  have HR : Hid (Ri w ao n c D) := h
  have z85 := zero85
  clear h
  go_enter Try.func26, Try.ntmps26
  go_wp2
  go_loopw [3, 4, 5, 8] (fun sv _ _ iv wr => ∃ (k m : Nat) (f : Nat → It), iv = .int .i64 k ∧ k ≤ n ∧ m ≤ 300 ∧ Hid (m = (sy D k).length) ∧ Hid (Ow w wr sv m f) ∧ Hid ((fst f m).map Prod.snd = lvs D k)) (fun _ _ _ iv _ => n - (intOf iv).toNat)
  case atStart => exact ⟨0, 0, fun _ => (0, .leaf 0 0), rfl, by omega, by omega, rfl, ⟨World.ownsRow_nil _ _ _ _, fun j hj => by omega, Below.refl _ _⟩, rfl⟩
  case round =>
    obtain ⟨k, m, f, rfl, hk, hm, HM, HO, HL⟩ := hrel
    by_cases hlt : k < n
    · obtain ⟨b, off, rfl, hcell⟩ := (HR.out.keep HO.out.bel).plain (by omega)
      have ck := hcell k hlt
      clear hcell
      by_cases hp : 0 < D k
      · have d1 : decide (0 < D k) = true := by simp [hp]
        have hm1 : m + 1 ≤ 300 := by
          have h1 := sy_le D (k + 1)
          have h2 : (sy D (k + 1)).length = m + 1 := by simp only [sy]; rw [if_pos hp, List.length_append, ← HM.out]; rfl
          omega
        have HM1 : Hid (m + 1 = (sy D (k + 1)).length) := by
          have h2 : (sy D (k + 1)).length = m + 1 := by simp only [sy]; rw [if_pos hp, List.length_append, ← HM.out]; rfl
          exact h2.symm
        have HL1 : Hid ((fst (psh f m (wr.heap.size, Pt.leaf (D k) k)) (m + 1)).map Prod.snd = lvs D (k + 1)) := by
          have e : lvs D (k + 1) = lvs D k ++ [Pt.leaf (D k) k] := by unfold lvs; simp only [sy]; rw [if_pos hp, List.map_append]; rfl
          show _ = _
          rw [fst_psh, List.map_append, HL.out, e]
          rfl
        have np := new_leaf wr (D k) k
        have bp : Below wr.heap.size wr (wr.alloc (Obj.cells #[.int .i64 (D k), .int .i64 k, .pointer none, .pointer none] 85)) := (Below.refl _ _).alloc (Nat.le_refl _) _
        have op := one_part _ _ _ np
        have b2 : Below wr.heap.size wr ((wr.alloc (Obj.cells #[.int .i64 (D k), .int .i64 k, .pointer none, .pointer none] 85)).alloc (Obj.cells #[pp wr.heap.size] 82)) := bp.alloc bp.size _
        have np2 : IsP ((wr.alloc (Obj.cells #[.int .i64 (D k), .int .i64 k, .pointer none, .pointer none] 85)).alloc (Obj.cells #[pp wr.heap.size] 82)) wr.heap.size (.leaf (D k) k) := np.kp (Kp.ofBelow ((Below.refl _ _).alloc (Nat.le_refl _) _))
        have own2 : ((wr.alloc (Obj.cells #[.int .i64 (D k), .int .i64 k, .pointer none, .pointer none] 85)).alloc (Obj.cells #[pp wr.heap.size] 82)).ownsRow w.heap.size 82 1 u3 m (pps f m) := ownsRow_fr HO.out.own (Fr.ofBelow (P := fun _ => False) b2) (fun _ _ h => h)
        have hsz : w.heap.size ≤ ((wr.alloc (Obj.cells #[.int .i64 (D k), .int .i64 k, .pointer none, .pointer none] 85)).alloc (Obj.cells #[pp wr.heap.size] 82)).heap.size := Nat.le_trans HO.out.bel.size b2.size
        have hsize : (wr.alloc (Obj.cells #[.int .i64 (D k), .int .i64 k, .pointer none, .pointer none] 85)).heap.size = wr.heap.size + 1 := by simp
        rw [hsize] at op
        clear hp bp np hsize
        have PUT : Hid (∀ w3 v', w3.ownsRow w.heap.size 82 1 v' (m + 1) (pps f m ++ pps (fun _ => (wr.heap.size, Pt.leaf (D k) k)) 1) → ((wr.alloc (Obj.cells #[.int .i64 (D k), .int .i64 k, .pointer none, .pointer none] 85)).alloc (Obj.cells #[pp wr.heap.size] 82)).grownBy w3 u3.ownBlock → Ow w w3 v' (m + 1) (psh f m (wr.heap.size, Pt.leaf (D k) k))) := fun w3 v' ho hg => HO.out.put b2 np2 ho hg
        clear HO HL HM np2 b2
        go_wp2_with (refine wpList_append_pv rfl _ _ rfl w.heap.size m _ (pps f m) rfl own2 _ 1 1 (fun _ => (wr.heap.size, Pt.leaf (D k) k)) rfl op (by omega) hsz ?_; intro v5 w5 o5 g5)
        have HO5 := PUT.out w5 v5 o5 g5
        have HO6 : Hid (Ow w w5 v5 (m + 1) (psh f m (wr.heap.size, Pt.leaf (D k) k))) := HO5
        clear HO5 o5 g5 PUT own2 op ck hsz
        go_wp2_with fail
        go_roundw
        case rel => exact ⟨k + 1, m + 1, _, by go_num, by omega, hm1, HM1, HO6, HL1⟩
        case measure => simp [intOf]; omega
      · have d1 : decide (0 < D k) = false := by simp; omega
        have HM1 : Hid (m = (sy D (k + 1)).length) := by
          show _ = _
          simp only [sy]; rw [if_neg hp]; exact HM.out
        have HL1 : Hid ((fst f m).map Prod.snd = lvs D (k + 1)) := by
          have e : lvs D (k + 1) = lvs D k := by unfold lvs; simp only [sy]; rw [if_neg hp]
          show _ = _
          rw [e]; exact HL.out
        clear hp HM HL
        go_wp2
        go_roundw
        case rel => exact ⟨k + 1, m, f, by go_num, by omega, hm, HM1, HO, HL1⟩
        case measure => simp [intOf]; omega
    · obtain rfl : k = n := by omega
      go_wp2
      go_ret
      have e := HM.out
      subst e
      exact ⟨_, f, rfl, HO.out, HL.out⟩

theorem agg82 (w : World) : (isAgg 82).run Try.prog w = .ok false w := by simp [isAgg, run_underlying Try.underlying82]
theorem size82 (w : World) : (sizeOf 82).run Try.prog w = .ok 1 w := by
  obtain ⟨i0, hi, hz0, hz1, hz2⟩ := info_parts Try.info82
  simp [sizeOf, typeInfo, hi, hz1]

theorem size83 : (Try.prog.info? 83).map (·.size) = some 2 := by kernel_rfl

/-- All symbols of a part are below n. -/
def Blw (n : Nat) : Pt → Prop
  | .leaf _ s => s < n
  | .node _ _ l r => Blw n l ∧ Blw n r

theorem occ_le (t : Pt) (n s : Nat) (h : Blw n t) (hs : n ≤ s) : t.occ s = 0 := by
  induction t with
  | leaf c a => simp only [Blw] at h; simp only [Pt.occ]; rw [if_neg (by omega)]
  | node c p l r ih1 ih2 => simp only [Pt.occ]; rw [ih1 h.1, ih2 h.2]

set_option maxRecDepth 100000 in
set_option maxHeartbeats 2000000 in
theorem lengthen_any (t : Pt) : ∀ (b B n : Nat) (L : Nat → Int) (w : World), IsP w b t → w.rowIs B 3 n (fun j => .int .i64 (L j)) → Blw n t → (∀ j, j < n → 0 ≤ L j ∧ L j + t.occ j ≤ 1000000000) →
    Calls Try.prog 45 #[pp b, .slice (some ⟨B, 0, none⟩) n n] w fun e w' => e = .returned (.tuple #[]) ∧ w'.rowIs B 3 n (fun j => .int .i64 (L j + t.occ j)) ∧ Fr (fun k => k = B) w w' := by
  induction t with
  | leaf c s =>
    intro b B n L w hp hr hb hL
    cases hp with
    | leaf _ _ _ row =>
    have c1 := row.cell (i := 1) (by omega)
    have c2 := row.cell (i := 2) (by omega)
    simp only [pcells, pv] at c1 c2
    simp only [Blw] at hb
    have d1 := hr.cell (i := s) hb
    have z1 := hr.frozen s
    have h1 := hL s hb
    have e1 : (Pt.leaf c s).occ s = 1 := by simp [Pt.occ]
    rw [e1] at h1
    have hf : Fr (fun k => k = B) w (w.setCell ⟨B, s, none⟩ (.int .i64 (L s + 1))) := (Fr.refl (fun k => k = B) w).setCell rfl _
    have hr' : (w.setCell ⟨B, s, none⟩ (.int .i64 (L s + 1))).rowIs B 3 n (fun j => .int .i64 (L j + (Pt.leaf c s).occ j)) := (hr.set s _).congr (fun j _ => by
      by_cases e : j = s
      · subst e; rw [if_pos rfl, e1]; rfl
      · rw [if_neg e]
        have : (Pt.leaf c s).occ j = 0 := by simp only [Pt.occ]; rw [if_neg (fun h => e h.symm)]
        rw [this]; simp)
    clear row hr hL
    go_enter Try.func45, Try.ntmps45
    go_wp2
    exact bodyPost_ret (results_none (by kernel_rfl) _ _ _) rfl ⟨rfl, hr', hf⟩
  | node c p l r ih1 ih2 =>
    intro b B n L w hp hr hb hL
    cases hp with
    | node _ _ _ _ _ bl br prow pl pr =>
    have c2 := prow.cell (i := 2) (by omega)
    simp only [pcells, pv] at c2
    have HP : Hid (IsP w bl l ∧ IsP w br r) := ⟨pl, pr⟩
    have HR : Hid (w.rowIs B 3 n (fun j => .int .i64 (L j))) := hr
    have HB : Hid (Blw n l ∧ Blw n r) := hb
    have HL : Hid (∀ j, j < n → 0 ≤ L j ∧ L j + (l.occ j + r.occ j : Nat) ≤ 1000000000) := hL
    clear pl pr hr hb hL
    go_enter Try.func45, Try.ntmps45
    go_wp2_with (refine wpList_ld rfl 83 _ rfl b 2 rfl _ prow 2 (by omega) Try.underlying83 rfl size83 ?_)
    have ix0 : ∀ w, Sem.run Try.prog (Instr.index 83 (row (fun j => pcells c p (some bl) (some br) (2 + j)) 2) (.int .i64 0)) w = .ok (pp bl) w := fun w => run_index_row (P := Try.prog) 83 82 2 .i64 (fun j => pcells c p (some bl) (some br) (2 + j)) 0 (by omega) Try.underlying83 agg82 size82 w
    have ix1 : ∀ w, Sem.run Try.prog (Instr.index 83 (row (fun j => pcells c p (some bl) (some br) (2 + j)) 2) (.int .i64 1)) w = .ok (pp br) w := fun w => run_index_row (P := Try.prog) 83 82 2 .i64 (fun j => pcells c p (some bl) (some br) (2 + j)) 1 (by omega) Try.underlying83 agg82 size82 w
    clear prow c2
    go_loopw [5, 25] (fun _ iv wr => (iv = .int .i64 0 ∧ wr = w) ∨ (iv = .int .i64 1 ∧ Hid (wr.rowIs B 3 n (fun j => .int .i64 (L j + l.occ j)) ∧ Fr (fun k => k = B) w wr)) ∨ (iv = .int .i64 2 ∧ Hid (wr.rowIs B 3 n (fun j => .int .i64 (L j + (l.occ j + r.occ j : Nat))) ∧ Fr (fun k => k = B) w wr))) (fun _ iv _ => 2 - (intOf iv).toNat)
    case atStart => exact .inl ⟨rfl, rfl⟩
    case round =>
      rcases hrel with ⟨rfl, rfl⟩ | ⟨rfl, H1⟩ | ⟨rfl, H1⟩
      · go_wp2_with fail
        refine (ih1 bl B n L wr HP.out.1 HR.out HB.out.1 (fun j hj => by have := HL.out j hj; omega)).mono ?_
        rintro e w1 ⟨rfl, h1, h2⟩
        have H2 : Hid (w1.rowIs B 3 n (fun j => .int .i64 (L j + l.occ j)) ∧ Fr (fun k => k = B) wr w1) := ⟨h1, h2⟩
        clear h1 h2
        go_wp2_with fail
        go_roundw
        case rel => exact .inr (.inl ⟨rfl, H2⟩)
        case measure => simp [intOf]
      · have KP : Hid (Kp w wr) := Kp.ofFr H1.out.2 (fun b' f' hb h' => by
          subst hb
          have := rowIs_type HR.out h'
          omega)
        go_wp2_with fail
        refine (ih2 br B n (fun j => L j + l.occ j) wr (HP.out.2.kp KP.out) H1.out.1 HB.out.2 (fun j hj => by have := HL.out j hj; omega)).mono ?_
        rintro e w1 ⟨rfl, h1, h2⟩
        have H2 : Hid (w1.rowIs B 3 n (fun j => .int .i64 (L j + (l.occ j + r.occ j : Nat))) ∧ Fr (fun k => k = B) w w1) := ⟨h1.congr (fun j _ => by rw [Int.natCast_add, Int.add_assoc]), H1.out.2.trans h2 (fun _ _ e => e)⟩
        clear h1 h2 H1 KP
        go_wp2_with fail
        go_roundw
        case rel => exact .inr (.inr ⟨rfl, H2⟩)
        case measure => simp [intOf]
      · go_wp2
        go_end0
        exact ⟨rfl, H1.out⟩

/-- What the first k parts hold of a symbol. -/
def ocs (f : Nat → It) (k s : Nat) : Nat := sn (fun x => x.2.occ s) (fst f k)

theorem ocs_succ (f : Nat → It) (k s : Nat) : ocs f (k + 1) s = ocs f k s + (f k).2.occ s := by
  unfold ocs; rw [fst_succ, sn_append]; simp [sn]

theorem ocs_le (f : Nat → It) (j k s : Nat) (h : j ≤ k) : ocs f j s ≤ ocs f k s := by
  induction k with
  | zero => obtain rfl : j = 0 := by omega
            omega
  | succ k ih =>
    rcases Nat.lt_or_ge j (k + 1) with h' | h'
    · have := ih (by omega); rw [ocs_succ]; omega
    · obtain rfl : j = k + 1 := by omega
      omega

set_option maxRecDepth 100000 in
set_option maxHeartbeats 2000000 in
theorem lengths_any (n k c : Nat) (ao : Option Addr) (f : Nat → It) (w : World) (h : Rp w ao k c f) (hn : n ≤ 300) (hb : ∀ j, j < k → Blw n (f j).2) (hL : ∀ s, s < n → ocs f k s ≤ 1000000) (hk : k ≤ 1000000) :
    Calls Try.prog 27 #[.int .i64 n, .slice ao k c] w fun e w' => ∃ B, e = .returned (.slice (some ⟨B, 0, none⟩) n n) ∧ w'.rowIs B 3 n (fun j => .int .i64 (ocs f k j)) ∧ w.heap.size ≤ B ∧ Below w.heap.size w w' := by
  have HR : Hid (Rp w ao k c f) := h
  have HB : Hid (∀ j, j < k → Blw n (f j).2) := hb
  have HL : Hid (∀ s, s < n → ocs f k s ≤ 1000000) := hL
  clear h hb hL
  obtain ⟨i0, hi, hz0, hz1, hz2⟩ := info_parts Try.info3
  go_enter Try.func27, Try.ntmps27
  go_wp2_with (at_make; refine wpList_make_row _ rfl _ _ 22 rfl 3 i0 (.int .i64 0) Try.underlying22 hi hz0 hz1 rfl .i64 .i64 n rfl rfl (by rw [hz2]; omega) (by omega) ?_)
  clear hi hz0 hz1 hz2
  have r0 := made_row w n
  have b0 : Below w.heap.size w (w.alloc (.cells (madeCells #[.int .i64 0] n) 3)) := (Below.refl _ _).alloc (Nat.le_refl _) _
  obtain ⟨B, hB⟩ : ∃ B, B = w.heap.size := ⟨_, rfl⟩
  have R0 : Hid ((w.alloc (.cells (madeCells #[.int .i64 0] n) 3)).rowIs B 3 n (fun j => .int .i64 (ocs f 0 j))) := by rw [hB]; exact r0
  have B0 : Hid (Below w.heap.size w (w.alloc (.cells (madeCells #[.int .i64 0] n) 3))) := b0
  rw [← hB]
  have EB : Hid (B = w.heap.size) := hB
  clear r0 b0 hB
  go_loopw [7, 12] (fun _ iv wr => ∃ i : Nat, iv = .int .i64 i ∧ i ≤ k ∧ Hid (wr.rowIs B 3 n (fun j => .int .i64 (ocs f i j))) ∧ Hid (Below w.heap.size w wr)) (fun _ iv _ => k - (intOf iv).toNat)
  case atStart => exact ⟨0, rfl, by omega, R0, B0⟩
  case round =>
    clear R0 B0
    obtain ⟨i, rfl, hi, RR', BB⟩ := hrel
    by_cases hlt : i < k
    · have rp := HR.out.keep BB.out
      obtain ⟨b, off, rfl, hcell⟩ := rp.plain (by omega)
      have ci := hcell i hlt
      have hle := rp.le
      have PP : Hid (IsP wr (f i).1 (f i).2) := rp.prt i hlt
      clear hcell rp
      go_wp2_with fail
      refine (lengthen_any (f i).2 (f i).1 B n (fun j => ocs f i j) wr PP.out RR'.out (HB.out i hlt) (fun j hj => by
        have h1 := HL.out j hj
        have h2 := ocs_le f (i + 1) k j hlt
        rw [ocs_succ] at h2
        omega)).mono ?_
      rintro e w1 ⟨rfl, h1, h2⟩
      have R1 : Hid (w1.rowIs B 3 n (fun j => .int .i64 (ocs f (i + 1) j))) := h1.congr (fun j _ => by rw [ocs_succ, Int.natCast_add])
      have B1 : Hid (Below w.heap.size w w1) := BB.out.trans (h2.below _ BB.out.size (fun q hq e => by have := EB.out; omega))
      clear h1 h2 RR' BB PP ci
      go_wp2_with fail
      go_roundw
      case rel => exact ⟨i + 1, by go_num, by omega, R1, B1⟩
      case measure => simp [intOf]; omega
    · obtain rfl : i = k := by omega
      go_wp2
      go_ret
      exact ⟨B, rfl, RR'.out, by have := EB.out; omega, BB.out⟩

end Go.Proofs.Ytkclaikofdolmaa
