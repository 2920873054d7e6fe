/- LimWLens, LimWPack. -/
import Derived.Test.YtiahbicodlgmhaaGreatDoorM17
import Derived.Deep.LoopGhost
/- coming; lengthen; lengths. -/
namespace Go.Proofs.YtiahbicodlgmhaaGreatDoor.Lim
open Go.RowKit

/-- One part in a slice of its own. -/
theorem one_part (w : World) (b : Nat) (t : Pt) (h : IsP w b t) : Rp (w.alloc (Obj.cells #[pp b] 198)) (some ⟨w.heap.size, 0, none⟩) 1 1 (fun _ => (b, t)) := by
  refine ⟨Nat.le_refl _, (fun e => by cases e), fun ad had j hj => ?_, fun j hj => h.kp (Kp.ofBelow ((Below.refl _ _).alloc (Nat.le_refl _) _))⟩
  cases had
  obtain rfl : j = 0 := by omega
  exact cell_new w (pp b) 198 0 _ rfl

theorem new_leaf (w : World) (c : Int) (s : Nat) : IsP (w.alloc (Obj.cells #[.int .i64 c, .int .i64 s, .pointer none, .pointer none] 201)) w.heap.size (.leaf c s) :=
  .leaf _ _ _ (World.rowIs_alloc w #[.int .i64 c, .int .i64 s, .pointer none, .pointer none] 201 (pcells c s none none) (fun i hi => by
    simp at hi
    rcases i with _ | _ | _ | _ | i <;> first | rfl | omega))

/-- A list of one's own with parts. -/
structure Ow (w w' : World) (v : Value) (m : Nat) (f : Nat → It) : Prop where
  own : w'.ownsRow w.heap.size 198 1 v m (pps f m)
  prt : ∀ j, j < m → IsP w' (f j).1 (f j).2
  bel : Below w.heap.size w w'

theorem Ow.rp {w w' : World} {v : Value} {m : Nat} {f : Nat → It} (h : Ow w w' v m f) : ∃ ao c, v = .slice ao m c ∧ Rp w' ao m c f ∧ ∀ ad, ao = some ad → w.heap.size ≤ ad.block := by
  obtain ⟨ao, c, e, hr, hb⟩ := own_rp h.own h.prt
  exact ⟨ao, c, e, hr, fun ad had => (hb ad had).2⟩

theorem Ow.put {w w1 w2 w3 : World} {v v' : Value} {m b : Nat} {t : Pt} {f : Nat → It} (h : Ow w w1 v m f) (b12 : Below w1.heap.size w1 w2) (hp : IsP w2 b t)
    (ho : w3.ownsRow w.heap.size 198 1 v' (m + 1) (pps f m ++ pps (fun _ => (b, t)) 1)) (hg : w2.grownBy w3 v.ownBlock) : Ow w w3 v' (m + 1) (psh f m (b, t)) := by
  have hb2 : Below w.heap.size w w2 := h.bel.trans (b12.mono h.bel.size)
  have hb3 : Below w.heap.size w w3 := hb2.grown hg hb2.size (fun q hq => (h.own.lt q hq).1)
  have kp23 : Kp w2 w3 := ⟨hg.size, fun k g hr => by
    refine hr.of_block (hg.block k hr.lt (fun e => ?_))
    rcases h.own.2 with ⟨rfl, _⟩ | ⟨gg, cap, cur, rfl, _, hh, _⟩
    · cases e
    · cases e
      have h1 : w2.heap[gg]? = some (.cells cur 198 (0, 0)) := (b12.block gg (Array.getElem?_eq_some_iff.1 hh).1).trans hh
      obtain ⟨cs, hb, _⟩ := hr
      rw [h1] at hb
      simp at hb⟩
  refine ⟨?_, fun j hj => ?_, hb3⟩
  · have e : pps (psh f m (b, t)) (m + 1) = pps f m ++ pps (fun _ => (b, t)) 1 := by unfold pps; rw [fst_psh, List.map_append]; rfl
    rw [e]; exact ho
  · by_cases e : j = m
    · subst e; rw [psh_at]; exact hp.kp kp23
    · rw [psh_lt _ _ _ _ (by omega)]
      exact ((h.prt j (by omega)).kp (Kp.ofBelow b12)).kp kp23

set_option maxRecDepth 100000 in
set_option maxHeartbeats 2000000 in
theorem coming_any (ao : Option Addr) (n c : Nat) (D : Nat → Int) (w : World) (h : Ri w ao n c D) (hn : n ≤ 300) :
    Calls Tryz.prog 144 #[.slice ao n c] w fun e w' => ∃ v f, e = .returned v ∧ Ow w w' v (sy D n).length f ∧ (fst f (sy D n).length).map Prod.snd = lvs D n := by
  have HR : Hid (Ri w ao n c D) := h
  have z85 := zero85
  clear h
  go_enter Tryz.func144, Tryz.ntmps144
  go_wp2
  go_loopw [3, 4, 5, 8] (fun sv _ _ iv wr => ∃ (k m : Nat) (f : Nat → It), iv = .int .i64 k ∧ k ≤ n ∧ m ≤ 300 ∧ Hid (m = (sy D k).length) ∧ Hid (Ow w wr sv m f) ∧ Hid ((fst f m).map Prod.snd = lvs D k)) (fun _ _ _ iv _ => n - (intOf iv).toNat)
  case atStart => exact ⟨0, 0, fun _ => (0, .leaf 0 0), rfl, by omega, by omega, rfl, ⟨World.ownsRow_nil _ _ _ _, fun j hj => by omega, Below.refl _ _⟩, rfl⟩
  case round =>
    obtain ⟨k, m, f, rfl, hk, hm, HM, HO, HL⟩ := hrel
    by_cases hlt : k < n
    · obtain ⟨b, off, rfl, hcell⟩ := (HR.out.keep HO.out.bel).plain (by omega)
      have ck := hcell k hlt
      clear hcell
      by_cases hp : 0 < D k
      · have d1 : decide (0 < D k) = true := by simp [hp]
        have hm1 : m + 1 ≤ 300 := by
          have h1 := sy_le D (k + 1)
          have h2 : (sy D (k + 1)).length = m + 1 := by simp only [sy]; rw [if_pos hp, List.length_append, ← HM.out]; rfl
          omega
        have HM1 : Hid (m + 1 = (sy D (k + 1)).length) := by
          have h2 : (sy D (k + 1)).length = m + 1 := by simp only [sy]; rw [if_pos hp, List.length_append, ← HM.out]; rfl
          exact h2.symm
        have HL1 : Hid ((fst (psh f m (wr.heap.size, Pt.leaf (D k) k)) (m + 1)).map Prod.snd = lvs D (k + 1)) := by
          have e : lvs D (k + 1) = lvs D k ++ [Pt.leaf (D k) k] := by unfold lvs; simp only [sy]; rw [if_pos hp, List.map_append]; rfl
          show _ = _
          rw [fst_psh, List.map_append, HL.out, e]
          rfl
        have np := new_leaf wr (D k) k
        have bp : Below wr.heap.size wr (wr.alloc (Obj.cells #[.int .i64 (D k), .int .i64 k, .pointer none, .pointer none] 201)) := (Below.refl _ _).alloc (Nat.le_refl _) _
        have op := one_part _ _ _ np
        have b2 : Below wr.heap.size wr ((wr.alloc (Obj.cells #[.int .i64 (D k), .int .i64 k, .pointer none, .pointer none] 201)).alloc (Obj.cells #[pp wr.heap.size] 198)) := bp.alloc bp.size _
        have np2 : IsP ((wr.alloc (Obj.cells #[.int .i64 (D k), .int .i64 k, .pointer none, .pointer none] 201)).alloc (Obj.cells #[pp wr.heap.size] 198)) wr.heap.size (.leaf (D k) k) := np.kp (Kp.ofBelow ((Below.refl _ _).alloc (Nat.le_refl _) _))
        have own2 : ((wr.alloc (Obj.cells #[.int .i64 (D k), .int .i64 k, .pointer none, .pointer none] 201)).alloc (Obj.cells #[pp wr.heap.size] 198)).ownsRow w.heap.size 198 1 u3 m (pps f m) := ownsRow_fr HO.out.own (Fr.ofBelow (P := fun _ => False) b2) (fun _ _ h => h)
        have hsz : w.heap.size ≤ ((wr.alloc (Obj.cells #[.int .i64 (D k), .int .i64 k, .pointer none, .pointer none] 201)).alloc (Obj.cells #[pp wr.heap.size] 198)).heap.size := Nat.le_trans HO.out.bel.size b2.size
        have hsize : (wr.alloc (Obj.cells #[.int .i64 (D k), .int .i64 k, .pointer none, .pointer none] 201)).heap.size = wr.heap.size + 1 := by simp
        rw [hsize] at op
        clear hp bp np hsize
        have PUT : Hid (∀ w3 v', w3.ownsRow w.heap.size 198 1 v' (m + 1) (pps f m ++ pps (fun _ => (wr.heap.size, Pt.leaf (D k) k)) 1) → ((wr.alloc (Obj.cells #[.int .i64 (D k), .int .i64 k, .pointer none, .pointer none] 201)).alloc (Obj.cells #[pp wr.heap.size] 198)).grownBy w3 u3.ownBlock → Ow w w3 v' (m + 1) (psh f m (wr.heap.size, Pt.leaf (D k) k))) := fun w3 v' ho hg => HO.out.put b2 np2 ho hg
        clear HO HL HM np2 b2
        go_wp2_with (refine wpList_append_pv rfl _ _ rfl w.heap.size m _ (pps f m) rfl own2 _ 1 1 (fun _ => (wr.heap.size, Pt.leaf (D k) k)) rfl op (by omega) hsz ?_; intro v5 w5 o5 g5)
        have HO5 := PUT.out w5 v5 o5 g5
        have HO6 : Hid (Ow w w5 v5 (m + 1) (psh f m (wr.heap.size, Pt.leaf (D k) k))) := HO5
        clear HO5 o5 g5 PUT own2 op ck hsz
        go_wp2_with fail
        go_roundw
        case rel => exact ⟨k + 1, m + 1, _, by go_num, by omega, hm1, HM1, HO6, HL1⟩
        case measure => simp [intOf]; omega
      · have d1 : decide (0 < D k) = false := by simp; omega
        have HM1 : Hid (m = (sy D (k + 1)).length) := by
          show _ = _
          simp only [sy]; rw [if_neg hp]; exact HM.out
        have HL1 : Hid ((fst f m).map Prod.snd = lvs D (k + 1)) := by
          have e : lvs D (k + 1) = lvs D k := by unfold lvs; simp only [sy]; rw [if_neg hp]
          show _ = _
          rw [e]; exact HL.out
        clear hp HM HL
        go_wp2
        go_roundw
        case rel => exact ⟨k + 1, m, f, by go_num, by omega, hm, HM1, HO, HL1⟩
        case measure => simp [intOf]; omega
    · obtain rfl : k = n := by omega
      go_wp2
      go_ret
      have e := HM.out
      subst e
      exact ⟨_, f, rfl, HO.out, HL.out⟩

theorem agg82 (w : World) : (isAgg 198).run Tryz.prog w = .ok false w := by simp [isAgg, run_underlying Tryz.underlying198]
theorem size82 (w : World) : (sizeOf 198).run Tryz.prog w = .ok 1 w := by
  obtain ⟨i0, hi, hz0, hz1, hz2⟩ := info_parts Tryz.info82
  simp [sizeOf, typeInfo, hi, hz1]

theorem size83 : (Tryz.prog.info? 199).map (·.size) = some 2 := by kernel_rfl

/-- All symbols of a part are below n. -/
def Blw (n : Nat) : Pt → Prop
  | .leaf _ s => s < n
  | .node _ _ l r => Blw n l ∧ Blw n r

theorem occ_le (t : Pt) (n s : Nat) (h : Blw n t) (hs : n ≤ s) : t.occ s = 0 := by
  induction t with
  | leaf c a => simp only [Blw] at h; simp only [Pt.occ]; rw [if_neg (by omega)]
  | node c p l r ih1 ih2 => simp only [Pt.occ]; rw [ih1 h.1, ih2 h.2]

set_option maxRecDepth 100000 in
set_option maxHeartbeats 2000000 in
theorem lengthen_any (t : Pt) : ∀ (b B n : Nat) (L : Nat → Int) (w : World), IsP w b t → w.rowIs B 3 n (fun j => .int .i64 (L j)) → Blw n t → (∀ j, j < n → 0 ≤ L j ∧ L j + t.occ j ≤ 1000000000) →
    Calls Tryz.prog 152 #[pp b, .slice (some ⟨B, 0, none⟩) n n] w fun e w' => e = .returned (.tuple #[]) ∧ w'.rowIs B 3 n (fun j => .int .i64 (L j + t.occ j)) ∧ Fr (fun k => k = B) w w' := by
  induction t with
  | leaf c s =>
    intro b B n L w hp hr hb hL
    cases hp with
    | leaf _ _ _ row =>
    have c1 := row.cell (i := 1) (by omega)
    have c2 := row.cell (i := 2) (by omega)
    simp only [pcells, pv] at c1 c2
    simp only [Blw] at hb
    have d1 := hr.cell (i := s) hb
    have z1 := hr.frozen s
    have h1 := hL s hb
    have e1 : (Pt.leaf c s).occ s = 1 := by simp [Pt.occ]
    rw [e1] at h1
    have hf : Fr (fun k => k = B) w (w.setCell ⟨B, s, none⟩ (.int .i64 (L s + 1))) := (Fr.refl (fun k => k = B) w).setCell rfl _
    have hr' : (w.setCell ⟨B, s, none⟩ (.int .i64 (L s + 1))).rowIs B 3 n (fun j => .int .i64 (L j + (Pt.leaf c s).occ j)) := (hr.set s _).congr (fun j _ => by
      by_cases e : j = s
      · subst e; rw [if_pos rfl, e1]; rfl
      · rw [if_neg e]
        have : (Pt.leaf c s).occ j = 0 := by simp only [Pt.occ]; rw [if_neg (fun h => e h.symm)]
        rw [this]; simp)
    clear row hr hL
    go_enter Tryz.func152, Tryz.ntmps152
    go_wp2
    exact bodyPost_ret (results_none (by kernel_rfl) _ _ _) rfl ⟨rfl, hr', hf⟩
  | node c p l r ih1 ih2 =>
    intro b B n L w hp hr hb hL
    cases hp with
    | node _ _ _ _ _ bl br prow pl pr =>
    have c2 := prow.cell (i := 2) (by omega)
    simp only [pcells, pv] at c2
    have HP : Hid (IsP w bl l ∧ IsP w br r) := ⟨pl, pr⟩
    have HR : Hid (w.rowIs B 3 n (fun j => .int .i64 (L j))) := hr
    have HB : Hid (Blw n l ∧ Blw n r) := hb
    have HL : Hid (∀ j, j < n → 0 ≤ L j ∧ L j + (l.occ j + r.occ j : Nat) ≤ 1000000000) := hL
    clear pl pr hr hb hL
    go_enter Tryz.func152, Tryz.ntmps152
    go_wp2_with (refine wpList_ld rfl 199 _ rfl b 2 rfl _ prow 2 (by omega) Tryz.underlying199 rfl size83 ?_)
    have ix0 : ∀ w, Sem.run Tryz.prog (Instr.index 199 (row (fun j => pcells c p (some bl) (some br) (2 + j)) 2) (.int .i64 0)) w = .ok (pp bl) w := fun w => run_index_row (P := Tryz.prog) 199 198 2 .i64 (fun j => pcells c p (some bl) (some br) (2 + j)) 0 (by omega) Tryz.underlying199 agg82 size82 w
    have ix1 : ∀ w, Sem.run Tryz.prog (Instr.index 199 (row (fun j => pcells c p (some bl) (some br) (2 + j)) 2) (.int .i64 1)) w = .ok (pp br) w := fun w => run_index_row (P := Tryz.prog) 199 198 2 .i64 (fun j => pcells c p (some bl) (some br) (2 + j)) 1 (by omega) Tryz.underlying199 agg82 size82 w
    clear prow c2
    go_loopw [5, 25] (fun _ iv wr => (iv = .int .i64 0 ∧ wr = w) ∨ (iv = .int .i64 1 ∧ Hid (wr.rowIs B 3 n (fun j => .int .i64 (L j + l.occ j)) ∧ Fr (fun k => k = B) w wr)) ∨ (iv = .int .i64 2 ∧ Hid (wr.rowIs B 3 n (fun j => .int .i64 (L j + (l.occ j + r.occ j : Nat))) ∧ Fr (fun k => k = B) w wr))) (fun _ iv _ => 2 - (intOf iv).toNat)
    case atStart => exact .inl ⟨rfl, rfl⟩
    case round =>
      rcases hrel with ⟨rfl, rfl⟩ | ⟨rfl, H1⟩ | ⟨rfl, H1⟩
      · go_wp2_with fail
        refine (ih1 bl B n L wr HP.out.1 HR.out HB.out.1 (fun j hj => by have := HL.out j hj; omega)).mono ?_
        rintro e w1 ⟨rfl, h1, h2⟩
        have H2 : Hid (w1.rowIs B 3 n (fun j => .int .i64 (L j + l.occ j)) ∧ Fr (fun k => k = B) wr w1) := ⟨h1, h2⟩
        clear h1 h2
        go_wp2_with fail
        go_roundw
        case rel => exact .inr (.inl ⟨rfl, H2⟩)
        case measure => simp [intOf]
      · have KP : Hid (Kp w wr) := Kp.ofFr H1.out.2 (fun b' f' hb h' => by
          subst hb
          have := rowIs_type HR.out h'
          omega)
        go_wp2_with fail
        refine (ih2 br B n (fun j => L j + l.occ j) wr (HP.out.2.kp KP.out) H1.out.1 HB.out.2 (fun j hj => by have := HL.out j hj; omega)).mono ?_
        rintro e w1 ⟨rfl, h1, h2⟩
        have H2 : Hid (w1.rowIs B 3 n (fun j => .int .i64 (L j + (l.occ j + r.occ j : Nat))) ∧ Fr (fun k => k = B) w w1) := ⟨h1.congr (fun j _ => by rw [Int.natCast_add, Int.add_assoc]), H1.out.2.trans h2 (fun _ _ e => e)⟩
        clear h1 h2 H1 KP
        go_wp2_with fail
        go_roundw
        case rel => exact .inr (.inr ⟨rfl, H2⟩)
        case measure => simp [intOf]
      · go_wp2
        go_end0
        exact ⟨rfl, H1.out⟩

/-- What the first k parts hold of a symbol. -/
def ocs (f : Nat → It) (k s : Nat) : Nat := sn (fun x => x.2.occ s) (fst f k)

theorem ocs_succ (f : Nat → It) (k s : Nat) : ocs f (k + 1) s = ocs f k s + (f k).2.occ s := by
  unfold ocs; rw [fst_succ, sn_append]; simp [sn]

theorem ocs_le (f : Nat → It) (j k s : Nat) (h : j ≤ k) : ocs f j s ≤ ocs f k s := by
  induction k with
  | zero => obtain rfl : j = 0 := by omega
            omega
  | succ k ih =>
    rcases Nat.lt_or_ge j (k + 1) with h' | h'
    · have := ih (by omega); rw [ocs_succ]; omega
    · obtain rfl : j = k + 1 := by omega
      omega

set_option maxRecDepth 100000 in
set_option maxHeartbeats 2000000 in
theorem lengths_any (n k c : Nat) (ao : Option Addr) (f : Nat → It) (w : World) (h : Rp w ao k c f) (hn : n ≤ 300) (hb : ∀ j, j < k → Blw n (f j).2) (hL : ∀ s, s < n → ocs f k s ≤ 1000000) (hk : k ≤ 1000000) :
    Calls Tryz.prog 145 #[.int .i64 n, .slice ao k c] w fun e w' => ∃ B, e = .returned (.slice (some ⟨B, 0, none⟩) n n) ∧ w'.rowIs B 3 n (fun j => .int .i64 (ocs f k j)) ∧ w.heap.size ≤ B ∧ Below w.heap.size w w' := by
  have HR : Hid (Rp w ao k c f) := h
  have HB : Hid (∀ j, j < k → Blw n (f j).2) := hb
  have HL : Hid (∀ s, s < n → ocs f k s ≤ 1000000) := hL
  clear h hb hL
  obtain ⟨i0, hi, hz0, hz1, hz2⟩ := info_parts Tryz.info3
  go_enter Tryz.func145, Tryz.ntmps145
  go_wp2_with (at_make; refine wpList_make_row _ rfl _ _ 59 rfl 3 i0 (.int .i64 0) Tryz.underlying59 hi hz0 hz1 rfl .i64 .i64 n rfl rfl (by rw [hz2]; omega) (by omega) ?_)
  clear hi hz0 hz1 hz2
  have r0 := made_row w n
  have b0 : Below w.heap.size w (w.alloc (.cells (madeCells #[.int .i64 0] n) 3)) := (Below.refl _ _).alloc (Nat.le_refl _) _
  obtain ⟨B, hB⟩ : ∃ B, B = w.heap.size := ⟨_, rfl⟩
  have R0 : Hid ((w.alloc (.cells (madeCells #[.int .i64 0] n) 3)).rowIs B 3 n (fun j => .int .i64 (ocs f 0 j))) := by rw [hB]; exact r0
  have B0 : Hid (Below w.heap.size w (w.alloc (.cells (madeCells #[.int .i64 0] n) 3))) := b0
  rw [← hB]
  have EB : Hid (B = w.heap.size) := hB
  clear r0 b0 hB
  go_loopw [7, 12] (fun _ iv wr => ∃ i : Nat, iv = .int .i64 i ∧ i ≤ k ∧ Hid (wr.rowIs B 3 n (fun j => .int .i64 (ocs f i j))) ∧ Hid (Below w.heap.size w wr)) (fun _ iv _ => k - (intOf iv).toNat)
  case atStart => exact ⟨0, rfl, by omega, R0, B0⟩
  case round =>
    clear R0 B0
    obtain ⟨i, rfl, hi, RR', BB⟩ := hrel
    by_cases hlt : i < k
    · have rp := HR.out.keep BB.out
      obtain ⟨b, off, rfl, hcell⟩ := rp.plain (by omega)
      have ci := hcell i hlt
      have hle := rp.le
      have PP : Hid (IsP wr (f i).1 (f i).2) := rp.prt i hlt
      clear hcell rp
      go_wp2_with fail
      refine (lengthen_any (f i).2 (f i).1 B n (fun j => ocs f i j) wr PP.out RR'.out (HB.out i hlt) (fun j hj => by
        have h1 := HL.out j hj
        have h2 := ocs_le f (i + 1) k j hlt
        rw [ocs_succ] at h2
        omega)).mono ?_
      rintro e w1 ⟨rfl, h1, h2⟩
      have R1 : Hid (w1.rowIs B 3 n (fun j => .int .i64 (ocs f (i + 1) j))) := h1.congr (fun j _ => by rw [ocs_succ, Int.natCast_add])
      have B1 : Hid (Below w.heap.size w w1) := BB.out.trans (h2.below _ BB.out.size (fun q hq e => by have := EB.out; omega))
      clear h1 h2 RR' BB PP ci
      go_wp2_with fail
      go_roundw
      case rel => exact ⟨i + 1, by go_num, by omega, R1, B1⟩
      case measure => simp [intOf]; omega
    · obtain rfl : i = k := by omega
      go_wp2
      go_ret
      exact ⟨B, rfl, RR'.out, by have := EB.out; omega, BB.out⟩

end Go.Proofs.YtiahbicodlgmhaaGreatDoor.Lim

/- packages. -/
namespace Go.Proofs.YtiahbicodlgmhaaGreatDoor.Lim
open Go.RowKit

/-- What is made in i rounds. -/
def Mk (S : List Pt) : Nat → List Pt → Prop
  | 0, M => M = []
  | i + 1, M => ∃ ys, Rw S i ys ∧ M = prs 288 ys

theorem Mk.next {S M zs : List Pt} {i : Nat} (h : Mk S i M) (hp : zs.Perm (S ++ M)) (hs : zs.Pairwise Ple) : Rw S i zs := by
  cases i with
  | zero =>
    have e : M = [] := h
    subst e
    rw [List.append_nil] at hp
    exact .base zs hp hs
  | succ i =>
    obtain ⟨ys, hr, rfl⟩ := h
    exact .step i ys zs hr hp hs

theorem Mk.len {S M : List Pt} {i : Nat} (h : Mk S i M) (hn : 0 < S.length) : M.length < S.length := by
  cases i with
  | zero =>
    have e : M = [] := h
    subst e
    exact hn
  | succ i =>
    obtain ⟨ys, hr, rfl⟩ := h
    have := (hr.len hn).1
    rw [prs_len]
    omega

theorem Mk.ct {D : Nat → Int} {ss : List Nat} {S M : List Pt} (hS : Sy D ss S) {i : Nat} (h : Mk S i M) (hi : i ≤ 15) : ∀ t ∈ S ++ M, 0 ≤ t.ct ∧ t.ct ≤ 1000000000000 := by
  intro t ht
  have key : ∀ k, k ≤ 15 → Wf D ss k t → 0 ≤ t.ct ∧ t.ct ≤ 1000000000000 := fun k hk hw => by
    have h1 := hw.bound hS.pos
    have h2 := p2_le k 15 hk
    have h3 : (2 : Int) ^ 15 = 32768 := rfl
    omega
  rcases List.mem_append.1 ht with h' | h'
  · obtain ⟨s, hs, rfl⟩ := hS.leaf h'
    exact key 0 (by omega) ⟨rfl, hs⟩
  · cases i with
    | zero =>
      have e : M = [] := h
      subst e
      simp at h'
    | succ i =>
      obtain ⟨ys, hr, rfl⟩ := h
      obtain ⟨q, a, b, rfl, ha, hb⟩ := prs_node h'
      exact key (i + 1) hi ⟨rfl, Rw.wf hS hr a ha, Rw.wf hS hr b hb⟩

theorem prs_app : ∀ (p : Int) (l : List Pt) (x y : Pt), l.length % 2 = 0 → prs p (l ++ [x, y]) = prs p l ++ [.node (x.ct + y.ct) (p + ((prs p l).length : Int)) x y]
  | p, [], x, y, _ => by simp [prs]
  | _, [_], _, _, h => by simp at h
  | p, a :: b :: r, x, y, h => by
    have ih := prs_app (p + 1) r x y (by simp only [List.length_cons] at h; omega)
    simp only [List.cons_append, prs, List.length_cons]
    rw [ih, show p + 1 + ((prs (p + 1) r).length : Int) = p + (((prs (p + 1) r).length + 1 : Nat) : Int) by omega]

theorem prs_odd : ∀ (p : Int) (l r : List Pt), l.length % 2 = 0 → r.length ≤ 1 → prs p (l ++ r) = prs p l
  | _, [], [], _, _ => rfl
  | _, [], [_], _, _ => rfl
  | _, [], _ :: _ :: _, _, hr => by simp at hr
  | _, [_], _, h, _ => by simp at h
  | p, a :: b :: q, r, h, hr => by
    simp only [List.cons_append, prs]
    rw [prs_odd (p + 1) q r (by simp only [List.length_cons] at h; omega) hr]

/-- Within a round: what was taken out, what is left, what was made. -/
structure Po (U pre rest made : List Pt) : Prop where
  perm : (pre ++ rest).Perm U
  srt : pre.Pairwise Ple
  sep : ∀ a ∈ pre, ∀ b ∈ rest, Ple a b
  even : pre.length % 2 = 0
  pk : made = prs 288 pre

theorem Po.step {U pre rest made rest' : List Pt} {x y : Pt} (h : Po U pre rest made) (hp : (x :: y :: rest').Perm rest) (hxy : Ple x y) (hy : ∀ z ∈ rest', Ple y z) :
    Po U (pre ++ [x, y]) rest' (made ++ [.node (x.ct + y.ct) (288 + (made.length : Int)) x y]) := by
  refine ⟨?_, ?_, ?_, by rw [List.length_append]; have := h.even; simp; omega, by rw [prs_app _ _ _ _ h.even, h.pk]⟩
  · rw [List.append_assoc]
    exact ((List.perm_append_left_iff pre).2 hp).trans h.perm
  · refine List.pairwise_append.2 ⟨h.srt, List.pairwise_cons.2 ⟨fun b hb => by rw [List.mem_singleton] at hb; subst hb; exact hxy, List.pairwise_singleton _ _⟩, fun a ha b hb => ?_⟩
    refine h.sep a ha b (hp.mem_iff.1 ?_)
    simp only [List.mem_cons, List.not_mem_nil, or_false] at hb ⊢
    rcases hb with h' | h'
    · exact .inl h'
    · exact .inr (.inl h')
  · intro a ha b hb
    rcases List.mem_append.1 ha with h' | h'
    · exact h.sep a h' b (hp.mem_iff.1 (by simp [hb]))
    · simp only [List.mem_cons, List.not_mem_nil, or_false] at h'
      rcases h' with rfl | rfl
      · exact hxy.trans (hy b hb)
      · exact hy b hb

theorem Po.done {S M pre rest made : List Pt} {i : Nat} (h : Po (S ++ M) pre rest made) (hM : Mk S i M) (hl : rest.length ≤ 1) : Mk S (i + 1) made := by
  refine ⟨pre ++ rest, hM.next h.perm ?_, by rw [prs_odd _ _ _ h.even hl]; exact h.pk⟩
  refine List.pairwise_append.2 ⟨h.srt, ?_, h.sep⟩
  match rest, hl with
  | [], _ => exact List.Pairwise.nil
  | [_], _ => exact List.pairwise_singleton _ _
  | a :: b :: q, hl => simp at hl

/-- Within a round, in memory. -/
structure In (w wq wr : World) (Q A c k : Nat) (f : Nat → It) (v : Value) (m : Nat) (g : Nat → It) : Prop where
  q : IsQ wr Q A k c f
  hp : Hp f 0 k
  own : wr.ownsRow wq.heap.size 198 1 v m (pps g m)
  prt : ∀ j, j < m → IsP wr (g j).1 (g j).2
  fr : Fr (fun k => k = Q ∨ k = A) wq wr
  bel : Below w.heap.size w wq
  bQ : w.heap.size ≤ Q ∧ Q < wq.heap.size
  bA : w.heap.size ≤ A ∧ A < wq.heap.size

theorem In.ow {w wq wr : World} {Q A c k : Nat} {f : Nat → It} {v : Value} {m : Nat} {g : Nat → It} (h : In w wq wr Q A c k f v m g) : Ow w wr v m g := by
  have hs := h.bel.size
  refine ⟨?_, h.prt, h.bel.trans (h.fr.below _ hs (fun i hi e => by have := h.bQ; have := h.bA; omega))⟩
  refine ⟨h.own.1, ?_⟩
  rcases h.own.2 with h' | ⟨g', cap, cur, e, hb, hrest⟩
  · exact .inl h'
  · exact .inr ⟨g', cap, cur, e, by omega, hrest⟩

/-- One more is made. -/
theorem In.put {w wq w1 w2 w3 : World} {Q A c k k' : Nat} {f f' : Nat → It} {v v' : Value} {m b : Nat} {t : Pt} {g : Nat → It} (h : In w wq w1 Q A c k f v m g)
    (hq : IsQ w2 Q A k' c f') (hh : Hp f' 0 k') (hf : Fr (fun k => k = Q ∨ k = A) w1 w2) (hb : IsP w2 b t)
    (ho : w3.ownsRow wq.heap.size 198 1 v' (m + 1) (pps g m ++ pps (fun _ => (b, t)) 1)) (hg : (w2.alloc (Obj.cells #[pp b] 198)).grownBy w3 v.ownBlock) : In w wq w3 Q A c k' f' v' (m + 1) (psh g m (b, t)) := by
  have kp12 := h.q.kp hf
  have f12 : Fr (fun k => k = Q ∨ k = A) wq w2 := h.fr.trans hf (fun _ _ e => e)
  have own2 : w2.ownsRow wq.heap.size 198 1 v m (pps g m) := ownsRow_fr h.own hf (fun k hk e => by have := (h.own.lt k hk).1; have := h.bQ; have := h.bA; omega)
  have f23 : Fr (fun k => v.ownBlock = some k) w2 w3 := ((Fr.refl (fun k => v.ownBlock = some k) w2).alloc _).grown hg (fun k _ e => e)
  have kp23 : Kp w2 w3 := Kp.ofFr f23 (fun k f' hk hr => by
    rcases own2.2 with ⟨rfl, _⟩ | ⟨gg, cap, cur, rfl, _, hh, _⟩
    · cases hk
    · cases hk
      obtain ⟨cs, hb, _⟩ := hr
      rw [hh] at hb
      simp at hb)
  have hge : ∀ k, v.ownBlock = some k → wq.heap.size ≤ k := fun k hk => (h.own.lt k hk).1
  have q3 : IsQ w3 Q A k' c f' := ⟨rowIs_fr hq.box f23 (fun e => by have := hge _ e; have := h.bQ; omega), hq.arr.fr f23 (fun e => by have := hge _ e; have := h.bA; omega) kp23⟩
  refine ⟨q3, hh, ?_, fun j hj => ?_, f12.trans f23 (fun i hi e => by have := hge _ e; omega), h.bel, h.bQ, h.bA⟩
  · have e : pps (psh g m (b, t)) (m + 1) = pps g m ++ pps (fun _ => (b, t)) 1 := by unfold pps; rw [fst_psh, List.map_append]; rfl
    rw [e]; exact ho
  · by_cases e : j = m
    · subst e; rw [psh_at]; exact hb.kp kp23
    · rw [psh_lt _ _ _ _ (by omega)]
      exact ((h.prt j (by omega)).kp kp12).kp kp23

/-- Two lists, one behind the other. -/
def jn (f : Nat → It) (n : Nat) (g : Nat → It) : Nat → It := fun j => if j < n then f j else g (j - n)

theorem jn_fst (f : Nat → It) (n : Nat) (g : Nat → It) (m : Nat) : fst (jn f n g) (n + m) = fst f n ++ fst g m := by
  induction m with
  | zero =>
    rw [Nat.add_zero, fst_congr (jn f n g) f n (fun k hk => by simp [jn, hk])]
    simp [fst]
  | succ m ih =>
    rw [← Nat.add_assoc, fst_succ, ih, fst_succ, ← List.append_assoc]
    congr 2
    have : ¬ n + m < n := by omega
    simp [jn, this]

theorem jn_pps (f : Nat → It) (n : Nat) (g : Nat → It) (m : Nat) : pps (jn f n g) (n + m) = pps f n ++ pps g m := by
  unfold pps; rw [jn_fst, List.map_append]

theorem load_q {wr : World} {Q A k c : Nat} {f : Nat → It} (h : IsQ wr Q A k c f) : wr.cell? ⟨Q, 0, none⟩ = some (.slice (some ⟨A, 0, none⟩) k c) := h.box.cell (i := 0) (by omega)

set_option maxRecDepth 100000 in
set_option maxHeartbeats 4000000 in
theorem packages_any (D : Nat → Int) (ss : List Nat) (S : List Pt) (hS : Sy D ss S) (ao : Option Addr) (n c r : Nat) (f : Nat → It) (w : World) (h : Rp w ao n c f) (hmap : (fst f n).map Prod.snd = S) (h2 : 2 ≤ n) (hn : n ≤ 300) (hr : r ≤ 15) :
    Calls Tryz.prog 147 #[.slice ao n c, .int .i64 r] w fun e w' => ∃ v m g M, e = .returned v ∧ Ow w w' v m g ∧ (fst g m).map Prod.snd = M ∧ Mk S r M := by
  have hlS : S.length = n := by rw [← hmap]; simp [fst]
  have HR : Hid (Rp w ao n c f) := h
  have HM : Hid ((fst f n).map Prod.snd = S) := hmap
  have HS : Hid (Sy D ss S) := hS
  clear h hmap hS
  go_enter Tryz.func147, Tryz.ntmps147
  go_wp2
  go_loopw [5, 6, 8] (fun mv _ iv wr => ∃ (i m : Nat) (g : Nat → It) (M : List Pt), iv = .int .i64 i ∧ i ≤ r ∧ Hid (Ow w wr mv m g) ∧ Hid ((fst g m).map Prod.snd = M) ∧ Hid (Mk S i M)) (fun _ _ iv _ => r - (intOf iv).toNat)
  case atStart => exact ⟨0, 0, fun _ => (0, .leaf 0 0), [], rfl, by omega, ⟨World.ownsRow_nil _ _ _ _, fun j hj => by omega, Below.refl _ _⟩, rfl, rfl⟩
  case round =>
    obtain ⟨i, m, g, M, rfl, hi, HO, HG, HK⟩ := hrel
    by_cases hlt : i < r
    · obtain ⟨bo, d, hv, hrp, hbo⟩ := HO.out.rp
      subst hv
      have hm : m < n := by
        have h1 := HK.out.len (by omega)
        rw [← HG.out] at h1
        simp [fst] at h1
        omega
      have b1 : Below wr.heap.size wr (wr.alloc (Obj.cells #[.slice ao n c, .slice bo m d] 191)) := (Below.refl _ _).alloc (Nat.le_refl _) _
      have rw2 := World.rowIs_alloc wr #[.slice ao n c, .slice bo m d] 191 (fun j => if j = 0 then .slice ao n c else .slice bo m d) (fun j hj => by
        simp at hj
        rcases j with _ | _ | j <;> first | rfl | omega)
      have k0 := rw2.cell (i := 0) (by simp)
      have k1 := rw2.cell (i := 1) (by simp)
      have rf := (HR.out.keep HO.out.bel).keep b1
      have rg := hrp.keep b1
      have B1 : Hid (Below w.heap.size w (wr.alloc (Obj.cells #[.slice ao n c, .slice bo m d] 191))) := HO.out.bel.trans (b1.mono HO.out.bel.size)
      have hc := concat_any wr.heap.size n c m d ao bo f g _ rf rg (by omega) (by omega) k0 k1
      have HPR : Hid ((∀ j, j < n → IsP (wr.alloc (Obj.cells #[.slice ao n c, .slice bo m d] 191)) (f j).1 (f j).2) ∧ (∀ j, j < m → IsP (wr.alloc (Obj.cells #[.slice ao n c, .slice bo m d] 191)) (g j).1 (g j).2)) := ⟨rf.prt, rg.prt⟩
      clear k0 k1 rf rg rw2 b1 hrp hbo HO
      go_wp2_with fail
      refine hc.mono ?_
      rintro e w2 ⟨v2, rfl, o2, b2⟩
      have B2 : Hid (Below w.heap.size w w2) := B1.out.trans (b2.mono B1.out.size)
      obtain ⟨ao2, c2, rfl, rp2⟩ : ∃ ao2 c2, v2 = .slice ao2 (n + m) c2 ∧ Rp w2 ao2 (n + m) c2 (jn f n g) := by
        have o2' : w2.ownsRow (wr.alloc (Obj.cells #[.slice ao n c, .slice bo m d] 191)).heap.size 198 1 v2 (n + m) (pps (jn f n g) (n + m)) := by rw [jn_pps]; exact o2
        obtain ⟨a2, c2, e2, r2, _⟩ := own_rp o2' (fun j hj => by
          unfold jn
          split
          · exact (HPR.out.1 j (by assumption)).kp (Kp.ofBelow b2)
          · exact (HPR.out.2 (j - n) (by omega)).kp (Kp.ofBelow b2))
        exact ⟨a2, c2, e2, r2⟩
      clear o2 b2 hc HPR B1
      go_wp2_with fail
      refine (newq_any ao2 (n + m) c2 (jn f n g) w2 rp2 (by omega) (by omega)).mono ?_
      rintro e w3 ⟨Q, A, c3, f3, rfl, q3, hp3, pm3, bQ, bA, b3⟩
      have hAlt : A < w3.heap.size := by obtain ⟨_, hr, _⟩ := q3.arr.row; exact hr.lt
      have hQlt : Q < w3.heap.size := q3.box.lt
      have hws := B2.out.size
      have IN : Hid (In w w3 w3 Q A c3 (n + m) f3 (.slice none 0 0) 0 (fun _ => (0, .leaf 0 0))) :=
        ⟨q3, hp3, World.ownsRow_nil _ _ _ _, (fun j hj => by omega), Fr.refl _ _, B2.out.trans (b3.mono hws), ⟨by omega, hQlt⟩, ⟨by omega, hAlt⟩⟩
      have PO : Hid (Po (S ++ M) [] ((fst f3 (n + m)).map Prod.snd) ((fst (fun _ => ((0, .leaf 0 0) : It)) 0).map Prod.snd)) := by
        refine ⟨?_, List.Pairwise.nil, (fun a ha => by simp at ha), rfl, rfl⟩
        rw [List.nil_append, ← HM.out, ← HG.out, ← List.map_append, ← jn_fst]
        exact pm3.map _
      have HCT : Hid (∀ t ∈ S ++ M, 0 ≤ t.ct ∧ t.ct ≤ 1000000000000) := HK.out.ct HS.out (by omega)
      have hUl : (S ++ M).length = n + m := by rw [List.length_append, hlS, ← HG.out]; simp [fst]
      have HUl : Hid ((S ++ M).length = n + m) := hUl
      clear q3 hp3 pm3 bQ bA b3 rp2 B2 hAlt hQlt hws hUl
      go_wp2_with fail
      go_loopg [5] (n + m) (fun kx mv wx => ∃ (m1 : Nat) (g1 f1 : Nat → It) (pre : List Pt), Hid (In w w3 wx Q A c3 kx f1 mv m1 g1) ∧ Hid (Po (S ++ M) pre ((fst f1 kx).map Prod.snd) ((fst g1 m1).map Prod.snd)))
      case atStart => exact ⟨0, _, f3, [], IN, PO⟩
      case round =>
        clear IN PO
        obtain ⟨m1, g1, f1, pre, I1, P1⟩ := hrel
        have cq := load_q I1.out.q
        have hlen : pre.length + gk = n + m := by
          have := P1.out.perm.length_eq
          rw [List.length_append, HUl.out] at this
          simpa [fst] using this
        by_cases hk : gk ≤ 1
        · have d1 : decide ((1 : Int) < (gk : Int)) = false := by simp; omega
          have OW : Hid (Ow w _ _ m1 g1) := I1.out.ow
          have MK : Hid (Mk S (i + 1) ((fst g1 m1).map Prod.snd)) := P1.out.done HK.out (by simp [fst]; omega)
          clear I1 P1 HK HG HCT HUl hlen
          go_wp2_with fail
          refine (qlen_any _ _ _ _).mono ?_
          rintro e w4 ⟨rfl, hw⟩
          subst w4
          go_wp2_with fail
          go_roundw
          case rel => exact ⟨i + 1, m1, g1, _, by go_num, by omega, OW, rfl, MK⟩
          case measure => simp [intOf]; omega
        · obtain ⟨k, rfl⟩ : ∃ k, gk = k + 2 := ⟨gk - 2, by omega⟩
          have d1 : decide ((1 : Int) < ((k + 2 : Nat) : Int)) = true := by simp; omega
          have hm1 : m1 = pre.length / 2 := by
            have := congrArg List.length P1.out.pk
            rw [prs_len] at this
            simpa [fst] using this
          have hm2 : m1 ≤ 1000 := by omega
          obtain ⟨ao1, e1, hv1, rp1, _⟩ := I1.out.ow.rp
          subst hv1
          have hct1 : ∀ j, j < k + 2 → 0 ≤ (f1 j).2.ct ∧ (f1 j).2.ct ≤ 1000000000000 := fun j hj => HCT.out _ (P1.out.perm.mem_iff.1 (List.mem_append_right _ (List.mem_map.2 ⟨f1 j, (fst_mem _ _ _).2 ⟨j, hj, rfl⟩, rfl⟩)))
          have hpair := pair_any Q A k c3 (288 + (m1 : Int)) f1 _ I1.out.q (by omega) I1.out.hp hct1
          clear hct1 hm1 rp1
          go_wp2_with fail
          refine (qlen_any _ _ _ _).mono ?_
          rintro e w4 ⟨rfl, hw⟩
          subst w4
          go_wp2_with fail
          refine hpair.mono ?_
          rintro e w4 ⟨b, x, y, f4, rfl, pb, q4, hp4, ⟨bx, bY, pm4⟩, lxy, ly, hb4, fr4⟩
          have op := one_part w4 b _ pb
          have own4 : (w4.alloc (Obj.cells #[pp b] 198)).ownsRow w3.heap.size 198 1 (.slice ao1 m1 e1) m1 (pps g1 m1) :=
            ownsRow_fr (ownsRow_fr I1.out.own fr4 (fun q hq e => by have := (I1.out.own.lt q hq).1; have := I1.out.bQ; have := I1.out.bA; omega)) ((Fr.refl (fun _ => False) _).alloc _) (fun _ _ h => h)
          have hsz4 : w3.heap.size ≤ (w4.alloc (Obj.cells #[pp b] 198)).heap.size := by
            have h1 := (I1.out.fr.trans fr4 (fun _ _ e => e)).size
            simp
            omega
          have P2 : Hid (Po (S ++ M) (pre ++ [x, y]) ((fst f4 k).map Prod.snd) ((fst (psh g1 m1 (b, .node (x.ct + y.ct) (288 + (m1 : Int)) x y)) (m1 + 1)).map Prod.snd)) := by
            have h1 := P1.out.step (x := x) (y := y) (rest' := (fst f4 k).map Prod.snd) (by have := pm4.map Prod.snd; simpa using this) lxy (fun z hz => by
              obtain ⟨t, ht, rfl⟩ := List.mem_map.1 hz
              exact ly t ht)
            have e2 : ((fst g1 m1).map Prod.snd).length = m1 := by simp [fst]
            rw [e2] at h1
            show Po _ _ _ _
            rw [fst_psh, List.map_append]
            exact h1
          have PUT : Hid (∀ w5 v5, w5.ownsRow w3.heap.size 198 1 v5 (m1 + 1) (pps g1 m1 ++ pps (fun _ => (b, Pt.node (x.ct + y.ct) (288 + (m1 : Int)) x y)) 1) → (w4.alloc (Obj.cells #[pp b] 198)).grownBy w5 (Value.slice ao1 m1 e1).ownBlock →
            In w w3 w5 Q A c3 k f4 v5 (m1 + 1) (psh g1 m1 (b, Pt.node (x.ct + y.ct) (288 + (m1 : Int)) x y))) := fun w5 v5 ho hg => I1.out.put q4 hp4 fr4 pb ho hg
          clear pb q4 hp4 pm4 lxy ly hb4 fr4 hpair I1 P1 cq
          go_wp2_with (refine wpList_append_pv rfl _ _ rfl w3.heap.size m1 _ (pps g1 m1) rfl own4 _ 1 1 (fun _ => (b, Pt.node (x.ct + y.ct) (288 + (m1 : Int)) x y)) rfl op (by omega) hsz4 ?_; intro v5 w5 o5 g5)
          have I5 : Hid (In w w3 w5 Q A c3 k f4 v5 (m1 + 1) (psh g1 m1 (b, Pt.node (x.ct + y.ct) (288 + (m1 : Int)) x y))) := PUT.out w5 v5 o5 g5
          clear o5 g5 PUT own4 op hsz4
          go_wp2_with fail
          go_roundg k
          case measure => omega
          case rel => exact ⟨m1 + 1, _, f4, _, I5, P2⟩
    · obtain rfl : i = r := by omega
      go_wp2
      go_ret
      exact ⟨_, m, g, M, rfl, HO.out, HG.out, HK.out⟩

end Go.Proofs.YtiahbicodlgmhaaGreatDoor.Lim
