/- keepBlocks. -/
import Derived.Test.YthaibdflehnbbaaWWind
import Derived.Maps.OwnRows
import Derived.Maps.GroupsBeside
import Derived.Maps.OwnSet
namespace Go.Proofs.Ythaibdflehnbbaa
open Go.RowKit Go.Maps Go.ChangeShapes

theorem Try.law91 : Keyed Try.prog 91 := int_keyed Try.underlying91
theorem Try.zero98 (w : World) : (zeroValue 98).run Try.prog w = .ok (.slice none 0 0) w := by kernel_rfl
theorem Try.info3 : (Try.prog.info? 3).map (fun i => (i.zero, i.size, i.bytes)) = some (some (.int .i64 0), 1, 8) := by kernel_rfl

theorem u32_wf (h : Int) (h0 : 0 ≤ h) (h1 : h < 4294967296) : (Lit.int .u32 h).wf = true := by
  have a : IntKind.u32.min = 0 := by decide
  have b : IntKind.u32.max = 4294967295 := by decide
  simp [Lit.wf]
  omega

/-- All places of the map lie where a block of N bytes has room. -/
def Rg (N : Nat) (D : DataW Unit) : Prop := IsMap D ∧ ∀ (x : Int) (zs : List Int), D.atKey (.int .u32 x) .nil = .slice (lits .i64 zs) [] → ∀ z ∈ zs, 0 ≤ z ∧ z + 16 ≤ N

theorem lits_inj {zs ys : List Int} (h : (lits (H := Unit) .i64 zs) = lits .i64 ys) : zs = ys := by
  unfold lits at h
  exact (List.map_inj_right (fun a b hab => by injection hab with h; injection h)).1 h

theorem Rg.none (N : Nat) : Rg N (.map []) := ⟨⟨[], rfl⟩, fun x zs h => by simp [DataW.atKey] at h⟩

theorem Rg.put {N : Nat} {D : DataW Unit} (h : Rg N D) (x : Int) (v : Value) (zs : List Int) (hz : ∀ z ∈ zs, 0 ≤ z ∧ z + 16 ≤ N) : Rg N (D.put (.int .u32 x) (rowDatum .i64 v zs)) := by
  obtain ⟨hm, hr⟩ := h
  refine ⟨?_, fun y ys hy => ?_⟩
  · obtain ⟨es, rfl⟩ := hm
    exact ⟨_, rfl⟩
  · by_cases he : y = x
    · subst he
      rw [atKey_put_same hm (by trivial)] at hy
      unfold rowDatum at hy
      split at hy
      · cases hy
      · injection hy with h1
        rw [← lits_inj h1]
        exact hz
    · rw [atKey_put_other (fun e => he (by injection e))] at hy
      exact hr y ys hy

theorem Rg.at {N : Nat} {D : DataW Unit} (h : Rg N D) (x : Int) {w : World} {base : Nat} {v : Value} {zs : List Int} (hat : D.atKey (.int .u32 x) .nil = rowDatum .i64 v zs) (ho : w.ownsInts base 3 .i64 v zs) : ∀ z ∈ zs, 0 ≤ z ∧ z + 16 ≤ N := by
  rcases ho.datum (H := Unit) with ⟨_, e⟩ | e
  · subst e; intro z hz; cases hz
  · rw [e] at hat
    exact h.2 x zs hat

theorem grown_alloc (w : World) (o : Obj) (r : Option Nat) : w.grownBy (w.alloc o) r := ⟨rfl, rfl, rfl, by simp, fun k hk _ => (new_below w o).block k hk⟩

set_option maxRecDepth 100000 in
set_option maxHeartbeats 1000000 in
theorem keepBlocks_any (bo : Option Addr) (N C : Nat) (bs : List Int) (tg : Option Addr) (M E : Nat) (ef : Int) (w : World) (hb : Rd w bo N C bs) (hN : N ≤ 1000000) (hM : M ≤ 1000000) :
    Calls Try.prog 54 #[.slice bo N C, .slice tg M E, .int .i64 ef] w fun e w' => e = .returned (.map (some w.heap.size)) ∧ ∃ (k : Nat) (D : DataW Unit), w'.ownsGroups Try.prog 91 (w.heap.size + 1) 3 .i64 w.heap.size k D ∧ Rg N D ∧ k ≤ 1000000 ∧ Below w.heap.size w w' := by
  obtain ⟨i0, hi, hz0, hz1, hz2⟩ := info_parts Try.info3
  have hmm := @run_makeMap Try.prog
  have HB : Hid (Rd w bo N C bs) := hb
  have G0 : Hid ((w.alloc (.map #[] 0)).ownsGroups (H := Unit) Try.prog 91 (w.heap.size + 1) 3 .i64 w.heap.size 0 (.map [])) := World.ownsGroups_made w Try.prog 91 3 .i64
  have B0 : Hid (Below w.heap.size w (w.alloc (.map #[] 0))) := new_below w _
  clear hb
  by_cases he : ef ≤ 0
  · go_enter Try.func54, Try.ntmps54
    go_wp2
    go_ret
    exact ⟨rfl, 0, _, G0.out, Rg.none N, by omega, B0.out⟩
  · by_cases hm16 : M < 16
    · have z1 : (M : Int) < 16 := by omega
      go_enter Try.func54, Try.ntmps54
      go_wp2
      go_ret
      exact ⟨rfl, 0, _, G0.out, Rg.none N, by omega, B0.out⟩
    · have z1 : ¬ (M : Int) < 16 := by omega
      go_enter Try.func54, Try.ntmps54
      go_wp2
      go_loopw [8] (fun i wr => ∃ (k : Nat) (D : DataW Unit), 16 * k ≤ N + 16 ∧ i = .int .i64 (16 * k : Nat) ∧ Hid (wr.ownsGroups Try.prog 91 (w.heap.size + 1) 3 .i64 w.heap.size k D) ∧ Hid (Rg N D) ∧ Hid (Below w.heap.size w wr)) (fun i _ => N + 16 - (intOf i).toNat)
      case atStart => exact ⟨0, .map [], by omega, rfl, G0, Rg.none N, B0⟩
      case round =>
        obtain ⟨k, D, hk, rfl, hG, hR, hbe⟩ := hrel
        clear G0 B0
        obtain ⟨p, hp⟩ : ∃ p, p = 16 * k := ⟨_, rfl⟩
        have HP : Hid (p = 16 * k) := hp
        rw [← hp]
        by_cases hlt : p + 16 ≤ N
        · have z2 : (p : Int) + 16 ≤ N := by omega
          have hkk : k ≤ 1000000 := by omega
          clear hp hk
          go_wp2_with fail
          refine (newWindow_any bo N C bs p wr (HB.out.keep hbe.out) (by omega) hN).mono ?_
          rintro e w1 ⟨R, s, rfl, hr, hs0, hs1, hRl, hB1⟩
          have c2 := hr.cell (i := 2) (by omega)
          simp only [wc] at c2
          have G1 : w1.ownsGroups (H := Unit) Try.prog 91 (w.heap.size + 1) 3 .i64 w.heap.size k D := hG.out.kept ⟨hB1.os, hB1.tape, hB1.output, hB1.size, fun i hi _ => hB1.block i hi⟩ (row := none) (by simp) (fun es clock _ x _ => by cases x.val.ownBlock <;> simp)
          have hkey := keyOf_int_mk (P := Try.prog) (k := 91) Try.underlying91 (u32_wf s hs0 hs1)
          have B1 : Hid (Below w.heap.size w w1) := hbe.out.trans (hB1.mono hbe.out.size)
          have hsz1 : w.heap.size + 1 ≤ (w1.alloc (.cells #[.int .i64 p] 3)).heap.size := by have := B1.out.size; simp; omega
          clear hG hbe
          go_wp2_with (first
            | (at_lookup; refine wpList_lookup_groups _ rfl _ _ 85 rfl 91 98 3 .i64 Try.law91 Try.underlying85 (Try.zero98 _) (w.heap.size + 1) w.heap.size k D rfl G1 (by unfold maxLen; omega) _ _ rfl hkey ?_; intro v zs hat hoi hzl hback)
            | (at_builtin; refine wpList_append_own_at _ rfl _ _ 98 rfl (w.heap.size + 1) 3 i0 (.int .i64 0) 1 8 Try.underlying98 hi hz0 hz1 hz2 rfl (by decide) v zs.length _ rfl (hoi.1.alloc _) ⟨w1.heap.size, 0, none⟩ 1 1 [.int .i64 p] rfl rfl (cell_one_new _ _ _) (by intro u hu; simp at hu; subst hu; rfl) (by unfold maxLen; omega) (by omega) hsz1 ?_; intro v' w2 o2 g2 n2 l2)
            | (at_mapUpdate; refine wpList_mapUpdate_back _ rfl _ _ _ 85 rfl hback rfl rfl rfl (grownBy_trans (grown_alloc w1 _ _) g2) (hoi.appended o2 (WalkArith.wf_i64 (by omega))) (by simp; omega) (by rcases l2 with h | h; exact .inl h; exact .inr ⟨_, h, by simp⟩) ?_; intro w3 o3 g3))
          have hz := (hR.out).at s hat hoi
          have R3 : Hid (Rg N (D.put (.int .u32 s) (rowDatum .i64 v' (zs ++ [(p : Int)])))) := hR.out.put s v' _ (fun z hz' => by
            rcases List.mem_append.1 hz' with h | h
            · exact hz z h
            · simp at h; subst h; omega)
          have B3 : Hid (Below w.heap.size w w3) := B1.out.groups hoi (grownBy_trans (grown_alloc w1 _ _) g2) g3 B1.out.size (by omega) (Nat.le_refl _)
          have O3 : Hid (w3.ownsGroups (H := Unit) Try.prog 91 (w.heap.size + 1) 3 .i64 w.heap.size (k + 1) (D.put (.int .u32 s) (rowDatum .i64 v' (zs ++ [(p : Int)])))) := o3
          clear o3 g3 o2 g2 n2 l2 hback hoi hat hz hzl G1 B1 hr hB1 c2 hR hsz1
          go_wp2
          go_roundw
          case rel => exact ⟨k + 1, _, by have := HP.out; omega, by have := HP.out; subst this; go_num, O3, R3, B3⟩
          case measure => simp [intOf]; omega
        · have z2 : (N : Int) < (p : Int) + 16 := by omega
          have z3 : decide ((p : Int) + 16 ≤ (N : Int)) = false := decide_eq_false (by omega)
          have hpb : p ≤ N + 16 := by omega
          clear hp hk
          go_wp2
          go_ret
          exact ⟨rfl, k, D, hG.out, hR.out, by have := HP.out; omega, hbe.out⟩

end Go.Proofs.Ythaibdflehnbbaa
