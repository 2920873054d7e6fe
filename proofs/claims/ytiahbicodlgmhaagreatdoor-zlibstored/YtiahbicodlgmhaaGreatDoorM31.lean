/- LzzWLong, LzzWFind, ZDef. -/
import Derived.Test.YtiahbicodlgmhaaGreatDoorM30
import Derived.Test.YtiahbicodlgmhaaGreatDoorM29
/- longest. -/
namespace Go.Proofs.YtiahbicodlgmhaaGreatDoor.Lzz
open Go.RowKit Go.Maps

theorem Tryz.size40 : (Tryz.prog.info? 84).map (·.size) = some 3 := by kernel_rfl

/-- The cells of a token. -/
def bc (l n d : Int) : Nat → Value
  | 0 => .int .u8 l
  | 1 => .int .i64 n
  | _ => .int .i64 d

theorem bc_one (l n d : Int) : ∀ j, (bc l n d j).oneCell' = true := by
  intro j
  rcases j with _ | _ | j <;> rfl

set_option maxRecDepth 100000 in
set_option maxHeartbeats 4000000 in
theorem longest_any (B R : Nat) (ao : Option Addr) (N c M g : Nat) (b : List Int) (A : Nat → Int) (D : DataW Unit) (p : Nat) (eff : Int) (w : World) (h : IsCh w B R ao N c M g b A D p) (hN : N ≤ 1000000) (hp : p < N) (he0 : 0 < eff) (he1 : eff < 9223372036854775808) :
    Calls Tryz.prog 42 #[.pointer (some ⟨R, 0, none⟩), .int .i64 p, .int .i64 eff] w fun e w' => ∃ l n d : Int, e = .returned (tv (l, n, d)) ∧ Good b p (l, n, d) ∧ (∀ q, Per b q → 1 ≤ q → (q : Int) ≤ eff → q ≤ 32768 → q ≤ p → p + 3 ≤ N → sz (l, n, d) = min 258 (N - p)) ∧ Below w.heap.size w w' := by
  have hlen := h.rd.len
  have hf := fun W (hW : Below w.heap.size w W) => first_any B R ao N c M g b A D p p W (h.keep hW) hN (by omega)
  obtain ⟨m, hm⟩ : ∃ m, m = min 258 (N - p) := ⟨_, rfl⟩
  have HMM : Hid (m = min 258 (b.length - p)) := by rw [hlen]; exact hm
  have hm1 : p + m ≤ N ∧ m ≤ 258 ∧ 1 ≤ m := by omega
  have hm3 : p + 3 ≤ N → 3 ≤ m := by omega
  have HM : Hid ((m : Int) = min 258 ((N : Int) - p)) := by show (m : Int) = min 258 ((N : Int) - p); omega
  have c0 := h.row.cell (i := 0) (by omega)
  simp only [chc] at c0
  have HC : Hid (IsCh w B R ao N c M g b A D p) := h
  obtain ⟨bb, off, rfl, hcell⟩ := h.rd.plain (by omega)
  have d0 := hcell p (by omega)
  have HST : Hid (Lb b p m 0 (if p + 3 ≤ b.length then pv b (H3 b p) p else -1) (b.getD p 0) 0 0) := Lb.start b p m
  clear h hcell hm
  have hfe : fst3 b N p p = if p + 3 ≤ b.length then pv b (H3 b p) p else -1 := by rw [hlen]; rfl
  rw [← hfe] at HST
  generalize fst3 b N p p = y0 at *
  generalize hl0 : b.getD p 0 = l0 at *
  have b1 : Below w.heap.size w (w.alloc (Obj.cells #[Value.int .u8 0, Value.int .i64 0, Value.int .i64 0] 84)) := (Below.refl _ _).alloc (Nat.le_refl _) _
  have b2 : Below w.heap.size w ((w.alloc (Obj.cells #[Value.int .u8 0, Value.int .i64 0, Value.int .i64 0] 84)).alloc (Obj.cells #[Value.int .u8 l0, Value.int .i64 0, Value.int .i64 0] 84)) := b1.alloc b1.size _
  have c01 : (w.alloc (Obj.cells #[Value.int .u8 0, Value.int .i64 0, Value.int .i64 0] 84)).cell? ⟨R, 0, none⟩ = some (Value.slice (some ⟨bb, off, none⟩) N c) := by rw [b1.cell (World.block_lt_of_cell? w _ c0)]; exact c0
  have d01 : (w.alloc (Obj.cells #[Value.int .u8 0, Value.int .i64 0, Value.int .i64 0] 84)).cell? ⟨bb, off + p, none⟩ = some (Value.int .u8 l0) := by rw [b1.cell (World.block_lt_of_cell? w _ d0)]; exact d0
  have c02 : ((w.alloc (Obj.cells #[Value.int .u8 0, Value.int .i64 0, Value.int .i64 0] 84)).alloc (Obj.cells #[Value.int .u8 l0, Value.int .i64 0, Value.int .i64 0] 84)).cell? ⟨R, 0, none⟩ = some (Value.slice (some ⟨bb, off, none⟩) N c) := by rw [b2.cell (World.block_lt_of_cell? w _ c0)]; exact c0
  have r6 : ((w.alloc (Obj.cells #[Value.int .u8 0, Value.int .i64 0, Value.int .i64 0] 84)).alloc (Obj.cells #[Value.int .u8 l0, Value.int .i64 0, Value.int .i64 0] 84)).rowIs w.heap.size 84 3 (bc 0 0 0) := (World.rowIs_alloc w #[Value.int .u8 0, Value.int .i64 0, Value.int .i64 0] 84 (bc 0 0 0) (fun i hi => by simp at hi; rcases i with _ | _ | _ | i <;> first | rfl | omega)).alloc _
  have r7 : ((w.alloc (Obj.cells #[Value.int .u8 0, Value.int .i64 0, Value.int .i64 0] 84)).alloc (Obj.cells #[Value.int .u8 l0, Value.int .i64 0, Value.int .i64 0] 84)).rowIs (w.heap.size + 1) 84 3 (bc l0 0 0) := by
    have := World.rowIs_alloc (w.alloc (Obj.cells #[Value.int .u8 0, Value.int .i64 0, Value.int .i64 0] 84)) #[Value.int .u8 l0, Value.int .i64 0, Value.int .i64 0] 84 (bc l0 0 0) (fun i hi => by simp at hi; rcases i with _ | _ | _ | i <;> first | rfl | omega)
    rwa [show (w.alloc (Obj.cells #[Value.int .u8 0, Value.int .i64 0, Value.int .i64 0] 84)).heap.size = w.heap.size + 1 by simp] at this
  have HR6 := r6
  have H6 : Hid (((w.alloc (Obj.cells #[Value.int .u8 0, Value.int .i64 0, Value.int .i64 0] 84)).alloc (Obj.cells #[Value.int .u8 l0, Value.int .i64 0, Value.int .i64 0] 84)).rowIs w.heap.size 84 3 (bc 0 0 0)) := r6
  have H7 : Hid (((w.alloc (Obj.cells #[Value.int .u8 0, Value.int .i64 0, Value.int .i64 0] 84)).alloc (Obj.cells #[Value.int .u8 l0, Value.int .i64 0, Value.int .i64 0] 84)).rowIs (w.heap.size + 1) 84 3 (bc l0 0 0)) := r7
  have HB2 : Hid (Below w.heap.size w ((w.alloc (Obj.cells #[Value.int .u8 0, Value.int .i64 0, Value.int .i64 0] 84)).alloc (Obj.cells #[Value.int .u8 l0, Value.int .i64 0, Value.int .i64 0] 84))) := b2
  clear r6 r7 HR6 b1 b2 hfe hl0
  go_enter Tryz.func42, Tryz.ntmps42
  go_wp2_with (first | (refine wpList_min rfl 3 _ _ rfl 258 ((N : Int) - p) rfl rfl (m : Int) HM.out ?_) | (go_at_call 70; refine (hf _ HB2.out).mono ?_; rintro e w3 ⟨rfl, hb3⟩))
  have R6 : w3.rowIs w.heap.size 84 3 (bc 0 0 0) := H6.out.of_block (hb3.block _ H6.out.lt)
  have R7 : w3.rowIs (w.heap.size + 1) 84 3 (bc l0 0 0) := H7.out.of_block (hb3.block _ H7.out.lt)
  have B3 : Below w.heap.size w w3 := HB2.out.trans (hb3.mono HB2.out.size)
  obtain ⟨p6, hp6⟩ : ∃ p6, p6 = w.heap.size := ⟨_, rfl⟩
  obtain ⟨p7, hp7⟩ : ∃ p7, p7 = w.heap.size + 1 := ⟨_, rfl⟩
  have HP : Hid (w.heap.size ≤ p6 ∧ w.heap.size ≤ p7 ∧ p6 ≠ p7) := ⟨by omega, by omega, by omega⟩
  have H6 : Hid (w3.rowIs p6 84 3 (bc 0 0 0)) := by rw [hp6]; exact R6
  have H7 : Hid (w3.rowIs p7 84 3 (bc l0 0 0)) := by rw [hp7]; exact R7
  have HB3 : Hid (Below w.heap.size w w3) := B3
  rw [← hp7, ← hp6]
  clear hp6 hp7 R6 R7 B3 hb3 HB2 c01 d01 c02 hf c0 d0
  go_loopw [2, 9] (fun ev pl wr => ∃ (k : Nat) (y l : Int) (n d : Nat), ev = .int .i64 (eff - k) ∧ (k : Int) ≤ eff ∧ pl = .int .i64 y ∧ Hid (Lb b p m k y l n d) ∧ Hid (wr.rowIs p6 84 3 (bc 0 0 0)) ∧ Hid (wr.rowIs p7 84 3 (bc l n d)) ∧ Hid (Below w.heap.size w wr)) (fun _ pl _ => (intOf pl + 1).toNat)
  case atStart => exact ⟨0, y0, l0, 0, 0, by simp, by omega, rfl, HST, H6, H7, HB3⟩
  case round =>
    clear H6 H7 HB3 HST
    obtain ⟨k, y, l, n, d, rfl, hke, rfl, HL, H6, H7, HB⟩ := hrel
    have hylo := HL.out.ylo
    have hyhi := HL.out.yhi
    have hnm := HL.out.nm
    have L0 : wr.cell? ⟨p7, 0, none⟩ = some (.int .u8 l) := H7.out.cell (i := 0) (by omega)
    have L1 : wr.cell? ⟨p7, 1, none⟩ = some (.int .i64 n) := H7.out.cell (i := 1) (by omega)
    have L2 : wr.cell? ⟨p7, 2, none⟩ = some (.int .i64 d) := H7.out.cell (i := 2) (by omega)
    by_cases c1 : (k : Int) < eff
    · have e1 : 0 < eff - k := by omega
      by_cases c2 : n < m
      · have e2 : (n : Int) < m := by omega
        by_cases c3 : y = -1
        · have HD : Hid (∀ q, Per b q → 1 ≤ q → (q : Int) ≤ eff → q ≤ 32768 → q ≤ p → p + 3 ≤ N → sz (l, (n : Int), (d : Int)) = min 258 (N - p)) := by
            have hdn := HL.out.done (eff := eff) HMM.out (.inr (.inr (.inl c3)))
            rw [hlen] at hdn
            exact hdn
          subst c3
          go_wp2_with (refine wpList_st rfl 84 _ _ rfl p6 rfl (bc l n d) rfl H6.out Tryz.size40 (bc_one l n d) ?_; intro w5 h5 f5)
          have HB5 : Hid (Below w.heap.size w w5) := HB.out.trans (f5.below w.heap.size HB.out.size (fun j hj e => by have := HP.out; omega))
          have HG : Hid (Good b p (l, (n : Int), (d : Int))) := HL.out.good (by omega) (by omega)
          exact bodyPost_ret (results_row rfl _ rfl h5 Tryz.underlying84 rfl Tryz.size40) rfl ⟨l, (n : Int), (d : Int), rfl, HG.out, HD.out, HB5.out⟩
        · have e3 : (y == -1) = false := by simp [c3]
          obtain ⟨i, rfl⟩ : ∃ i : Nat, y = i := ⟨y.toNat, by omega⟩
          obtain ⟨pi, hpi⟩ : ∃ pi, pi = p - i := ⟨_, rfl⟩
          have HPI : Hid (pi = p - i) := hpi
          have e4 : (p : Int) - i = pi := by omega
          clear hpi
          by_cases c4 : pi ≤ 32768
          · have e5 : (pi : Int) ≤ 32768 := by omega
            obtain ⟨k1, k2, k3⟩ := HL.out.chn (by omega)
            simp only [Int.toNat_natCast] at k2 k3
            have hip : i < p := by omega
            have HCH : Hid (∀ W, Below w.heap.size w W → W.cell? ⟨R, 0, none⟩ = some (.slice (some ⟨bb, off, none⟩) N c) ∧ W.cell? ⟨bb, off + (i + n), none⟩ = some (.int .u8 (b.getD (i + n) 0)) ∧ W.cell? ⟨bb, off + (p + n), none⟩ = some (.int .u8 (b.getD (p + n) 0)) ∧ W.cell? ⟨R, 2, none⟩ = some (.slice (some ⟨g, 0, none⟩) N N) ∧ W.cell? ⟨g, i, none⟩ = some (.int .i64 (nx b i))) := by
              intro W hW
              have hI := HC.out.keep hW
              obtain ⟨b', off', e', hc'⟩ := hI.rd.plain (by omega)
              cases e'
              have ha := hI.ahd.cell (i := i) (by omega)
              rw [hI.link i hip (by omega)] at ha
              exact ⟨hI.row.cell (i := 0) (by omega), hc' (i + n) (by omega), hc' (p + n) (by omega), hI.row.cell (i := 2) (by omega), ha⟩
            have f0 : i + n < N := by omega
            have f1 : p + n < N := by omega
            have f2 : i < N := by omega
            have f3 : -1 ≤ nx b i := (pv_lt b (H3 b i) i).1
            have f4 : nx b i < i := (pv_lt b (H3 b i) i).2
            have hke1 : ((k + 1 : Nat) : Int) ≤ eff := by omega
            have ek : eff - k - 1 = eff - ((k + 1 : Nat) : Int) := by omega
            have HEK : Hid (eff - k - 1 = eff - ((k + 1 : Nat) : Int)) := ek
            have ew : IntKind.i64.wrap (eff - k - 1) = eff - k - 1 := by rw [IntKind.wrap_i64]; omega
            obtain ⟨s0, s1, s2, s3, s4⟩ := HCH.out wr HB.out
            have BD : Hid (Below w.heap.size w wr.drew) := HB.out.trans ((drew_keep wr).mono HB.out.size)
            obtain ⟨g0, g1, g2, g3, g4⟩ := HCH.out wr.drew BD.out
            clear k1 k2 k3 ek
            by_cases hne : b.getD (i + n) 0 = b.getD (p + n) 0
            · have hsm := same_any R (some ⟨bb, off, none⟩) N c M g b i p m wr.drew (HC.out.keep BD.out).row (HC.out.keep BD.out).rd (by omega) (by omega) hN
              rw [hne] at s1
              generalize hxx : b.getD (p + n) 0 = x at *
              clear hne s3 s4 g0 g1 g2 g3 g4 L0 L2 hxx
              go_wp2
              go_region
              go_wp2_with fail
              refine hsm.mono ?_
              rintro e w4 ⟨n', rfl, hS, hb4⟩
              have HS : Hid (Sm b i p m n') := hS
              have hnm' := hS.1
              have B4 : Hid (Below w.heap.size w w4) := BD.out.trans (hb4.mono BD.out.size)
              have R6 : Hid (w4.rowIs p6 84 3 (bc 0 0 0)) := H6.out.drew.of_block (hb4.block _ H6.out.lt)
              have R7 : Hid (w4.rowIs p7 84 3 (bc l n d)) := H7.out.drew.of_block (hb4.block _ H7.out.lt)
              have K1 : w4.cell? ⟨p7, 1, none⟩ = some (.int .i64 n) := R7.out.cell (i := 1) (by omega)
              obtain ⟨_, _, _, t3, t4⟩ := HCH.out w4 B4.out
              clear hS hb4 hsm L1 s0 s1 s2 BD HB H6 H7 e4 e3 e5
              by_cases hgt : n < n'
              · have e6 : (n : Int) < n' := by omega
                have e4 : (p : Int) - i = pi := by have := HPI.out; omega
                have HN : Hid (Lb b p m (k + 1) (nx b i) 0 n' pi) := by
                  have := HL.out.more HC.out.rd.byt (by omega) (by rw [hlen]; exact hm3) HS.out hgt (by have := HPI.out; omega)
                  rw [← HPI.out] at this
                  exact this
                clear t3 t4
                go_wp2_with (refine wpList_st rfl 84 _ _ rfl p7 rfl (bc 0 n' pi) rfl R7.out Tryz.size40 (bc_one 0 n' pi) ?_; intro w5 h5 f5; obtain ⟨_, _, _, t3, t4⟩ := HCH.out w5 (B4.out.trans (f5.below w.heap.size B4.out.size (fun j hj e => by have := HP.out; omega))))
                have B5 : Hid (Below w.heap.size w w5) := B4.out.trans (f5.below w.heap.size B4.out.size (fun j hj e => by have := HP.out; omega))
                have Q6 : Hid (w5.rowIs p6 84 3 (bc 0 0 0)) := rowIs_fr R6.out f5 (fun e => by have := HP.out; omega)
                have Q7 : Hid (w5.rowIs p7 84 3 (bc 0 n' pi)) := h5
                generalize nx b i = y' at *
                clear h5 f5 t3 t4 K1 R6 R7 HL HS HCH B4
                go_roundw
                case rel => exact ⟨k + 1, y', 0, n', pi, by rw [← HEK.out], hke1, rfl, HN, Q6, Q7, B5⟩
                case measure => simp [intOf]; omega
              · have e6 : ¬ (n : Int) < n' := by omega
                have HN : Hid (Lb b p m (k + 1) (nx b i) l n d) := HL.out.less (by omega) c2 HS.out (by omega)
                generalize nx b i = y' at *
                clear HL HS HCH
                go_wp2
                go_roundw
                case rel => exact ⟨k + 1, y', l, n, d, by rw [← HEK.out], hke1, rfl, HN, R6, R7, B4⟩
                case measure => simp [intOf]; omega
            · have HN : Hid (Lb b p m (k + 1) (nx b i) l n d) := HL.out.skip (by omega) c2 hne
              have R6 : Hid (wr.drew.rowIs p6 84 3 (bc 0 0 0)) := H6.out.drew
              have R7 : Hid (wr.drew.rowIs p7 84 3 (bc l n d)) := H7.out.drew
              have qe : (b.getD (i + n) 0 == b.getD (p + n) 0) = false := by simp only [beq_eq_false_iff_ne]; exact hne
              generalize b.getD (p + n) 0 = x at *
              generalize b.getD (i + n) 0 = x' at *
              generalize nx b i = y' at *
              clear hne L0 L2 HL HCH
              go_wp2
              go_region
              clear s0 s1 s2 s3 s4
              go_wp2
              go_roundw
              case rel => exact ⟨k + 1, y', l, n, d, by rw [← HEK.out], hke1, rfl, HN, R6, R7, BD⟩
              case measure => simp [intOf]; omega
          · have e5 : ¬ (pi : Int) ≤ 32768 := by omega
            have HD : Hid (∀ q, Per b q → 1 ≤ q → (q : Int) ≤ eff → q ≤ 32768 → q ≤ p → p + 3 ≤ N → sz (l, (n : Int), (d : Int)) = min 258 (N - p)) := by
              have hdn := HL.out.done (eff := eff) HMM.out (.inr (.inr (.inr (by omega))))
              rw [hlen] at hdn
              exact hdn
            go_wp2_with (refine wpList_st rfl 84 _ _ rfl p6 rfl (bc l n d) rfl H6.out Tryz.size40 (bc_one l n d) ?_; intro w5 h5 f5)
            have HB5 : Hid (Below w.heap.size w w5) := HB.out.trans (f5.below w.heap.size HB.out.size (fun j hj e => by have := HP.out; omega))
            have HG : Hid (Good b p (l, (n : Int), (d : Int))) := HL.out.good (by omega) (by omega)
            exact bodyPost_ret (results_row rfl _ rfl h5 Tryz.underlying84 rfl Tryz.size40) rfl ⟨l, (n : Int), (d : Int), rfl, HG.out, HD.out, HB5.out⟩
      · have e2 : ¬ (n : Int) < m := by omega
        have HD : Hid (∀ q, Per b q → 1 ≤ q → (q : Int) ≤ eff → q ≤ 32768 → q ≤ p → p + 3 ≤ N → sz (l, (n : Int), (d : Int)) = min 258 (N - p)) := by
          have hdn := HL.out.done (eff := eff) HMM.out (.inr (.inl (by omega)))
          rw [hlen] at hdn
          exact hdn
        go_wp2_with (refine wpList_st rfl 84 _ _ rfl p6 rfl (bc l n d) rfl H6.out Tryz.size40 (bc_one l n d) ?_; intro w5 h5 f5)
        have HB5 : Hid (Below w.heap.size w w5) := HB.out.trans (f5.below w.heap.size HB.out.size (fun j hj e => by have := HP.out; omega))
        have HG : Hid (Good b p (l, (n : Int), (d : Int))) := HL.out.good (by omega) (by omega)
        exact bodyPost_ret (results_row rfl _ rfl h5 Tryz.underlying84 rfl Tryz.size40) rfl ⟨l, (n : Int), (d : Int), rfl, HG.out, HD.out, HB5.out⟩
    · have e1 : ¬ 0 < eff - k := by omega
      have HD : Hid (∀ q, Per b q → 1 ≤ q → (q : Int) ≤ eff → q ≤ 32768 → q ≤ p → p + 3 ≤ N → sz (l, (n : Int), (d : Int)) = min 258 (N - p)) := by
        have hdn := HL.out.done (eff := eff) HMM.out (.inl (by omega))
        rw [hlen] at hdn
        exact hdn
      go_wp2_with (refine wpList_st rfl 84 _ _ rfl p6 rfl (bc l n d) rfl H6.out Tryz.size40 (bc_one l n d) ?_; intro w5 h5 f5)
      have HB5 : Hid (Below w.heap.size w w5) := HB.out.trans (f5.below w.heap.size HB.out.size (fun j hj e => by have := HP.out; omega))
      have HG : Hid (Good b p (l, (n : Int), (d : Int))) := HL.out.good (by omega) (by omega)
      exact bodyPost_ret (results_row rfl _ rfl h5 Tryz.underlying84 rfl Tryz.size40) rfl ⟨l, (n : Int), (d : Int), rfl, HG.out, HD.out, HB5.out⟩

end Go.Proofs.YtiahbicodlgmhaaGreatDoor.Lzz

/- Find. -/
namespace Go.Proofs.YtiahbicodlgmhaaGreatDoor.Lzz
open Go.RowKit Go.Maps

theorem lits_good (xs : List Int) (k : Nat) (hk : k ≤ xs.length) (hb : ∀ x ∈ xs, 0 ≤ x ∧ x < 256) : Fnd xs k (lits (xs.take k)) := by
  induction k with
  | zero => simp [lits]; exact Fnd.nil xs
  | succ k ih =>
    have h := (ih (by omega)).step hb (by omega) (t := (xs.getD k 0, 0, 0)) (.inl rfl)
    have e : lits (xs.take (k + 1)) = lits (xs.take k) ++ [(xs.getD k 0, 0, 0)] := by
      rw [take_one xs 0 k (by omega)]
      simp [lits]
    have e1 : sz (xs.getD k 0, 0, 0) = 1 := by simp [sz]
    rw [e1] at h
    rw [e]
    exact h

theorem lits_all (xs : List Int) (hb : ∀ x ∈ xs, 0 ≤ x ∧ x < 256) : Fnd xs xs.length (lits xs) := by
  have := lits_good xs xs.length (Nat.le_refl _) hb
  rwa [List.take_length] at this

theorem own_ne {w : World} {base e s n : Nat} {v : Value} {xs : List Value} (h : w.ownsRow base e s v n xs) {r t m : Nat} {f : Nat → Value} (hr : w.rowIs r t m f) (hne : e ≠ t) : v.ownBlock ≠ some r := by
  intro e1
  rcases h.2 with ⟨rfl, _⟩ | ⟨g, cap, cur, rfl, _, hh, _⟩
  · cases e1
  · cases e1
    rw [rowIs_block hr] at hh
    simp at hh
    exact hne hh.2.symm

theorem own_nm {w : World} {base e s n : Nat} {v : Value} {xs : List Value} (h : w.ownsRow base e s v n xs) {r : Nat} {es : Array MapEntry} {clock : Nat} (hr : w.heap[r]? = some (.map es clock)) : v.ownBlock ≠ some r := by
  intro e1
  rcases h.2 with ⟨rfl, _⟩ | ⟨g, cap, cur, rfl, _, hh, _⟩
  · cases e1
  · cases e1
    rw [hr] at hh
    simp at hh

/-- Tokens of the call's own lie apart from the chains. -/
theorem IsCh.own {w : World} {B R : Nat} {ao : Option Addr} {N c M g : Nat} {b : List Int} {A : Nat → Int} {D : DataW Unit} {p : Nat} (h : IsCh w B R ao N c M g b A D p) {base s n : Nat} {v : Value} {xs : List Value} (ho : w.ownsRow base 84 s v n xs) : v.ownBlock ≠ some R ∧ v.ownBlock ≠ some M ∧ v.ownBlock ≠ some g := by
  obtain ⟨es, clock, hM, _⟩ := h.map
  exact ⟨own_ne ho h.row (by decide), own_nm ho hM, own_ne ho h.ahd (by decide)⟩

/-- What Find answers. -/
structure Fd (b : List Int) (eff : Int) (ts : List Tok) : Prop where
  fnd : Fnd b b.length ts
  lit : eff ≤ 0 → ts.length = b.length
  few : ∀ q, Per b q → 1 ≤ q → (q : Int) ≤ eff → q ≤ 32768 → Few b.length q b.length ts.length

set_option maxRecDepth 100000 in
set_option maxHeartbeats 4000000 in
theorem find_any (ao : Option Addr) (N c : Nat) (b : List Int) (eff : Int) (w : World) (h : Rd w ao N c b) (hN : N ≤ 262144) (he1 : eff < 9223372036854775808) :
    Calls Tryz.prog 25 #[.slice ao N c, .int .i64 eff] w fun e w' => ∃ v ts, e = .returned v ∧ Fd b eff ts ∧ w'.ownsRow w.heap.size 84 3 v ts.length (tcs ts) ∧ Below w.heap.size w w' := by
  have hlen := h.len
  by_cases he : eff ≤ 0
  · have hl := literals_any ao N c b w h (by omega)
    have HF : Hid (Fd b eff (lits b)) := ⟨lits_all b h.byt, fun _ => lits_len b, fun q _ q1 q2 => by omega⟩
    have HL : Hid ((lits b).length = N) := by rw [lits_len]; exact hlen
    clear h hlen
    go_enter Tryz.func25, Tryz.ntmps25
    go_wp2_with (go_at_call 40; refine hl.mono ?_; rintro e w1 ⟨v, rfl, o1, b1⟩)
    go_ret
    exact ⟨_, lits b, rfl, HF.out, by rw [HL.out]; exact o1, b1⟩
  · have hnew := newChains_any ao N c b w h (by omega)
    have HR : Hid (Rd w ao N c b) := h
    have HLN : Hid (b.length = N) := hlen
    clear h hlen
    obtain ⟨i0, hi, hz0, hz1, hz2⟩ := info_parts Tryz.info40
    go_enter Tryz.func25, Tryz.ntmps25
    go_wp2_with (go_at_call 41; refine hnew.mono ?_; rintro e w1 ⟨R, M, g, rfl, hc1, b1⟩)
    have HC1 : Hid (IsCh w1 w.heap.size R ao N c M g b (fun _ => 0) (.map []) 0) := hc1
    have HB1 : Hid (Below w.heap.size w w1) := b1
    clear hc1 b1 hnew
    go_loopw [5, 7] (fun lv av wr => ∃ (p : Nat) (A : Nat → Int) (D : DataW Unit) (ts : List Tok), p ≤ N ∧ av = .int .i64 p ∧ Hid (IsCh wr w.heap.size R ao N c M g b A D p) ∧ Hid (wr.ownsRow w.heap.size 84 3 lv ts.length (tcs ts)) ∧ Hid (Fnd b p ts ∧ ∀ q, Per b q → 1 ≤ q → (q : Int) ≤ eff → q ≤ 32768 → Few N q p ts.length) ∧ Hid (Below w.heap.size w wr)) (fun _ av _ => N - (intOf av).toNat)
    case atStart => exact ⟨0, _, _, [], by omega, rfl, HC1, World.ownsRow_nil _ _ _ _, ⟨Fnd.nil b, fun q _ _ _ _ => by unfold Few; simp⟩, HB1⟩
    case round =>
      clear HC1 HB1
      obtain ⟨p, A, D, ts, hp, rfl, HC, HO, HF, HB⟩ := hrel
      by_cases hlt : p < N
      · have hlg := longest_any w.heap.size R ao N c M g b A D p eff wr HC.out (by omega) hlt (by omega) he1
        go_wp2_with fail
        refine hlg.mono ?_
        rintro e w2 ⟨l, n, d, rfl, hgood, hfew, hb2⟩
        have HC2 := HC.out.keep hb2
        have HO2 := own_keep HO.out hb2
        have B2 : Below w.heap.size w w2 := HB.out.trans (hb2.mono HB.out.size)
        have hap := HC2.own HO2
        have hlt2 : ∀ q, u5.ownBlock = some q → w.heap.size ≤ q ∧ q < w2.heap.size := HO2.lt
        have hposn := hgood.pos (by rw [HLN.out]; exact hlt)
        rw [HLN.out] at hposn
        have hcnt := HF.out.1.cnt
        have HF2 : Hid (Fnd b (p + sz (l, n, d)) (ts ++ [(l, n, d)]) ∧ ∀ q, Per b q → 1 ≤ q → (q : Int) ≤ eff → q ≤ 32768 → Few N q (p + sz (l, n, d)) (ts ++ [(l, n, d)]).length) := by
          refine ⟨HF.out.1.step HR.out.byt (by rw [HLN.out]; exact hlt) hgood, fun q q0 q1 q2 q3 => ?_⟩
          rw [List.length_append]
          exact (HF.out.2 q q0 q1 q2 q3).step hcnt hlt hposn.1 hposn.2 (fun a1 a2 => hfew q q0 q1 q2 q3 a1 a2)
        obtain ⟨C, hCC⟩ : ∃ C, C = ts.length := ⟨_, rfl⟩
        have HCC : Hid (C = ts.length) := hCC
        rw [← hCC] at HO2 hcnt
        have b3 : Below w2.heap.size w2 (w2.alloc (Obj.cells #[Value.int .u8 l, Value.int .i64 n, Value.int .i64 d] 84)) := (Below.refl _ _).alloc (Nat.le_refl _) _
        have b4 := b3.alloc b3.size (Obj.cells #[Value.int .u8 l, Value.int .i64 n, Value.int .i64 d] 84)
        have e3 : (w2.alloc (Obj.cells #[Value.int .u8 l, Value.int .i64 n, Value.int .i64 d] 84)).heap.size = w2.heap.size + 1 := by simp
        have HN3 : Hid (∀ j u, [Value.int .u8 l, Value.int .i64 n, Value.int .i64 d][j]? = some u → ((w2.alloc (Obj.cells #[Value.int .u8 l, Value.int .i64 n, Value.int .i64 d] 84)).alloc (Obj.cells #[Value.int .u8 l, Value.int .i64 n, Value.int .i64 d] 84)).cell? ((⟨w2.heap.size + 1, 0, none⟩ : Addr).add j) = some u) := by
          have := cell_three_new (w2.alloc (Obj.cells #[Value.int .u8 l, Value.int .i64 n, Value.int .i64 d] 84)) (.int .u8 l) (.int .i64 n) (.int .i64 d) 84
          rw [e3] at this
          exact this
        have HX4 : Hid (Bx ((w2.alloc (Obj.cells #[Value.int .u8 l, Value.int .i64 n, Value.int .i64 d] 84)).alloc (Obj.cells #[Value.int .u8 l, Value.int .i64 n, Value.int .i64 d] 84)) w2.heap.size (.int .u8 l) (.int .i64 n) (.int .i64 d)) := (Bx.new w2 (.int .u8 l) (.int .i64 n) (.int .i64 d) 84).alloc _
        have HC4 : Hid (IsCh ((w2.alloc (Obj.cells #[Value.int .u8 l, Value.int .i64 n, Value.int .i64 d] 84)).alloc (Obj.cells #[Value.int .u8 l, Value.int .i64 n, Value.int .i64 d] 84)) w.heap.size R ao N c M g b A D p) := HC2.keep b4
        have HO4 : Hid (((w2.alloc (Obj.cells #[Value.int .u8 l, Value.int .i64 n, Value.int .i64 d] 84)).alloc (Obj.cells #[Value.int .u8 l, Value.int .i64 n, Value.int .i64 d] 84)).ownsRow w.heap.size 84 3 u5 C (tcs ts)) := own_keep HO2 b4
        have HB4 : Hid (Below w.heap.size w ((w2.alloc (Obj.cells #[Value.int .u8 l, Value.int .i64 n, Value.int .i64 d] 84)).alloc (Obj.cells #[Value.int .u8 l, Value.int .i64 n, Value.int .i64 d] 84))) := B2.trans (b4.mono B2.size)
        have HAP : Hid ((u5.ownBlock ≠ some R ∧ u5.ownBlock ≠ some M ∧ u5.ownBlock ≠ some g) ∧ ∀ q, u5.ownBlock = some q → w.heap.size ≤ q ∧ q < w2.heap.size) := ⟨hap, hlt2⟩
        have hsz := fun W => size_any (l, n, d) W
        obtain ⟨s, hs⟩ : ∃ s, s = sz (l, n, d) := ⟨_, rfl⟩
        have HS : Hid (s = sz (l, n, d)) := hs
        simp only [← hs] at hsz
        rw [← hs] at hposn HF2
        have hC9 : C ≤ 262144 := by omega
        clear HC HO HF HB hlg hgood hfew hb2 HC2 HO2 B2 hap hlt2 hCC b3 b4 e3 hs hcnt
        go_wp2_with (first | (at_builtin; refine wpList_append_own _ rfl _ _ 45 rfl w.heap.size 84 i0 (.agg #[.int .u8 0, .int .i64 0, .int .i64 0]) 3 24 Tryz.underlying45 hi hz0 hz1 hz2 rfl (by decide) u5 C _ rfl HO4.out ⟨w2.heap.size + 1, 0, none⟩ 1 1 [.int .u8 l, .int .i64 n, .int .i64 d] rfl rfl HN3.out (by intro u hu; simp at hu; rcases hu with rfl | rfl | rfl <;> rfl) (by unfold maxLen; omega) (by omega) HB4.out.size ?_; intro v5 w5 o5 g5 n5; obtain ⟨x0, x1, x2⟩ := HX4.out.grown g5 (fun e => by have := (HAP.out.2 _ e).2; omega)) | (go_at_call 43; refine (hsz _).mono ?_; rintro e w6 ⟨rfl, hb6⟩))
        have F5 : Fr (fun k => u5.ownBlock = some k) _ w5 := (Fr.refl _ _).grown g5 (fun k _ e => e)
        have HC6 : Hid (IsCh w6 w.heap.size R ao N c M g b A D p) := (HC4.out.fr F5 HAP.out.1.1 HAP.out.1.2.1 HAP.out.1.2.2 (fun k hk e => by have := (HAP.out.2 _ e).1; omega)).keep hb6
        have B5 : Below w.heap.size w w5 := HB4.out.grown g5 HB4.out.size (fun q hq => (HAP.out.2 q hq).1)
        have HB6 : Hid (Below w.heap.size w w6) := B5.trans (hb6.mono B5.size)
        have HO6 : Hid (w6.ownsRow w.heap.size 84 3 v5 (ts ++ [(l, n, d)]).length (tcs (ts ++ [(l, n, d)]))) := by
          have := own_keep o5 hb6
          rw [HCC.out] at this
          rw [List.length_append, tcs_app, tcs_one]
          exact this
        generalize ts ++ [(l, n, d)] = us at *
        clear F5 B5 o5 g5 n5 x0 x1 x2 hb6 HC4 HO4 HB4 HX4 HN3 HAP hsz HS HCC
        go_loopw [7, 32] (fun av qv wq => ∃ (q : Nat) (A' : Nat → Int) (D' : DataW Unit), q ≤ s ∧ av = .int .i64 (p + q : Nat) ∧ qv = .int .i64 q ∧ Hid (IsCh wq w.heap.size R ao N c M g b A' D' (p + q)) ∧ Hid (wq.ownsRow w.heap.size 84 3 v5 us.length (tcs us)) ∧ Hid (Below w.heap.size w wq)) (fun _ qv _ => s - (intOf qv).toNat)
        case atStart => exact ⟨0, A, D, by omega, rfl, rfl, HC6, HO6, HB6⟩
        case round =>
          clear HC6 HO6 HB6
          obtain ⟨q, A', D', hq, rfl, rfl, HCq, HOq, HBq⟩ := hrel
          by_cases hql : q < s
          · have hadd := add_any w.heap.size R ao N c M g b A' D' (p + q) wr HCq.out (by omega) (by omega)
            go_wp2_with (go_at_call 44; refine hadd.mono ?_; rintro e w7 ⟨A7, D7, rfl, hc7, f7⟩)
            have hap := HCq.out.own HOq.out
            have HC7 : Hid (IsCh w7 w.heap.size R ao N c M g b A7 D7 (p + q + 1)) := hc7
            have HO7 : Hid (w7.ownsRow w.heap.size 84 3 v5 us.length (tcs us)) := ownsRow_fr HOq.out f7 (fun k hk e => by rcases e with rfl | rfl; exact hap.2.1 hk; exact hap.2.2 hk)
            have HB7 : Hid (Below w.heap.size w w7) := HBq.out.trans (f7.below w.heap.size HBq.out.size (fun k hk e => by have := HCq.out.low; omega))
            clear hc7 f7 hap HCq HOq HBq hadd
            go_roundw
            case rel => exact ⟨q + 1, A7, D7, by omega, by go_num, by go_num, HC7, HO7, HB7⟩
            case measure => simp [intOf]; omega
          · obtain rfl : q = s := by omega
            clear hql
            go_wp2
            go_roundw
            case rel => exact ⟨p + q, A', D', us, by omega, rfl, HCq, HOq, HF2, HBq⟩
            case measure => simp [intOf]; omega
      · obtain rfl : p = N := by omega
        have hF : Fd b eff ts := ⟨by rw [HLN.out]; exact HF.out.1, (fun h => by omega), by rw [HLN.out]; exact HF.out.2⟩
        have HFD : Hid (Fd b eff ts) := hF
        clear hF
        go_wp2
        go_ret
        exact ⟨_, ts, rfl, HFD.out, HO.out, HB.out⟩

end Go.Proofs.YtiahbicodlgmhaaGreatDoor.Lzz

/- Stored; Deflate. -/
namespace Go.Proofs.YtiahbicodlgmhaaGreatDoor.Z
open Go.RowKit

theorem wz_new {w' : World} {B R : Nat} (h : Lim.IsW w' R (.slice none 0 0) 0 0) (hB : B ≤ R) : Wz w' B R (fun _ => False) [] :=
  ⟨Ft.nil, ⟨.slice none 0 0, by simpa [fv, fb] using h, fun k hk => ⟨by
    rcases hk with rfl | hk
    · exact hB
    · simp [Value.ownBlock] at hk, fun h => h⟩⟩, Nat.le_trans hB (Nat.le_of_lt h.raw.row.lt), fun _ h => h.elim⟩

/-- The bytes of fields. -/
def byF (F : List Fd) : List Int := by8 (fv F) ((fb F + 7) / 8)

theorem stk_full (last : Bool) (bs : List Int) : fb (stk last bs (nck bs.length)) = 8 * ssz bs.length := by
  rw [stk_fb last bs _ (Nat.le_refl _)]
  unfold ssz nck
  omega

set_option maxRecDepth 100000 in
set_option maxHeartbeats 2000000 in
theorem stored_any (da : Option Addr) (N dc : Nat) (bs : List Int) (w : World) (hr : Rd w da N dc bs) (hN : N ≤ 1000000) :
    Calls Tryz.prog 15 #[.slice da N dc] w fun e w' => ∃ v, e = .returned v ∧ w'.ownsRow w.heap.size 5 1 v (ssz N) ((byF (stk true bs (nck N))).map (Value.int .u8)) ∧ Below w.heap.size w w' := by
  have hnw := Lim.newW_any w
  have HRD : Hid (∀ W, Below w.heap.size w W → Rd W da N dc bs) := fun W hW => hr.keep hW
  have HLN : Hid (bs.length = N) := hr.len
  clear hr
  go_enter Tryz.func15, Tryz.ntmps15
  go_wp2_with fail
  refine hnw.mono ?_
  rintro e w1 ⟨R, rfl, hw1, hR, hb1⟩
  obtain ⟨W2, hW2⟩ : ∃ W2, W2 = w1.alloc (Obj.cells #[.slice da N dc, .bool true, .slice none 0 0, .slice none 0 0, .slice none 0 0, .int .i64 0, .pointer none, .pointer none, .pointer none] 66) := ⟨_, rfl⟩
  obtain ⟨X, hX⟩ : ∃ X, X = w1.heap.size := ⟨_, rfl⟩
  have b2 : Below w1.heap.size w1 W2 := by rw [hW2]; exact (Below.refl _ _).alloc (Nat.le_refl _) _
  have rX : W2.rowIs X 66 9 (bkc (.slice da N dc) true (.slice none 0 0) (.slice none 0 0) (.slice none 0 0) 0 (.pointer none) (.pointer none) (.pointer none)) := by
    rw [hW2, hX]
    exact World.rowIs_alloc w1 _ 66 _ (fun i hi => by simp at hi; rcases i with _ | _ | _ | _ | _ | _ | _ | _ | _ | i <;> first | rfl | omega)
  have hz : Wz W2 w.heap.size R (fun k => k = X) [] := (wz_new hw1 (Nat.le_of_eq hR)).more b2 _ (fun k hk => .inr ⟨by omega, by have := rX.lt; omega⟩)
  have B2 := hb1.trans (b2.mono hb1.size)
  have hps := putStored_any X w.heap.size R (fun k => k = X) [] da N dc bs true _ W2 (fun W hz' => rX.of_block (hz'.mid X rfl)) rfl rfl (fun W hz' => HRD.out W (B2.trans hz'.bel)) hN hz (by simp [fb]) (by simp [fb])
  have HB2 : Hid (Below w.heap.size w W2) := B2
  have HW2 : Hid (W2 = w1.alloc (Obj.cells #[.slice da N dc, .bool true, .slice none 0 0, .slice none 0 0, .slice none 0 0, .int .i64 0, .pointer none, .pointer none, .pointer none] 66)) := hW2
  have HXE : Hid (X = w1.heap.size) := hX
  clear hnw hw1 hR hb1 hW2 hX b2 rX hz B2
  go_wp2_with fail
  rw [← HW2.out, ← HXE.out]
  refine hps.mono ?_
  rintro e w3 ⟨rfl, hw3, hz3⟩
  rw [List.nil_append] at hw3
  have hfb : fb (stk true bs (nck N)) = 8 * ssz N := by have := stk_full true bs; rw [HLN.out] at this; exact this
  have hss : ssz N ≤ 2000000 := by unfold ssz nck; omega
  have hdn := zdone_any w.heap.size R _ _ w3 hw3 (by omega)
  have HB3 : Hid (Below w.heap.size w w3) := HB2.out.trans hz3.bel
  have HFB : Hid (fb (stk true bs (nck N)) = 8 * ssz N) := hfb
  clear hps hw3 hz3 hfb hss
  go_wp2_with fail
  refine hdn.mono ?_
  rintro e w4 ⟨v, rfl, o4, b4⟩
  have HO4 : Hid (w4.ownsRow w.heap.size 5 1 v (ssz N) ((byF (stk true bs (nck N))).map (Value.int .u8))) := by
    have := ownsRow_base o4 HB3.out.size
    rw [show (fb (stk true bs (nck N)) + 7) / 8 = ssz N by rw [HFB.out]; omega] at this
    show w4.ownsRow _ _ _ _ _ _
    unfold byF
    rw [show (fb (stk true bs (nck N)) + 7) / 8 = ssz N by rw [HFB.out]; omega]
    exact this
  have HB4 : Hid (Below w.heap.size w w4) := HB3.out.trans (b4.mono HB3.out.size)
  clear hdn o4 b4
  go_wp2
  go_ret
  exact ⟨v, rfl, HO4.out, HB4.out⟩

/-- Literals and copies that make bs. -/
def Pl (bs : List Int) (is : List It) : Prop := ∀ m, (bs.length ≤ m → play m is [] = (0, bs)) ∧ (m < bs.length → ∃ x, play m is [] = (5, x))

/-- A telling, as mathematics. -/
structure Tm (is : List It) (nl nd vn : Nat) (L0 L1 Lc : Nat → Int) (qs : List Cl) : Prop where
  g0 : Lim.Gb (tl 0 (stps is ++ [eos])) 286 15 L0
  g1 : Lim.Gb (tl 1 (stps is ++ [eos])) 30 15 L1
  gc : Lim.Gb (tl 0 (qs.map clst)) 19 7 Lc
  l0 : 257 ≤ nl
  l1 : nl ≤ 286
  lz : ∀ j, nl ≤ j → j < 286 → L0 j = 0
  d0 : 1 ≤ nd
  d1 : nd ≤ 30
  dz : ∀ j, nd ≤ j → j < 30 → L1 j = 0
  v4 : 4 ≤ vn
  v19 : vn ≤ 19
  vz : ∀ k, vn ≤ k → k < 19 → Lc (ord k) = 0
  rn : Rns (cat2 nl L0 L1) (nl + nd) (nl + nd) qs

theorem Tg.tm {w : World} {T lo K : Nat} {is : List It} {R0 R1 Rb nl nd vn : Nat} {L0 L1 Lc : Nat → Int} {qs : List Cl} {oa oc ca : Nat} {sa : Option Addr} {sc : Nat} (h : Tg w T lo K (tl 0 (stps is ++ [eos])) (tl 1 (stps is ++ [eos])) R0 R1 Rb nl nd vn L0 L1 Lc qs oa oc ca sa sc) : Tm is nl nd vn L0 L1 Lc qs :=
  ⟨h.t0.gb, h.t1.gb, h.gc, h.t0.ls, h.t0.le, h.t0.zr, h.t1.ls, h.t1.le, h.t1.zr, h.v4, h.v19, h.vz, h.rn⟩

/-- Fields that Deflate may write of bs. -/
inductive Dfl (bs : List Int) : List Fd → Prop
  | sto : Dfl bs (stk true bs (nck bs.length))
  | fix (is : List It) : (∀ i ∈ is, i.ok) → Pl bs is → Dfl bs ([(1, 1), (1, 2)] ++ encS fl 288 dl 32 (stps is ++ [eos]))
  | tld (is : List It) (nl nd vn : Nat) (L0 L1 Lc : Nat → Int) (qs : List Cl) : (∀ i ∈ is, i.ok) → Pl bs is → Tm is nl nd vn L0 L1 Lc qs → Dfl bs ([(1, 1), (2, 2)] ++ tlf Lc nl nd vn qs ++ encS L0 nl L1 nd (stps is ++ [eos]))

end Go.Proofs.YtiahbicodlgmhaaGreatDoor.Z
