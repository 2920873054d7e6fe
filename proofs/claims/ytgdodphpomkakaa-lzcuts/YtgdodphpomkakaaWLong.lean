/- longest. -/
import Derived.Test.YtgdodphpomkakaaWAdd
import Derived.Test.YtgdodphpomkakaaLong
namespace Go.Proofs.Ytgdodphpomkakaa
open Go.RowKit Go.Maps

theorem Try.size40 : (Try.prog.info? 40).map (·.size) = some 3 := by kernel_rfl

/-- The cells of a token. -/
def bc (l n d : Int) : Nat → Value
  | 0 => .int .u8 l
  | 1 => .int .i64 n
  | _ => .int .i64 d

theorem bc_one (l n d : Int) : ∀ j, (bc l n d j).oneCell' = true := by
  intro j
  rcases j with _ | _ | j <;> rfl

set_option maxRecDepth 100000 in
set_option maxHeartbeats 4000000 in
theorem longest_any (B R : Nat) (ao : Option Addr) (N c M g : Nat) (b : List Int) (A : Nat → Int) (D : DataW Unit) (p : Nat) (eff : Int) (w : World) (h : IsCh w B R ao N c M g b A D p) (hN : N ≤ 1000000) (hp : p < N) (he0 : 0 < eff) (he1 : eff < 9223372036854775808) :
    Calls Try.prog 23 #[.pointer (some ⟨R, 0, none⟩), .int .i64 p, .int .i64 eff] w fun e w' => ∃ l n d : Int, e = .returned (tv (l, n, d)) ∧ Good b p (l, n, d) ∧ (∀ q, Per b q → 1 ≤ q → (q : Int) ≤ eff → q ≤ 32768 → q ≤ p → p + 3 ≤ N → sz (l, n, d) = min 258 (N - p)) ∧ Below w.heap.size w w' := by
  have hlen := h.rd.len
  have hf := fun W (hW : Below w.heap.size w W) => first_any B R ao N c M g b A D p p W (h.keep hW) hN (by omega)
  obtain ⟨m, hm⟩ : ∃ m, m = min 258 (N - p) := ⟨_, rfl⟩
  have HMM : Hid (m = min 258 (b.length - p)) := by rw [hlen]; exact hm
  have hm1 : p + m ≤ N ∧ m ≤ 258 ∧ 1 ≤ m := by omega
  have hm3 : p + 3 ≤ N → 3 ≤ m := by omega
  have HM : Hid ((m : Int) = min 258 ((N : Int) - p)) := by show (m : Int) = min 258 ((N : Int) - p); omega
  have c0 := h.row.cell (i := 0) (by omega)
  simp only [chc] at c0
  have HC : Hid (IsCh w B R ao N c M g b A D p) := h
  obtain ⟨bb, off, rfl, hcell⟩ := h.rd.plain (by omega)
  have d0 := hcell p (by omega)
  have HST : Hid (Lb b p m 0 (if p + 3 ≤ b.length then pv b (H3 b p) p else -1) (b.getD p 0) 0 0) := Lb.start b p m
  clear h hcell hm
  have hfe : fst3 b N p p = if p + 3 ≤ b.length then pv b (H3 b p) p else -1 := by rw [hlen]; rfl
  rw [← hfe] at HST
  generalize fst3 b N p p = y0 at *
  generalize hl0 : b.getD p 0 = l0 at *
  have b1 : Below w.heap.size w (w.alloc (Obj.cells #[Value.int .u8 0, Value.int .i64 0, Value.int .i64 0] 40)) := (Below.refl _ _).alloc (Nat.le_refl _) _
  have b2 : Below w.heap.size w ((w.alloc (Obj.cells #[Value.int .u8 0, Value.int .i64 0, Value.int .i64 0] 40)).alloc (Obj.cells #[Value.int .u8 l0, Value.int .i64 0, Value.int .i64 0] 40)) := b1.alloc b1.size _
  have c01 : (w.alloc (Obj.cells #[Value.int .u8 0, Value.int .i64 0, Value.int .i64 0] 40)).cell? ⟨R, 0, none⟩ = some (Value.slice (some ⟨bb, off, none⟩) N c) := by rw [b1.cell (World.block_lt_of_cell? w _ c0)]; exact c0
  have d01 : (w.alloc (Obj.cells #[Value.int .u8 0, Value.int .i64 0, Value.int .i64 0] 40)).cell? ⟨bb, off + p, none⟩ = some (Value.int .u8 l0) := by rw [b1.cell (World.block_lt_of_cell? w _ d0)]; exact d0
  have c02 : ((w.alloc (Obj.cells #[Value.int .u8 0, Value.int .i64 0, Value.int .i64 0] 40)).alloc (Obj.cells #[Value.int .u8 l0, Value.int .i64 0, Value.int .i64 0] 40)).cell? ⟨R, 0, none⟩ = some (Value.slice (some ⟨bb, off, none⟩) N c) := by rw [b2.cell (World.block_lt_of_cell? w _ c0)]; exact c0
  have r6 : ((w.alloc (Obj.cells #[Value.int .u8 0, Value.int .i64 0, Value.int .i64 0] 40)).alloc (Obj.cells #[Value.int .u8 l0, Value.int .i64 0, Value.int .i64 0] 40)).rowIs w.heap.size 40 3 (bc 0 0 0) := (World.rowIs_alloc w #[Value.int .u8 0, Value.int .i64 0, Value.int .i64 0] 40 (bc 0 0 0) (fun i hi => by simp at hi; rcases i with _ | _ | _ | i <;> first | rfl | omega)).alloc _
  have r7 : ((w.alloc (Obj.cells #[Value.int .u8 0, Value.int .i64 0, Value.int .i64 0] 40)).alloc (Obj.cells #[Value.int .u8 l0, Value.int .i64 0, Value.int .i64 0] 40)).rowIs (w.heap.size + 1) 40 3 (bc l0 0 0) := by
    have := World.rowIs_alloc (w.alloc (Obj.cells #[Value.int .u8 0, Value.int .i64 0, Value.int .i64 0] 40)) #[Value.int .u8 l0, Value.int .i64 0, Value.int .i64 0] 40 (bc l0 0 0) (fun i hi => by simp at hi; rcases i with _ | _ | _ | i <;> first | rfl | omega)
    rwa [show (w.alloc (Obj.cells #[Value.int .u8 0, Value.int .i64 0, Value.int .i64 0] 40)).heap.size = w.heap.size + 1 by simp] at this
  have HR6 := r6
  have H6 : Hid (((w.alloc (Obj.cells #[Value.int .u8 0, Value.int .i64 0, Value.int .i64 0] 40)).alloc (Obj.cells #[Value.int .u8 l0, Value.int .i64 0, Value.int .i64 0] 40)).rowIs w.heap.size 40 3 (bc 0 0 0)) := r6
  have H7 : Hid (((w.alloc (Obj.cells #[Value.int .u8 0, Value.int .i64 0, Value.int .i64 0] 40)).alloc (Obj.cells #[Value.int .u8 l0, Value.int .i64 0, Value.int .i64 0] 40)).rowIs (w.heap.size + 1) 40 3 (bc l0 0 0)) := r7
  have HB2 : Hid (Below w.heap.size w ((w.alloc (Obj.cells #[Value.int .u8 0, Value.int .i64 0, Value.int .i64 0] 40)).alloc (Obj.cells #[Value.int .u8 l0, Value.int .i64 0, Value.int .i64 0] 40))) := b2
  clear r6 r7 HR6 b1 b2 hfe hl0
  go_enter Try.func23, Try.ntmps23
  go_wp2_with (first | (refine wpList_min rfl 3 _ _ rfl 258 ((N : Int) - p) rfl rfl (m : Int) HM.out ?_) | (go_at_call 25; refine (hf _ HB2.out).mono ?_; rintro e w3 ⟨rfl, hb3⟩))
  have R6 : w3.rowIs w.heap.size 40 3 (bc 0 0 0) := H6.out.of_block (hb3.block _ H6.out.lt)
  have R7 : w3.rowIs (w.heap.size + 1) 40 3 (bc l0 0 0) := H7.out.of_block (hb3.block _ H7.out.lt)
  have B3 : Below w.heap.size w w3 := HB2.out.trans (hb3.mono HB2.out.size)
  obtain ⟨p6, hp6⟩ : ∃ p6, p6 = w.heap.size := ⟨_, rfl⟩
  obtain ⟨p7, hp7⟩ : ∃ p7, p7 = w.heap.size + 1 := ⟨_, rfl⟩
  have HP : Hid (w.heap.size ≤ p6 ∧ w.heap.size ≤ p7 ∧ p6 ≠ p7) := ⟨by omega, by omega, by omega⟩
  have H6 : Hid (w3.rowIs p6 40 3 (bc 0 0 0)) := by rw [hp6]; exact R6
  have H7 : Hid (w3.rowIs p7 40 3 (bc l0 0 0)) := by rw [hp7]; exact R7
  have HB3 : Hid (Below w.heap.size w w3) := B3
  rw [← hp7, ← hp6]
  clear hp6 hp7 R6 R7 B3 hb3 HB2 c01 d01 c02 hf c0 d0
  go_loopw [2, 9] (fun ev pl wr => ∃ (k : Nat) (y l : Int) (n d : Nat), ev = .int .i64 (eff - k) ∧ (k : Int) ≤ eff ∧ pl = .int .i64 y ∧ Hid (Lb b p m k y l n d) ∧ Hid (wr.rowIs p6 40 3 (bc 0 0 0)) ∧ Hid (wr.rowIs p7 40 3 (bc l n d)) ∧ Hid (Below w.heap.size w wr)) (fun _ pl _ => (intOf pl + 1).toNat)
  case atStart => exact ⟨0, y0, l0, 0, 0, by simp, by omega, rfl, HST, H6, H7, HB3⟩
  case round =>
    clear H6 H7 HB3 HST
    obtain ⟨k, y, l, n, d, rfl, hke, rfl, HL, H6, H7, HB⟩ := hrel
    have hylo := HL.out.ylo
    have hyhi := HL.out.yhi
    have hnm := HL.out.nm
    have L0 : wr.cell? ⟨p7, 0, none⟩ = some (.int .u8 l) := H7.out.cell (i := 0) (by omega)
    have L1 : wr.cell? ⟨p7, 1, none⟩ = some (.int .i64 n) := H7.out.cell (i := 1) (by omega)
    have L2 : wr.cell? ⟨p7, 2, none⟩ = some (.int .i64 d) := H7.out.cell (i := 2) (by omega)
    by_cases c1 : (k : Int) < eff
    · have e1 : 0 < eff - k := by omega
      by_cases c2 : n < m
      · have e2 : (n : Int) < m := by omega
        by_cases c3 : y = -1
        · have HD : Hid (∀ q, Per b q → 1 ≤ q → (q : Int) ≤ eff → q ≤ 32768 → q ≤ p → p + 3 ≤ N → sz (l, (n : Int), (d : Int)) = min 258 (N - p)) := by
            have hdn := HL.out.done (eff := eff) HMM.out (.inr (.inr (.inl c3)))
            rw [hlen] at hdn
            exact hdn
          subst c3
          go_wp2_with (refine wpList_st rfl 40 _ _ rfl p6 rfl (bc l n d) rfl H6.out Try.size40 (bc_one l n d) ?_; intro w5 h5 f5)
          have HB5 : Hid (Below w.heap.size w w5) := HB.out.trans (f5.below w.heap.size HB.out.size (fun j hj e => by have := HP.out; omega))
          have HG : Hid (Good b p (l, (n : Int), (d : Int))) := HL.out.good (by omega) (by omega)
          exact bodyPost_ret (results_row rfl _ rfl h5 Try.underlying40 rfl Try.size40) rfl ⟨l, (n : Int), (d : Int), rfl, HG.out, HD.out, HB5.out⟩
        · have e3 : (y == -1) = false := by simp [c3]
          obtain ⟨i, rfl⟩ : ∃ i : Nat, y = i := ⟨y.toNat, by omega⟩
          obtain ⟨pi, hpi⟩ : ∃ pi, pi = p - i := ⟨_, rfl⟩
          have HPI : Hid (pi = p - i) := hpi
          have e4 : (p : Int) - i = pi := by omega
          clear hpi
          by_cases c4 : pi ≤ 32768
          · have e5 : (pi : Int) ≤ 32768 := by omega
            obtain ⟨k1, k2, k3⟩ := HL.out.chn (by omega)
            simp only [Int.toNat_natCast] at k2 k3
            have hip : i < p := by omega
            have HCH : Hid (∀ W, Below w.heap.size w W → W.cell? ⟨R, 0, none⟩ = some (.slice (some ⟨bb, off, none⟩) N c) ∧ W.cell? ⟨bb, off + (i + n), none⟩ = some (.int .u8 (b.getD (i + n) 0)) ∧ W.cell? ⟨bb, off + (p + n), none⟩ = some (.int .u8 (b.getD (p + n) 0)) ∧ W.cell? ⟨R, 2, none⟩ = some (.slice (some ⟨g, 0, none⟩) N N) ∧ W.cell? ⟨g, i, none⟩ = some (.int .i64 (nx b i))) := by
              intro W hW
              have hI := HC.out.keep hW
              obtain ⟨b', off', e', hc'⟩ := hI.rd.plain (by omega)
              cases e'
              have ha := hI.ahd.cell (i := i) (by omega)
              rw [hI.link i hip (by omega)] at ha
              exact ⟨hI.row.cell (i := 0) (by omega), hc' (i + n) (by omega), hc' (p + n) (by omega), hI.row.cell (i := 2) (by omega), ha⟩
            have f0 : i + n < N := by omega
            have f1 : p + n < N := by omega
            have f2 : i < N := by omega
            have f3 : -1 ≤ nx b i := (pv_lt b (H3 b i) i).1
            have f4 : nx b i < i := (pv_lt b (H3 b i) i).2
            have hke1 : ((k + 1 : Nat) : Int) ≤ eff := by omega
            have ek : eff - k - 1 = eff - ((k + 1 : Nat) : Int) := by omega
            have HEK : Hid (eff - k - 1 = eff - ((k + 1 : Nat) : Int)) := ek
            have ew : IntKind.i64.wrap (eff - k - 1) = eff - k - 1 := by rw [IntKind.wrap_i64]; omega
            obtain ⟨s0, s1, s2, s3, s4⟩ := HCH.out wr HB.out
            have BD : Hid (Below w.heap.size w wr.drew) := HB.out.trans ((drew_keep wr).mono HB.out.size)
            obtain ⟨g0, g1, g2, g3, g4⟩ := HCH.out wr.drew BD.out
            clear k1 k2 k3 ek
            by_cases hne : b.getD (i + n) 0 = b.getD (p + n) 0
            · have hsm := same_any R (some ⟨bb, off, none⟩) N c M g b i p m wr.drew (HC.out.keep BD.out).row (HC.out.keep BD.out).rd (by omega) (by omega) hN
              rw [hne] at s1
              generalize hxx : b.getD (p + n) 0 = x at *
              clear hne s3 s4 g0 g1 g2 g3 g4 L0 L2 hxx
              go_wp2
              go_region
              go_wp2_with fail
              refine hsm.mono ?_
              rintro e w4 ⟨n', rfl, hS, hb4⟩
              have HS : Hid (Sm b i p m n') := hS
              have hnm' := hS.1
              have B4 : Hid (Below w.heap.size w w4) := BD.out.trans (hb4.mono BD.out.size)
              have R6 : Hid (w4.rowIs p6 40 3 (bc 0 0 0)) := H6.out.drew.of_block (hb4.block _ H6.out.lt)
              have R7 : Hid (w4.rowIs p7 40 3 (bc l n d)) := H7.out.drew.of_block (hb4.block _ H7.out.lt)
              have K1 : w4.cell? ⟨p7, 1, none⟩ = some (.int .i64 n) := R7.out.cell (i := 1) (by omega)
              obtain ⟨_, _, _, t3, t4⟩ := HCH.out w4 B4.out
              clear hS hb4 hsm L1 s0 s1 s2 BD HB H6 H7 e4 e3 e5
              by_cases hgt : n < n'
              · have e6 : (n : Int) < n' := by omega
                have e4 : (p : Int) - i = pi := by have := HPI.out; omega
                have HN : Hid (Lb b p m (k + 1) (nx b i) 0 n' pi) := by
                  have := HL.out.more HC.out.rd.byt (by omega) (by rw [hlen]; exact hm3) HS.out hgt (by have := HPI.out; omega)
                  rw [← HPI.out] at this
                  exact this
                clear t3 t4
                go_wp2_with (refine wpList_st rfl 40 _ _ rfl p7 rfl (bc 0 n' pi) rfl R7.out Try.size40 (bc_one 0 n' pi) ?_; intro w5 h5 f5; obtain ⟨_, _, _, t3, t4⟩ := HCH.out w5 (B4.out.trans (f5.below w.heap.size B4.out.size (fun j hj e => by have := HP.out; omega))))
                have B5 : Hid (Below w.heap.size w w5) := B4.out.trans (f5.below w.heap.size B4.out.size (fun j hj e => by have := HP.out; omega))
                have Q6 : Hid (w5.rowIs p6 40 3 (bc 0 0 0)) := rowIs_fr R6.out f5 (fun e => by have := HP.out; omega)
                have Q7 : Hid (w5.rowIs p7 40 3 (bc 0 n' pi)) := h5
                generalize nx b i = y' at *
                clear h5 f5 t3 t4 K1 R6 R7 HL HS HCH B4
                go_roundw
                case rel => exact ⟨k + 1, y', 0, n', pi, by rw [← HEK.out], hke1, rfl, HN, Q6, Q7, B5⟩
                case measure => simp [intOf]; omega
              · have e6 : ¬ (n : Int) < n' := by omega
                have HN : Hid (Lb b p m (k + 1) (nx b i) l n d) := HL.out.less (by omega) c2 HS.out (by omega)
                generalize nx b i = y' at *
                clear HL HS HCH
                go_wp2
                go_roundw
                case rel => exact ⟨k + 1, y', l, n, d, by rw [← HEK.out], hke1, rfl, HN, R6, R7, B4⟩
                case measure => simp [intOf]; omega
            · have HN : Hid (Lb b p m (k + 1) (nx b i) l n d) := HL.out.skip (by omega) c2 hne
              have R6 : Hid (wr.drew.rowIs p6 40 3 (bc 0 0 0)) := H6.out.drew
              have R7 : Hid (wr.drew.rowIs p7 40 3 (bc l n d)) := H7.out.drew
              have qe : (b.getD (i + n) 0 == b.getD (p + n) 0) = false := by simp only [beq_eq_false_iff_ne]; exact hne
              generalize b.getD (p + n) 0 = x at *
              generalize b.getD (i + n) 0 = x' at *
              generalize nx b i = y' at *
              clear hne L0 L2 HL HCH
              go_wp2
              go_region
              clear s0 s1 s2 s3 s4
              go_wp2
              go_roundw
              case rel => exact ⟨k + 1, y', l, n, d, by rw [← HEK.out], hke1, rfl, HN, R6, R7, BD⟩
              case measure => simp [intOf]; omega
          · have e5 : ¬ (pi : Int) ≤ 32768 := by omega
            have HD : Hid (∀ q, Per b q → 1 ≤ q → (q : Int) ≤ eff → q ≤ 32768 → q ≤ p → p + 3 ≤ N → sz (l, (n : Int), (d : Int)) = min 258 (N - p)) := by
              have hdn := HL.out.done (eff := eff) HMM.out (.inr (.inr (.inr (by omega))))
              rw [hlen] at hdn
              exact hdn
            go_wp2_with (refine wpList_st rfl 40 _ _ rfl p6 rfl (bc l n d) rfl H6.out Try.size40 (bc_one l n d) ?_; intro w5 h5 f5)
            have HB5 : Hid (Below w.heap.size w w5) := HB.out.trans (f5.below w.heap.size HB.out.size (fun j hj e => by have := HP.out; omega))
            have HG : Hid (Good b p (l, (n : Int), (d : Int))) := HL.out.good (by omega) (by omega)
            exact bodyPost_ret (results_row rfl _ rfl h5 Try.underlying40 rfl Try.size40) rfl ⟨l, (n : Int), (d : Int), rfl, HG.out, HD.out, HB5.out⟩
      · have e2 : ¬ (n : Int) < m := by omega
        have HD : Hid (∀ q, Per b q → 1 ≤ q → (q : Int) ≤ eff → q ≤ 32768 → q ≤ p → p + 3 ≤ N → sz (l, (n : Int), (d : Int)) = min 258 (N - p)) := by
          have hdn := HL.out.done (eff := eff) HMM.out (.inr (.inl (by omega)))
          rw [hlen] at hdn
          exact hdn
        go_wp2_with (refine wpList_st rfl 40 _ _ rfl p6 rfl (bc l n d) rfl H6.out Try.size40 (bc_one l n d) ?_; intro w5 h5 f5)
        have HB5 : Hid (Below w.heap.size w w5) := HB.out.trans (f5.below w.heap.size HB.out.size (fun j hj e => by have := HP.out; omega))
        have HG : Hid (Good b p (l, (n : Int), (d : Int))) := HL.out.good (by omega) (by omega)
        exact bodyPost_ret (results_row rfl _ rfl h5 Try.underlying40 rfl Try.size40) rfl ⟨l, (n : Int), (d : Int), rfl, HG.out, HD.out, HB5.out⟩
    · have e1 : ¬ 0 < eff - k := by omega
      have HD : Hid (∀ q, Per b q → 1 ≤ q → (q : Int) ≤ eff → q ≤ 32768 → q ≤ p → p + 3 ≤ N → sz (l, (n : Int), (d : Int)) = min 258 (N - p)) := by
        have hdn := HL.out.done (eff := eff) HMM.out (.inl (by omega))
        rw [hlen] at hdn
        exact hdn
      go_wp2_with (refine wpList_st rfl 40 _ _ rfl p6 rfl (bc l n d) rfl H6.out Try.size40 (bc_one l n d) ?_; intro w5 h5 f5)
      have HB5 : Hid (Below w.heap.size w w5) := HB.out.trans (f5.below w.heap.size HB.out.size (fun j hj e => by have := HP.out; omega))
      have HG : Hid (Good b p (l, (n : Int), (d : Int))) := HL.out.good (by omega) (by omega)
      exact bodyPost_ret (results_row rfl _ rfl h5 Try.underlying40 rfl Try.size40) rfl ⟨l, (n : Int), (d : Int), rfl, HG.out, HD.out, HB5.out⟩

end Go.Proofs.Ytgdodphpomkakaa
