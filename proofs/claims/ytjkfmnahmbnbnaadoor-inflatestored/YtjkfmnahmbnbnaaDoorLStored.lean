/- InflateStored. -/
import Derived.Test.YtjkfmnahmbnbnaaDoorSto
namespace Go.Proofs.YtjkfmnahmbnbnaaDoor
open Go.RowKit

theorem flip16' (a : Nat) (h : a < 65536) : bits .xor .i64 65535 (a : Int) = 65535 - (a : Int) := by
  have := bx64 65535 a (by omega) (by omega)
  rw [Nat.xor_comm, xor_ones a h] at this
  rw [show (65535 : Int) = ((65535 : Nat) : Int) from rfl, this]
  omega

theorem turn1 (a : Nat) (h : a < 65536) : bits .xor .i64 (65535 - (a : Int)) 1 = (((65535 - a) ^^^ 1 : Nat) : Int) := by
  have := bx64 (65535 - a) 1 (by omega) (by omega)
  rw [show (65535 : Int) - a = ((65535 - a : Nat) : Int) by omega]
  exact this

theorem stored_skip (a0 : Option Addr) (L cap : Nat) (bad : Int) (w : World) (h : L = 0 ∨ 20 < L) :
    Calls Tryd.prog 5 #[.slice a0 L cap, .int .i64 bad] w fun e w' => e = .returned (.bool true) ∧ Below w.heap.size w w' := by
  by_cases h0 : L = 0
  · subst h0
    clear h
    go_enter Tryd.func5, Tryd.ntmps5
    go_wp2_with (go_at_call 7; refine (known_any _).mono ?_; rintro e w1 ⟨rfl, hb⟩)
    go_ret
    exact ⟨rfl, hb⟩
  · have h1 : (20 : Int) < L := by omega
    have h2 : ((L : Int) == 0) = false := by simp; omega
    clear h
    go_enter Tryd.func5, Tryd.ntmps5
    go_wp2_with (go_at_call 7; refine (known_any _).mono ?_; rintro e w1 ⟨rfl, hb⟩)
    go_ret
    exact ⟨rfl, hb⟩

/-- What holds while the parts are written. -/
structure SW (w : World) (R L : Nat) (bad : Int) (zs : Nat → List Int) (k : Nat) (v : Value) (wr : World) (l : List Fd) : Prop where
  wt : Wr wr w.heap.size R l
  own : wr.ownsRow w.heap.size 5 1 v (cat zs k).length ((cat zs k).map (Value.int .u8))
  bel : Below w.heap.size w wr

theorem SW.xw {w : World} {R L : Nat} {bad : Int} {zs : Nat → List Int} {k : Nat} {v : Value} {wa wb : World} {l l' : List Fd} (h : SW w R L bad zs k v wa l) (hw : Wr wb w.heap.size R l') (hx : Xw w.heap.size wa wb) : SW w R L bad zs k v wb l' :=
  ⟨hw, ownsRow_kx h.own hx.kx (by decide) (by decide), h.bel.trans hx.bel⟩

set_option maxRecDepth 100000 in
set_option maxHeartbeats 4000000 in
theorem stored_go (b0 off L cap : Nat) (bad : Int) (A : Nat → Option Addr) (Ln C : Nat → Nat) (Z : Nat → List Int) (w : World) (h0 : 0 < L) (h20 : L ≤ 20)
    (hrow : ∀ j, j < L → w.cell? ⟨b0, off + j, none⟩ = some (.slice (A j) (Ln j) (C j)) ∧ Rd w (A j) (Ln j) (C j) (Z j)) :
    Calls Tryd.prog 5 #[.slice (some ⟨b0, off, none⟩) L cap, .int .i64 bad] w fun e w' => e = .returned (.bool true) ∧ Below w.heap.size w w' := by
  have d1 : ((L : Int) == 0) = false := by simp; omega
  have d2 : decide ((20 : Int) < L) = false := by simp; omega
  have HR : Hid (∀ j, j < L → w.cell? ⟨b0, off + j, none⟩ = some (.slice (A j) (Ln j) (C j)) ∧ Rd w (A j) (Ln j) (C j) (Z j)) := hrow
  clear hrow
  go_enter Tryd.func5, Tryd.ntmps5
  go_wp2_with (go_at_call 7; refine (known_any _).mono ?_; rintro e w1 ⟨rfl, b1⟩)
  have hw1 := wr_new w1 w.heap.size b1.size
  have bA : Below w.heap.size w (w1.alloc (Obj.cells #[Value.slice none 0 0] 41)) := b1.alloc b1.size _
  have HS : Hid (SW w w1.heap.size L bad Z 0 (.slice none 0 0) (w1.alloc (Obj.cells #[Value.slice none 0 0] 41)) (sts L bad Z 0)) := ⟨hw1, World.ownsRow_nil _ _ _ _, bA⟩
  clear hw1 bA b1
  generalize w1.heap.size = R at *
  generalize (w1.alloc (Obj.cells #[Value.slice none 0 0] 41)) = W at *
  go_loopw [6, 7] (fun wv iv wr => ∃ k : Nat, k ≤ L ∧ iv = .int .i64 k ∧ (∀ j, j < k → Ln j ≤ 200) ∧ Hid (SW w R L bad Z k wv wr (sts L bad Z k))) (fun _ iv _ => L - (intOf iv).toNat)
  case atStart => exact ⟨0, by omega, rfl, (fun j hj => by omega), HS⟩
  case round =>
    clear HS
    obtain ⟨k, hk, rfl, hall, HS⟩ := hrel
    by_cases hlt : k < L
    · obtain ⟨hc0, hrd0⟩ := HR.out k hlt
      have ck : wr.cell? ⟨b0, off + k, none⟩ = some (.slice (A k) (Ln k) (C k)) := (HS.out.bel.cell (World.block_lt_of_cell? w _ hc0)).trans hc0
      have hzl : (Z k).length = Ln k := hrd0.len
      have HZ : Hid ((Z k).length = Ln k ∧ Rd w (A k) (Ln k) (C k) (Z k)) := ⟨hzl, hrd0⟩
      have hkL : (k : Int) < L := by omega
      have hcat := cat_le Z k (fun j hj => by rw [(HR.out j (by omega)).2.len]; exact hall j hj)
      have hfb0 := sts_fb L bad Z k
      have hk20 : k < 20 := by omega
      clear hc0 hrd0 hzl
      by_cases h200 : 200 < Ln k
      · have q1 : (200 : Int) < ((Ln k : Nat) : Int) := by omega
        generalize Ln k = ln at *
        go_wp2
        go_ret
        exact ⟨rfl, HS.out.bel⟩
      have q1 : decide ((200 : Int) < ((Ln k : Nat) : Int)) = false := by simp; omega
      have HALL : Hid (∀ j, j < k + 1 → Ln j ≤ 200) := fun j hj => by
        rcases Nat.lt_or_ge j k with h | h
        · exact hall j h
        · obtain rfl : j = k := by omega
          omega
      have hfb : fb (sts L bad Z k) ≤ 40000 ∧ fb (sts L bad Z k) % 8 = 0 := by omega
      have HFB : Hid (fb (sts L bad Z k) ≤ 40000 ∧ fb (sts L bad Z k) % 8 = 0) := hfb
      obtain ⟨ln, hln⟩ : ∃ ln, ln = Ln k := ⟨_, rfl⟩
      have HLN : Hid (ln = Ln k) := hln
      rw [← hln] at ck q1 h200
      have fl1 := flip16' ln (by omega)
      have fl2 := turn1 ln (by omega)
      have hL1 : IntKind.i64.wrap ((L : Int) - 1) = (L : Int) - 1 := wraps_i64 _ (by omega) (by omega)
      clear hln hall hcat hfb0 hfb
      have hcase : ∃ f : Int, lastB L k = f ∧ ((f = 1 ∧ ((k : Int) == (L : Int) - 1) = true) ∨ (f = 0 ∧ ((k : Int) == (L : Int) - 1) = false)) := by
        unfold lastB
        by_cases hl : k + 1 = L
        · exact ⟨1, by rw [if_pos hl], .inl ⟨rfl, by simp; omega⟩⟩
        · exact ⟨0, by rw [if_neg hl], .inr ⟨rfl, by simp; omega⟩⟩
      obtain ⟨f, hf, ⟨rfl, q2⟩ | ⟨rfl, q2⟩⟩ := hcase
      all_goals
        have HF : Hid (lastB L k = _) := hf
        clear hf
        go_wp2_with fail
        refine (wput_any w.heap.size R _ _ (lastB L k) 1 wr HS.out.wt (by omega) (by have := HFB.out; omega) (by rw [HF.out]; rfl)).mono ?_
        rintro e w2 ⟨rfl, t2, x2⟩
        have S2 : Hid (SW w R L bad Z k u6 w2 (sts L bad Z k ++ [(lastB L k, 1)])) := HS.out.xw t2 x2
        clear t2 x2 HS ck q2
        go_wp2_with fail
        refine (wput_any w.heap.size R _ 0 0 2 w2 S2.out.wt (by omega) (by rw [fb_push]; have := HFB.out; omega) (by rfl)).mono ?_
        rintro e w3 ⟨rfl, t3, x3⟩
        have S3 : Hid (SW w R L bad Z k u6 w3 (sts L bad Z k ++ [(lastB L k, 1)] ++ [(0, 2)])) := S2.out.xw t3 x3
        clear t3 x3 S2
        go_wp2_with fail
        refine (walign_any w.heap.size R _ w3 S3.out.wt (by rw [fb_push, fb_push]; have := HFB.out; omega) (by rw [fb_push, fb_push]; have := HFB.out; omega)).mono ?_
        rintro e w4 ⟨rfl, t4, x4⟩
        have S4 : Hid (SW w R L bad Z k u6 w4 (sts L bad Z k ++ [(lastB L k, 1)] ++ [(0, 2)] ++ [(0, 5)])) := S3.out.xw t4 x4
        have ck4 : w4.cell? ⟨b0, off + k, none⟩ = some (.slice (A k) ln (C k)) := by
          have := (HR.out k hlt).1
          rw [HLN.out]
          exact (S4.out.bel.cell (World.block_lt_of_cell? w _ this)).trans this
        clear t4 x4 S3
        go_wp2_with fail
        refine (wput_any w.heap.size R _ (ln : Int) (ln : Int) 16 w4 S4.out.wt (by omega) (by rw [fb_push, fb_push, fb_push]; have := HFB.out; omega) (by omega)).mono ?_
        rintro e w5 ⟨rfl, t5, x5⟩
        have S5 : Hid (SW w R L bad Z k u6 w5 (sts L bad Z k ++ [(lastB L k, 1)] ++ [(0, 2)] ++ [(0, 5)] ++ [((ln : Int), 16)])) := S4.out.xw t5 x5
        have ck5 : w5.cell? ⟨b0, off + k, none⟩ = some (.slice (A k) ln (C k)) := by
          have := (HR.out k hlt).1
          rw [HLN.out]
          exact (S5.out.bel.cell (World.block_lt_of_cell? w _ this)).trans this
        clear t5 x5 S4 ck4
        have hcase2 : ∃ t : Int, turnB bad k ln = t ∧ 0 ≤ t ∧ t < 65536 ∧ ((((k : Int) == bad) = true ∧ t = (((65535 - ln) ^^^ 1 : Nat) : Int)) ∨ (((k : Int) == bad) = false ∧ t = 65535 - (ln : Int))) := by
          unfold turnB
          by_cases hb : (k : Int) = bad
          · have := xor1_lt (65535 - ln) (by omega)
            exact ⟨_, by rw [if_pos hb], by omega, by omega, .inl ⟨by simp [hb], rfl⟩⟩
          · exact ⟨_, by rw [if_neg hb], by omega, by omega, .inr ⟨by simp [hb], rfl⟩⟩
        obtain ⟨t, ht, ht0, ht1, ⟨q3, ht2⟩ | ⟨q3, ht2⟩⟩ := hcase2
        all_goals
          try rw [← ht2] at fl1
          try rw [← ht2] at fl2
          have HT : Hid (turnB bad k ln = t) := ht
          clear ht ht2
          go_wp2_with fail
          refine (wput_any w.heap.size R _ t t 16 w5 S5.out.wt (by omega) (by rw [fb_push, fb_push, fb_push, fb_push]; have := HFB.out; omega) (by omega)).mono ?_
          rintro e w6 ⟨rfl, t6, x6⟩
          have S6 : Hid (SW w R L bad Z k u6 w6 (sts L bad Z k ++ [(lastB L k, 1)] ++ [(0, 2)] ++ [(0, 5)] ++ [((ln : Int), 16)] ++ [(t, 16)])) := S5.out.xw t6 x6
          clear t6 x6 S5 ck5 fl1 fl2 q3
          go_wp2_with fail
          go_loopw [10] (fun qv wq => ∃ q : Nat, q ≤ ln ∧ qv = .int .i64 q ∧ Hid (SW w R L bad Z k u6 wq (sts L bad Z k ++ [(lastB L k, 1)] ++ [(0, 2)] ++ [(0, 5)] ++ [((ln : Int), 16)] ++ [(t, 16)] ++ bfs ((Z k).take q)))) (fun qv _ => ln - (intOf qv).toNat)
          case atStart => exact ⟨0, by omega, rfl, by simpa [bfs] using S6⟩
          case round =>
            clear S6
            obtain ⟨q, hq, rfl, SQ⟩ := hrel
            have hzl : (Z k).length = ln := by rw [HZ.out.1, HLN.out]
            have ckq : wr.cell? ⟨b0, off + k, none⟩ = some (.slice (A k) ln (C k)) := by
              have := (HR.out k hlt).1
              rw [HLN.out]
              exact (SQ.out.bel.cell (World.block_lt_of_cell? w _ this)).trans this
            have hrd : Rd wr (A k) ln (C k) (Z k) := by rw [HLN.out]; exact HZ.out.2.keep SQ.out.bel
            by_cases hql : q < ln
            · obtain ⟨bb, oo, hA, hcell⟩ := hrd.plain (by omega)
              have hx := hcell q hql
              have hqz : q < (Z k).length := by omega
              have hgd : (Z k).getD q 0 = (Z k)[q] := by simp [List.getD, List.getElem?_eq_getElem hqz]
              rw [hgd] at hx
              have hxb := hrd.byt (Z k)[q] (List.getElem_mem _)
              have htk : (Z k).take (q + 1) = (Z k).take q ++ [(Z k)[q]] := by simp
              have HTK : Hid (bfs ((Z k).take (q + 1)) = bfs ((Z k).take q) ++ [((Z k)[q], 8)]) := by
                show bfs ((Z k).take (q + 1)) = _
                rw [htk, bfs_app]
                rfl
              rw [hA] at ckq
              have hfq : fb (bfs ((Z k).take q)) ≤ 1600 := by rw [bfs_fb, List.length_take]; omega
              have HFQ : Hid (fb (bfs ((Z k).take q)) ≤ 1600) := hfq
              have q5 : (q : Int) < ln := by omega
              clear hcell hgd htk hrd hA hfq
              generalize (Z k)[q] = x at *
              have q6 : IntKind.i64.wrap x = x := wraps_i64 _ (by omega) (by omega)
              go_wp2_with fail
              refine (wput_any w.heap.size R _ x x 8 wr SQ.out.wt (by omega) (by rw [fb_app, fb_push, fb_push, fb_push, fb_push, fb_push]; have := HFB.out; have := HFQ.out; omega) (by omega)).mono ?_
              rintro e w7 ⟨rfl, t7, x7⟩
              have S7 : Hid (SW w R L bad Z k u6 w7 (sts L bad Z k ++ [(lastB L k, 1)] ++ [(0, 2)] ++ [(0, 5)] ++ [((ln : Int), 16)] ++ [(t, 16)] ++ bfs ((Z k).take (q + 1)))) := by
                show SW _ _ _ _ _ _ _ _ _
                rw [HTK.out, ← List.append_assoc]
                exact SQ.out.xw t7 x7
              clear t7 x7 SQ hx ckq
              go_wp2
              go_roundw
              case rel => exact ⟨q + 1, by omega, by go_num, S7⟩
              case measure => simp [intOf]; omega
            · obtain rfl : q = ln := by omega
              have q5 : ¬ (q : Int) < q := by omega
              have hfin : sts L bad Z k ++ [(lastB L k, 1)] ++ [(0, 2)] ++ [(0, 5)] ++ [((q : Int), 16)] ++ [(t, 16)] ++ bfs ((Z k).take q) = sts L bad Z (k + 1) := by
                rw [List.take_of_length_le (by omega)]
                simp only [sts, stf, List.append_assoc, List.cons_append, List.nil_append]
                rw [hzl, HT.out]
              have hcl : (cat Z (k + 1)).length = (cat Z k).length + q := by simp only [cat, List.length_append]; omega
              have SE : Hid (SW w R L bad Z k u6 wr (sts L bad Z (k + 1))) := by
                show SW _ _ _ _ _ _ _ _ _
                rw [← hfin]
                exact SQ.out
              have HCL : Hid ((cat Z (k + 1)).length = (cat Z k).length + q ∧ (cat Z k).length + q ≤ 100000) := ⟨hcl, by
                have h1 := cat_le Z k (fun j hj => by rw [(HR.out j (by omega)).2.len]; exact HALL.out j (by omega))
                omega⟩
              have HRD : Hid (Rd wr (A k) q (C k) (Z k)) := hrd
              clear hfin hcl hrd SQ hzl
              go_wp2_with (refine wpList_append_bv rfl _ _ rfl w.heap.size (cat Z k).length _ (cat Z k) rfl SE.out.own (A k) q (C k) (Z k) rfl HRD.out (by have := HCL.out.2; omega) SE.out.bel.size ?_; intro v8 w8 o8 g8)
              have S8 : Hid (SW w R L bad Z (k + 1) v8 w8 (sts L bad Z (k + 1))) := ⟨grown_wr SE.out.wt SE.out.own g8, by rw [HCL.out.1]; exact o8, SE.out.bel.grown g8 SE.out.bel.size (fun p hp => (SE.out.own.lt p hp).1)⟩
              clear o8 g8 SE HRD ckq
              go_wp2
              go_roundw
              case rel => exact ⟨k + 1, by omega, by go_num, HALL.out, S8⟩
              case measure => simp [intOf]; omega
    · obtain rfl : k = L := by omega
      have hzb : ∀ j, j < k → ∀ x ∈ Z j, 0 ≤ x ∧ x < 256 := fun j hj => (HR.out j hj).2.byt
      have hzl : ∀ j, j < k → (Z j).length ≤ 200 := fun j hj => by rw [(HR.out j hj).2.len]; exact hall j hj
      have hcat := cat_le Z k hzl
      have hfb := sts_fb k bad Z k
      have hlay : Lay (fv (sts k bad Z k)) ((fb (sts k bad Z k) + 7) / 8) 0 (rs k bad Z 0 k) := by
        have h1 := Lay.of (n := (fb (sts k bad Z k) + 7) / 8) HS.out.wt.ft (by omega)
        have h2 := sts_rs k bad Z k 0
        rw [Nat.zero_add] at h2
        rw [h2] at h1 ⊢
        simpa [sts] using h1
      obtain ⟨j, hj⟩ : ∃ j, k = j + 1 := ⟨k - 1, by omega⟩
      have hbnd : fb (sts k bad Z k) ≤ 40000 := by omega
      have hcb : ∀ x ∈ cat Z k, 0 ≤ x ∧ x < 256 := by
        have : ∀ m, m ≤ k → ∀ x ∈ cat Z m, 0 ≤ x ∧ x < 256 := by
          intro m
          induction m with
          | zero => intro _ x hx; simp [cat] at hx
          | succ m ih =>
            intro hm x hx
            rcases List.mem_append.1 hx with hx | hx
            · exact ih (by omega) x hx
            · exact hzb m (by omega) x hx
        exact this k (Nat.le_refl _)
      have hd := wdone_any w.heap.size R (sts k bad Z k) wr HS.out.wt (by omega)
      by_cases hbad : 0 ≤ bad ∧ bad < k
      · obtain ⟨b, hb⟩ := Int.eq_ofNat_of_zero_le hbad.1
        have hI : Inf (fv (sts k bad Z k)) ((fb (sts k bad Z k) + 7) / 8) 5000 k 0 [] 2 [] 0 := by
          subst hb
          have := sto_bad (fv (sts k b Z k)) ((fb (sts k b Z k) + 7) / 8) 5000 k b Z hzb hzl (by omega) (by omega) j 0 (by omega) (by omega) (by
            rw [← hj]; exact hlay)
          rw [← hj] at this
          exact this
        obtain ⟨X, hX⟩ : ∃ X, X = fv (sts k bad Z k) := ⟨_, rfl⟩
        obtain ⟨nb, hnb⟩ : ∃ nb, nb = (fb (sts k bad Z k) + 7) / 8 := ⟨_, rfl⟩
        rw [← hX, ← hnb] at hI
        rw [← hX, ← hnb] at hd
        have HI : Hid (Inf X nb 5000 k 0 [] 2 [] 0) := hI
        have HN : Hid (nb ≤ 6000) := by show nb ≤ 6000; omega
        have g1 : 0 ≤ bad := hbad.1
        have g2 : bad < (k : Int) := hbad.2
        have HB : Hid (Below w.heap.size w wr) := HS.out.bel
        clear hzb hzl hcat hfb hlay hbnd hcb hI hX hnb hb hj HS HR hall
        go_wp2_with (go_at_call 18; refine hd.mono ?_; rintro e w2 ⟨ao, c, rfl, r2, b2⟩)
        refine (inflate_any ao nb c X 5000 k 2 [] 0 [] 0 w2 r2 (by have := HN.out; omega) (by omega) HI.out (.inr ⟨by omega, rfl, rfl⟩)).mono ?_
        rintro e w3 ⟨xo, xc, rfl, r3, b3⟩
        have B3 : Hid (Below w.heap.size w w3) := (HB.out.trans (b2.mono HB.out.size)).trans (b3.mono (Nat.le_trans HB.out.size b2.size))
        clear r2 r3 b2 b3 HB hd
        go_wp2
        go_ret
        exact ⟨rfl, B3.out⟩
      · have hI : Inf (fv (sts k bad Z k)) ((fb (sts k bad Z k) + 7) / 8) 5000 k 0 [] 0 (cat Z k) (fb (sts k bad Z k)) := by
          have := sto_good (fv (sts k bad Z k)) ((fb (sts k bad Z k) + 7) / 8) 5000 k bad Z hzb hzl (by omega) (fun i hi e => hbad (by omega)) j 0 (by omega) (by
            rw [← hj]; exact hlay)
          rw [← hj] at this
          exact this
        obtain ⟨X, hX⟩ : ∃ X, X = fv (sts k bad Z k) := ⟨_, rfl⟩
        obtain ⟨nb, hnb⟩ : ∃ nb, nb = (fb (sts k bad Z k) + 7) / 8 := ⟨_, rfl⟩
        rw [← hX, ← hnb] at hI
        rw [← hX, ← hnb] at hd
        have HI : Hid (Inf X nb 5000 k 0 [] 0 (cat Z k) (fb (sts k bad Z k))) := hI
        have HN : Hid (nb ≤ 6000 ∧ nb = (fb (sts k bad Z k) + 7) / 8 ∧ fb (sts k bad Z k) ≤ 40000) := ⟨by omega, hnb, hbnd⟩
        have g1 : (decide (0 ≤ bad) && decide (bad < (k : Int))) = false := by
          by_cases h1 : 0 ≤ bad
          · have : ¬ bad < (k : Int) := fun h2 => hbad ⟨h1, h2⟩
            simp [this]
          · simp [h1]
        obtain ⟨uo, uc, rfl, ur, _⟩ := own_rd HS.out.own hcb
        have HU : Hid (Rd wr uo (cat Z k).length uc (cat Z k)) := ur
        have HB : Hid (Below w.heap.size w wr) := HS.out.bel
        have HW : Hid (Wr wr w.heap.size R (sts k bad Z k)) := HS.out.wt
        obtain ⟨cl, hcl⟩ : ∃ cl, cl = (cat Z k).length := ⟨_, rfl⟩
        have HCL : Hid (cl = (cat Z k).length) := hcl
        rw [← hcl]
        clear hzb hzl hcat hfb hlay hbnd hcb hI hX hnb hj HS HR hall ur hbad hcl
        by_cases h1 : 0 ≤ bad
        · have g2 : decide (bad < (k : Int)) = false := by simpa [h1] using g1
          clear g1
          go_wp2_with (go_at_call 18; refine hd.mono ?_; rintro e w2 ⟨ao, c, rfl, r2, b2⟩)
          refine (inflate_any ao nb c X 5000 k 0 (cat Z k) (fb (sts k bad Z k)) (cat Z k) nb w2 r2 (by have := HN.out.1; omega) (by omega) HI.out (.inl ⟨rfl, rfl, HN.out.2.1⟩)).mono ?_
          rintro e w3 ⟨xo, xc, rfl, r3, b3⟩
          have B3 : Hid (Below w.heap.size w w3) := (HB.out.trans (b2.mono HB.out.size)).trans (b3.mono (Nat.le_trans HB.out.size b2.size))
          have hd3 := wdone_any w.heap.size R (sts k bad Z k) w3 ((HW.out.keep b2).keep b3) (by have := HN.out.2.2; omega)
          rw [← HN.out.2.1] at hd3
          have s1 := r3.str
          have s2 := ((HU.out.keep b2).keep b3).str
          rw [← HCL.out] at s1 s2 ⊢
          clear r2 r3 b2 b3 HB hd HW HU
          go_wp2_with (go_at_call 18; refine hd3.mono ?_; rintro e w4 ⟨yo, yc, rfl, _, b4⟩)
          go_ret
          exact ⟨rfl, B3.out.trans (b4.mono B3.out.size)⟩
        · have g2 : decide (0 ≤ bad) = false := by simpa using h1
          clear g1 h1
          go_wp2_with (go_at_call 18; refine hd.mono ?_; rintro e w2 ⟨ao, c, rfl, r2, b2⟩)
          refine (inflate_any ao nb c X 5000 k 0 (cat Z k) (fb (sts k bad Z k)) (cat Z k) nb w2 r2 (by have := HN.out.1; omega) (by omega) HI.out (.inl ⟨rfl, rfl, HN.out.2.1⟩)).mono ?_
          rintro e w3 ⟨xo, xc, rfl, r3, b3⟩
          have B3 : Hid (Below w.heap.size w w3) := (HB.out.trans (b2.mono HB.out.size)).trans (b3.mono (Nat.le_trans HB.out.size b2.size))
          have hd3 := wdone_any w.heap.size R (sts k bad Z k) w3 ((HW.out.keep b2).keep b3) (by have := HN.out.2.2; omega)
          rw [← HN.out.2.1] at hd3
          have s1 := r3.str
          have s2 := ((HU.out.keep b2).keep b3).str
          rw [← HCL.out] at s1 s2 ⊢
          clear r2 r3 b2 b3 HB hd HW HU
          go_wp2_with (go_at_call 18; refine hd3.mono ?_; rintro e w4 ⟨yo, yc, rfl, _, b4⟩)
          go_ret
          exact ⟨rfl, B3.out.trans (b4.mono B3.out.size)⟩

end Go.Proofs.YtjkfmnahmbnbnaaDoor
