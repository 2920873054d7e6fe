/- The document's Least. -/
import Derived.Test.YtkclaikofdolmaaXLeast
namespace Go.Proofs.Ytkclaikofdolmaa
open Go.RowKit

set_option maxRecDepth 100000 in
set_option maxHeartbeats 4000000 in
theorem xl_go (ao : Option Addr) (n c m : Nat) (D : Nat → Int) (w : World) (h : Ri w ao n c D) (hk : okc D n = true) (h1 : 1 ≤ m) (h15 : m ≤ 15) :
    Calls Try.prog 10 #[.slice ao n c, .int .i64 m] w fun e w' => e = .returned (.tuple #[.int .i64 (lv D n m), .int .i64 (lerr D n m)]) ∧ Below w.heap.size w w' := by
  have hc := xchk_any ao n c D w h
  have e0 : cerr D n = 0 := by unfold cerr; rw [if_pos hk]
  rw [e0] at hc
  obtain ⟨h288, hD⟩ := (okc_iff D n).1 hk
  have HLB : Hid (∀ x ∈ so D n, 0 ≤ x ∧ x ≤ 16777216) := so_bound D n hD
  have d1 : decide ((m : Int) < 1) = false := by simp; omega
  have d2 : decide ((15 : Int) < (m : Int)) = false := by simp; omega
  have hle : lerr D n m = if 2 ^ m < (sy D n).length then 7 else 0 := by unfold lerr; rw [if_pos ⟨hk, by omega, by omega⟩, Int.toNat_natCast]
  have HR : Hid (Ri w ao n c D) := h
  have hsm := xsome_any ao n c D w h (by omega)
  clear e0 h hk hD
  go_enter Try.func10, Try.ntmps10
  go_wp2_with fail
  refine hc.mono ?_
  rintro e w1 ⟨rfl, hw⟩
  subst w1
  go_wp2_with fail
  refine hsm.mono ?_
  rintro e w1 ⟨v, rfl, ol⟩
  obtain ⟨lo, lcap, rfl, rl⟩ := ol.ri
  have B1 : Hid (Below w.heap.size w w1) := ol.bel
  have RL : Hid (Ri w1 lo (so D n).length lcap (gl (so D n))) := rl
  have hNs : (so D n).length = (sy D n).length := so_len D n
  have hNn : (sy D n).length ≤ n := sy_le D n
  obtain ⟨N, hN⟩ : ∃ N, N = (so D n).length := ⟨_, rfl⟩
  rw [← hN] at RL hNs ⊢
  rw [← hNs] at hle hNn
  have HN : Hid (N = (so D n).length ∧ N = (sy D n).length) := ⟨hN, hNs⟩
  clear hN hNs ol rl hc hsm
  have hp15 := p2_le m 15 h15
  have hp0 := p2 m
  have e15 : (2 : Int) ^ 15 = 32768 := rfl
  have hwr : wrap64 ((2 : Int) ^ m) = 2 ^ m := IntWalk.wrap64_in _ (by omega)
  by_cases hf : 2 ^ m < N
  · have hfi : (2 : Int) ^ m < (N : Int) := by rw [← p2_nat]; omega
    have q1 : decide (wrap64 ((2 : Int) ^ m) < (N : Int)) = true := by rw [hwr]; simp; omega
    rw [if_pos hf] at hle
    have RES : Hid (lerr D n m = 7 ∧ lv D n m = 0) := ⟨hle, by unfold lv; rw [if_neg (by omega)]⟩
    clear hle hp15 hp0 e15 hwr hfi hf
    go_wp2_with fail
    go_ret2
    exact ⟨by rw [RES.out.1, RES.out.2] <;> rfl, B1.out⟩
  · have hfi : (N : Int) ≤ 2 ^ m := by rw [← p2_nat]; omega
    have q1 : decide (wrap64 ((2 : Int) ^ m) < (N : Int)) = false := by rw [hwr]; simp; omega
    rw [if_neg hf] at hle
    have RES : Hid (lerr D n m = 0 ∧ lv D n m = lc D n m) := ⟨hle, by unfold lv; rw [if_pos hle, Int.toNat_natCast]⟩
    clear hle hp15 hp0 e15 hwr hfi
    by_cases hN2 : N < 2
    · have d3 : decide ((N : Int) < 2) = true := by simp; omega
      have hpl := xplain_few ao n c D w1 (HR.out.keep B1.out) (by omega) (by have := HN.out; omega)
      obtain ⟨X, hX⟩ : ∃ X, X = (so D n).headD 0 := ⟨_, rfl⟩
      rw [← hX] at hpl
      have RES2 : Hid (lc D n m = X) := by show _ = _; rw [hX]; unfold lc; rw [if_pos (by have := HN.out; omega)]
      clear hX
      go_wp2_with fail
      refine hpl.mono ?_
      rintro e w2 ⟨rfl, b2⟩
      go_wp2_with fail
      go_ret2
      exact ⟨by rw [RES.out.1, RES.out.2, RES2.out] <;> rfl, B1.out.trans (b2.mono B1.out.size)⟩
    · have d3 : decide ((N : Int) < 2) = false := by simp; omega
      have RES2 : Hid (lc D n m = sm id ((RR (so D n) m).take (2 * N - 2)) ∧ 2 * N - 2 ≤ (RR (so D n) m).length) := by
        have hNo := HN.out
        refine ⟨?_, ?_⟩
        · unfold lc; rw [if_neg (by omega), ← hNo.2]
        · rw [hNo.2]; exact RR_enough D n m h1 (by omega) (by omega)
      obtain ⟨ls, hls⟩ : ∃ ls, ls = so D n := ⟨_, rfl⟩
      rw [← hls] at RL HLB RES2
      have HNl : Hid (N = ls.length) := by rw [hls]; exact HN.out.1
      clear HN hls hf
      go_wp2
      go_loopw [8, 9, 10, 11] (fun rv iv _ _ wr => ∃ i : Nat, iv = .int .i64 i ∧ i ≤ m ∧ Hid (Ol w1 wr rv (RR ls i))) (fun _ iv _ _ _ => m - (intOf iv).toNat)
      case atStart => exact ⟨0, rfl, by omega, Ol.nil w1⟩
      case round =>
        clear q1 d1 d2 d3
        obtain ⟨i, rfl, hi, HO⟩ := hrel
        by_cases hlt : i < m
        · obtain ⟨ro, rc, hv, rr⟩ := HO.out.ri
          subst hv
          have hrl : (RR ls i).length ≤ 600 := by have h1 := RR_len ls i; have h2 := HNl.out; omega
          obtain ⟨M, hM⟩ : ∃ M, M = (RR ls i).length := ⟨_, rfl⟩
          rw [← hM] at rr hrl ⊢
          have HM : Hid (M = (RR ls i).length) := hM
          have RRo : Hid (Ri wr ro M rc (gl (RR ls i))) := rr
          have b1 : Below wr.heap.size wr (wr.alloc (.cells #[] 3)) := (Below.refl _ _).alloc (Nat.le_refl _) _
          have o0 : (wr.alloc (.cells #[] 3)).ownsRow wr.heap.size 3 1 (.slice (some ⟨wr.heap.size, 0, none⟩) 0 0) 0 [] := World.ownsRow_lit (base := wr.heap.size) (e := 3) (size := 1) wr #[] 0 (Nat.le_refl _) (by unfold maxLen; omega) rfl
          have hs1 : wr.heap.size ≤ (wr.alloc (.cells #[] 3)).heap.size := b1.size
          have rl1 := (RL.out.keep HO.out.bel).keep b1
          clear hM rr
          go_wp2_with (refine wpList_append_iv rfl _ _ rfl wr.heap.size 0 (.slice (some ⟨wr.heap.size, 0, none⟩) 0 0) [] rfl o0 _ N _ (gl ls) rfl rl1 (by omega) hs1 ?_; intro v2 w2 o2 g2)
          have O2 : Hid (Ol wr w2 v2 (nx ls (RR ls i) 0)) := by
            rw [Nat.zero_add, List.nil_append] at o2
            refine ⟨?_, b1.grown g2 hs1 (fun q hq => by cases hq; exact Nat.le_refl _)⟩
            have hNo := HNl.out
            rw [hNo, ivs_all] at o2
            exact o2
          clear b1 o0 hs1 rl1 o2 g2
          go_loopw [10, 11] (fun nv kv wx => ∃ t : Nat, kv = .int .i64 ((2 * t : Nat) : Int) ∧ t ≤ M / 2 ∧ Hid (Ol wr wx nv (nx ls (RR ls i) t))) (fun _ kv _ => M - (intOf kv).toNat)
          case atStart => exact ⟨0, rfl, by omega, O2⟩
          case round =>
            clear O2
            obtain ⟨t, rfl, ht, OX⟩ := hrel
            by_cases hlt2 : t < M / 2
            · obtain ⟨no, nc, hv, rn⟩ := OX.out.ri
              have hnl : (nx ls (RR ls i) t).length = N + t := by have h1 := nx_len ls (RR ls i) t (by have := HM.out; omega); have h2 := HNl.out; omega
              have rx := RRo.out.keep OX.out.bel
              obtain ⟨b, off, hro, hcell⟩ := rx.plain (by omega)
              have ca := hcell (2 * t) (by omega)
              have cb := hcell (2 * t + 1) (by omega)
              have ga := RR_gl ls HLB.out i (by omega) (2 * t) (by have := HM.out; omega)
              have gb := RR_gl ls HLB.out i (by omega) (2 * t + 1) (by have := HM.out; omega)
              have hput := xput_any no nc (nx ls (RR ls i) t) (gl (RR ls i) (2 * t) + gl (RR ls i) (2 * t + 1)) _ rn.drew (by omega)
              have HE := nx_succ ls (RR ls i) t (by have := HM.out; omega)
              have BX := hid OX.out.bel.drew
              have hLn : N + t ≤ 1000 := by omega
              rw [hnl] at hput hv
              obtain ⟨Ln, hL2⟩ : ∃ Ln, Ln = N + t := ⟨_, rfl⟩
              rw [← hL2] at hput hv hLn
              have rule : ∀ w5 v5, Ol _ w5 v5 (ins (nx ls (RR ls i) t) (gl (RR ls i) (2 * t) + gl (RR ls i) (2 * t + 1))) → Ol _ w5 v5 (nx ls (RR ls i) (t + 1)) := fun w5 v5 o5 => by rw [HE]; exact o5.later BX.out
              have RULE := hid rule
              generalize gl (RR ls i) (2 * t) = A at *
              generalize gl (RR ls i) (2 * t + 1) = B at *
              generalize ins (nx ls (RR ls i) t) (A + B) = Y at *
              have d5 : decide ((2 : Int) * (t : Int) + 1 < (M : Int)) = true := by simp; omega
              clear rn rx hcell OX HE rule hnl hL2 BX
              subst hro
              subst hv
              go_wp2_with fail
              have hAB : IntKind.i64.wrap (A + B) = A + B := by rw [IntKind.wrap_i64]; omega
              have hblk := World.block_lt_of_cell? _ _ ca
              have ix1 : 2 * t < M := by omega
              have ix2 : 2 * t + 1 < M := by omega
              have ix3 : (2 : Int) * (t : Int) < (M : Int) := by omega
              have ix4 : (2 : Int) * (t : Int) + 1 < (M : Int) := by omega
              have ix5 : IntKind.i64.wrap (2 * (t : Int) + 1) = 2 * (t : Int) + 1 := by rw [IntKind.wrap_i64]; omega
              go_region_with (go_at_call 30; refine hput.mono ?_; rintro e w5 ⟨v5, rfl, o5⟩)
              all_goals
                have O5 := hid (RULE.out w5 v5 o5)
                clear o5 RULE hput ca cb hblk
                go_wp2_with fail
                go_roundw
                case rel => exact ⟨t + 1, by go_num, by omega, O5⟩
                case measure => simp [intOf]; omega
            · have HE : Hid (nx ls (RR ls i) t = RR ls (i + 1)) := by
                have e : t = (RR ls i).length / 2 := by have := HM.out; omega
                show _ = _
                rw [e, nx_all]
                rfl
              have o3 := OX.out.later HO.out.bel
              rw [HE.out] at o3
              have O3 := hid o3
              clear o3
              have d5 : decide ((2 : Int) * (t : Int) + 1 < (M : Int)) = false := by simp; omega
              clear OX HE HO RRo
              go_wp2
              go_roundw
              case rel => exact ⟨i + 1, by go_num, by omega, O3⟩
              case measure => simp [intOf]; omega
        · obtain rfl : i = m := by omega
          obtain ⟨ro, rc, hv, rr⟩ := HO.out.ri
          have hrl : (RR ls i).length ≤ 600 := by have h1 := RR_len ls i; have h2 := HNl.out; omega
          have hge := RES2.out.2
          have HS := hid (sum_bound (RR ls i) (fun j hj => RR_gl ls HLB.out i h15 j hj))
          have HG := hid (fun j hj => RR_gl ls HLB.out i h15 j hj)
          have HT := hid (take_gl (RR ls i))
          have BEL := hid (B1.out.trans (HO.out.bel.mono B1.out.size))
          have HF : Hid (lv D n i = sm id ((RR ls i).take (2 * N - 2)) ∧ lerr D n i = 0) := ⟨RES.out.2.trans RES2.out.1, RES.out.1⟩
          clear HO RES RES2 HLB
          generalize RR ls i = R at *
          obtain ⟨M, hM⟩ : ∃ M, M = R.length := ⟨_, rfl⟩
          rw [← hM] at rr hv hrl hge
          have HM := hid hM
          have RRo := hid rr
          clear hM rr
          subst hv
          go_wp2
          go_loop [12, 13] (fun cv kv => ∃ k : Nat, kv = .int .i64 k ∧ k ≤ 2 * N - 2 ∧ cv = .int .i64 (sm id (R.take k))) (fun _ kv => 2 * N - (intOf kv).toNat)
          case atStart => exact ⟨0, rfl, by omega, rfl⟩
          case round =>
            obtain ⟨k, rfl, hk, rfl⟩ := hrel
            have hb := HS.out k (by have := HM.out; omega)
            by_cases hlt3 : k < 2 * N - 2
            · have hb2 := HG.out k (by have := HM.out; omega)
              have e1 : sm id (R.take (k + 1)) = sm id (R.take k) + gl R k := by
                rw [HT.out k (by have := HM.out; omega), sm_append]
                simp [sm]
              have HE1 := hid e1
              obtain ⟨b, off, hro, hcell⟩ := RRo.out.plain (by omega)
              have ck := hcell k (by omega)
              subst hro
              generalize gl R k = g at *
              generalize sm id (R.take k) = S at *
              have q5 : decide ((k : Int) < 2 * (N : Int) - 2) = true := by simp; omega
              have q6 : decide ((k : Int) < (M : Int)) = true := by simp; omega
              clear hcell e1 HS HG HT
              go_wp2
              go_round
              case rel => exact ⟨k + 1, by go_num, by omega, by rw [HE1.out]⟩
              case measure => simp [intOf]; omega
            · have hkk : k = 2 * N - 2 := by omega
              have HF2 : Hid (lv D n i = sm id (R.take k) ∧ lerr D n i = 0) := by rw [hkk]; exact HF.out
              have q5 : decide ((k : Int) < 2 * (N : Int) - 2) = false := by simp; omega
              generalize sm id (R.take k) = S at *
              clear HS HG HT RRo HF hkk
              go_wp2
              go_ret2
              exact ⟨by rw [HF2.out.1, HF2.out.2] <;> rfl, BEL.out⟩

theorem xleast_any (ao : Option Addr) (n c : Nat) (D : Nat → Int) (most : Int) (w : World) (h : Ri w ao n c D) :
    Calls Try.prog 10 #[.slice ao n c, .int .i64 most] w fun e w' => e = .returned (.tuple #[.int .i64 (lv D n most), .int .i64 (lerr D n most)]) ∧ Below w.heap.size w w' := by
  by_cases ho : okc D n = true ∧ 1 ≤ most ∧ most ≤ 15
  · obtain ⟨m, rfl⟩ : ∃ m : Nat, most = m := ⟨most.toNat, by omega⟩
    exact xl_go ao n c m D w h ho.1 (by omega) (by omega)
  · have e1 : lerr D n most = 1 := by unfold lerr; rw [if_neg ho]
    have e2 : lv D n most = 0 := by unfold lv; rw [if_neg (by omega)]
    rw [e1, e2]
    exact xl_arg ao n c D most w h ho

end Go.Proofs.Ytkclaikofdolmaa
