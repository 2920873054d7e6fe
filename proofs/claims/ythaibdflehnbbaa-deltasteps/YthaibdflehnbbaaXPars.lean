/- The document's Parse: the walk. -/
import Derived.Test.YthaibdflehnbbaaXParse
namespace Go.Proofs.Ythaibdflehnbbaa
open Go.RowKit

theorem psl_step {d : List Int} {p0 p : Nat} {l : List Op} (ha : psl (d.drop p0) = cat l (psl (d.drop p))) (hp : p < d.length) {b : Int} (hb : b = d.getD p 0) (hb0 : b ≠ 0) {o : Op} {q : Nat} (hs : st1 b (d.drop (p + 1)) = some (o, d.drop q)) :
    psl (d.drop p0) = cat (l ++ [o]) (psl (d.drop q)) := by
  rw [ha, drop_one d p hp, ← hb, psl_some b _ hb0 (o, d.drop q) hs]
  exact cat_step l o (psl (d.drop q))

theorem psl_fell {d : List Int} {p0 p : Nat} {l : List Op} (ha : psl (d.drop p0) = cat l (psl (d.drop p))) (hp : p < d.length) {b : Int} (hb : b = d.getD p 0) (hb0 : b ≠ 0) (hs : st1 b (d.drop (p + 1)) = none) : psl (d.drop p0) = (3, []) := by
  rw [ha, drop_one d p hp, ← hb, psl_none b _ hb0 hs]
  rfl

theorem psl_fell0 {d : List Int} {p0 p : Nat} {l : List Op} (ha : psl (d.drop p0) = cat l (psl (d.drop p))) (hp : p < d.length) (hb : d.getD p 0 = 0) : psl (d.drop p0) = (2, []) := by
  rw [ha, drop_one d p hp, hb, psl_zero]
  rfl

theorem none_rd (w : World) : (w.alloc (.cells #[] 5)).ownsRow w.heap.size 5 1 (.slice (some ⟨w.heap.size, 0, none⟩) 0 0) 0 (([] : List Int).map (Value.int .u8)) := none_own w _ (Nat.le_refl _)

theorem alloc_grown {w3 w5 : World} {O : Obj} (g : (w3.alloc O).grownBy w5 (some w3.heap.size)) : Below w3.heap.size w3 w5 :=
  ((Below.refl _ _).alloc (Nat.le_refl _) _).grown g (by simp) (fun k hk => by cases hk; exact Nat.le_refl _)

set_option maxRecDepth 100000 in
set_option maxHeartbeats 4000000 in
theorem rparse_any (ao : Option Addr) (n c : Nat) (d : List Int) (w : World) (h : Rd w ao n c d) (hn : n ≤ 1000000) :
    Calls Try.prog 13 #[.slice ao n c] w fun e w' => ∃ v m ms, e = .returned (.tuple #[.int .i64 (prs d).1, .int .i64 (prs d).2.1, v, .int .i64 (prs d).2.2.2]) ∧ OwO w' 53 w.heap.size v m ms (prs d).2.2.1 ∧ Below w.heap.size w w' := by
  obtain ⟨i0, hi0, hz0, hz1, hz2⟩ := info_parts Try.info53
  have hl := h.len
  have hbyt := h.byt
  have HR : Hid (Rd w ao n c d) := h
  have h1 := rsizes_any ao n c d w h hn
  have hok := szs_ok d h.byt
  by_cases hz : (szs d).2.2.2 = 0
  · have hk : (szs d).2.2.1 ≤ n := by omega
    have hp1 := prs_bad2 d hz
    have hp2 := prs_good d hz
    rw [hz] at h1
    generalize (szs d).1 = v1 at *
    generalize (szs d).2.1 = v2 at *
    generalize (szs d).2.2.1 = p0 at *
    have HP1 : Hid ((psl (d.drop p0)).1 ≠ 0 → prs d = (0, 0, [], (psl (d.drop p0)).1)) := hp1
    have HP2 : Hid ((psl (d.drop p0)).1 = 0 → prs d = (v1, v2, (psl (d.drop p0)).2, 0)) := hp2
    have HBY : Hid (∀ x ∈ d, 0 ≤ x ∧ x < 256) := hbyt
    clear h hok hp1 hp2 hz hbyt
    go_enter Try.func13, Try.ntmps13
    go_wp2_with fail
    refine h1.mono ?_
    rintro e w1 ⟨rfl, rfl⟩
    have H0 : Hid (Rp w1 w1 d p0 n (.slice none 0 0) 0 [] [] p0) := ⟨OwO.nil _ _ _, Below.refl _ _, by rw [cat_nil _ (psl_bad _)], by omega, hk⟩
    clear h1
    go_wp2_with fail
    go_loopw [8, 10] (fun av lv wr => ∃ p m ms l, av = .int .i64 (p : Nat) ∧ p ≤ n ∧ m ≤ n ∧ Hid (Rp w1 wr d p0 n lv m ms l p)) (fun av _ _ => n - (intOf av).toNat)
    case atStart => exact ⟨p0, 0, [], [], rfl, hk, by omega, H0⟩
    case round =>
      clear H0
      obtain ⟨p, m, ms, l, rfl, hpn, hmn, HY⟩ := hrel
      by_cases hlt : p < n
      · have z1 : (p : Int) < n := by omega
        obtain ⟨db, df, eao, hcd⟩ := HR.out.plain (by omega)
        have hc0 : wr.cell? ⟨db, df + p, none⟩ = some (.int .u8 (d.getD p 0)) := by
          have := hcd p hlt
          rw [HY.out.bel.cell (World.block_lt_of_cell? w1 _ this)]
          exact this
        have hbb := getD_byt d HBY.out p
        obtain ⟨b, hb⟩ : ∃ b, b = d.getD p 0 := ⟨_, rfl⟩
        rw [← hb] at hc0 hbb
        have HBD : Hid (b = d.getD p 0) := hb
        have hb0 := hbb.1
        have hb1 := hbb.2
        clear hb hbb
        by_cases hbz : b = 0
        · have HA : Hid (psl (d.drop p0) = (2, [])) := psl_fell0 HY.out.ans (by omega) (by rw [← HBD.out, hbz])
          have HPR : Hid (prs d = (0, 0, [], 2)) := by
            have := HP1.out (by rw [HA.out]; decide)
            rw [HA.out] at this
            exact this
          have BB : Hid (Below w1.heap.size w1 wr) := HY.out.bel
          subst hbz eao
          clear HY hcd HA
          go_wp2
          refine bodyPost_ret (results_tmp4 rfl _ _ _) rfl ?_
          rw [HPR.out]
          exact ⟨_, 0, [], by simp, OwO.nil _ _ _, BB.out⟩
        · have q0 : (b == 0) = false := by simp [hbz]
          by_cases hb128 : b < 128
          · obtain ⟨B, rfl⟩ : ∃ B : Nat, b = B := ⟨b.toNat, by omega⟩
            by_cases hsh : n - (p + 1) < B
            · have z2 : (n : Int) - (p + 1) < B := by omega
              have HA : Hid (psl (d.drop p0) = (3, [])) := psl_fell HY.out.ans (by omega) HBD.out hbz (by
                unfold st1
                rw [if_pos hb128, if_pos (by simp; omega)])
              have HPR : Hid (prs d = (0, 0, [], 3)) := by
                have := HP1.out (by rw [HA.out]; decide)
                rw [HA.out] at this
                exact this
              have BB : Hid (Below w1.heap.size w1 wr) := HY.out.bel
              subst eao
              clear HY hcd HA
              go_wp2
              refine bodyPost_ret (results_tmp4 rfl _ _ _) rfl ?_
              rw [HPR.out]
              exact ⟨_, 0, [], by simp, OwO.nil _ _ _, BB.out⟩
            · have z2 : ¬ (n : Int) - (p + 1) < B := by omega
              have hsub : p + 1 + B ≤ n := by omega
              have HST : Hid (st1 B (d.drop (p + 1)) = some (⟨false, 0, 0, (d.drop (p + 1)).take B⟩, d.drop (p + 1 + B))) := by
                show _ = _
                unfold st1
                rw [if_pos hb128, if_neg (by simp; omega), Int.toNat_natCast, List.drop_drop]
              have rdw := (HR.out.keep HY.out.bel).keep (new_below wr (.cells #[] 5))
              have hl2 : ((d.drop (p + 1)).take B).length = B := by simp; omega
              subst eao
              go_wp2_with (first
                | (refine wpList_sub rfl _ _ _ rfl rdw (p + 1) B hsub rfl (.inl (by rw [Int.natCast_add]; rfl)) (.inl (by rw [Int.natCast_add, Int.natCast_add]; rfl)) ?_; intro ao2 c2 hr2 hs2)
                | (at_builtin; refine wpList_append_lies _ rfl _ _ 32 rfl w1.heap.size 53 i0 (.agg #[.bool false, .int .i64 0, .int .i64 0, .slice none 0 0]) 4 48 Try.underlying32 hi0 hz0 hz1 hz2 rfl (by decide) u10 m _ rfl ((HY.out.own.keep bel4).own.alloc _) ⟨w4.heap.size, 0, none⟩ 1 1 (oc ⟨false, 0, 0, some ⟨g4, 0, none⟩, B, c4⟩) rfl rfl (cell_four_new _ _ _ _ _ _) (oc_oneCell _) (by omega) (by unfold maxLen; omega) (by omega) (by have := HY.out.bel.size; have := bel4.size; simp; omega) (w4.heap.size + 1) (by simp) ?_; intro g5 c5 w5 o5 gr5 l5 s5)
                | (at_builtin; refine wpList_append_rd rfl _ _ rfl wr.heap.size wr.heap.size 0 0 [] rfl (none_rd wr) ao2 B c2 _ rfl hr2 (by omega) (by simp) ?_; intro g4 c4 w4 o4 gr4; rw [Nat.zero_add, List.nil_append] at o4; rw [Nat.zero_add]; have bel4 := alloc_grown gr4))
              have byt4 : ∀ x ∈ (d.drop (p + 1)).take B, 0 ≤ x ∧ x < 256 := fun x hx => HBY.out x (List.mem_of_mem_drop (List.mem_of_mem_take hx))
              have rd4 := (Rd.ofOwn o4 byt4).keep (new_below w4 (.cells #[.bool false, .int .i64 0, .int .i64 0, .slice (some ⟨g4, 0, none⟩) B c4] 53))
              have hg4 := own_base o4
              have O4 := (HY.out.own.keep bel4).keep (new_below w4 (.cells #[.bool false, .int .i64 0, .int .i64 0, .slice (some ⟨g4, 0, none⟩) B c4] 53))
              have O5 := O4.push (x := ⟨false, 0, 0, some ⟨g4, 0, none⟩, B, c4⟩) (o := ⟨false, 0, 0, (d.drop (p + 1)).take B⟩) ⟨rfl, rfl, rfl, rd4⟩ (fun q hq ad e _ e2 => by cases e; have := (HY.out.own.own.lt q hq).2; have : g4 = q := e2; omega) o5 gr5 l5 (by simp)
              have B5 : Below w1.heap.size w1 w5 := ((HY.out.bel.trans (bel4.mono HY.out.bel.size)).alloc (by have := HY.out.bel.size; have := bel4.size; omega) _).grown gr5 (by have := HY.out.bel.size; have := bel4.size; simp; omega) (fun q hq => (HY.out.own.own.lt q hq).1)
              have HN : Hid (Rp w1 w5 d p0 n (.slice (some ⟨g5, 0, none⟩) (m + 1) c5) (m + 1) (ms ++ [⟨false, 0, 0, some ⟨g4, 0, none⟩, B, c4⟩]) (l ++ [⟨false, 0, 0, (d.drop (p + 1)).take B⟩]) (p + 1 + B)) := ⟨O5, B5, psl_step HY.out.ans (by omega) HBD.out hbz HST.out, by have := HY.out.mle; omega, hsub⟩
              have hmle := HY.out.mle
              clear O5 O4 B5 rd4 o5 gr5 l5 s5 o4 gr4 bel4 hr2 hs2 HY byt4
              refine ⟨⟨p + 1 + B, m + 1, _, _, by rw [Int.natCast_add, Int.natCast_add]; rfl, hsub, by omega, HN⟩, ?_⟩
              simp [intOf]
              omega
          · obtain ⟨wo, hwo⟩ : ∃ wo, wo = wr := ⟨_, rfl⟩
            subst hwo
            obtain ⟨X, hX⟩ : ∃ X, X = wo.heap.size := ⟨_, rfl⟩
            have HX : Hid (X = wo.heap.size) := hX
            have r0 := fo_new wo (.bool true) (.int .i64 0) (.int .i64 0) (.slice none 0 0) 53
            have BW0 : Hid (Below wo.heap.size wo (wo.alloc (.cells #[.bool true, .int .i64 0, .int .i64 0, .slice none 0 0] 53))) := new_below wo _
            rw [← hX] at r0
            have HB0 : Hid (b ≠ 0) := hbz
            have HB1 : Hid (¬ b < 128) := hb128
            subst eao
            go_wp2_with fail
            rw [← hX]
            clear hX
            go_loopw [8, 13] (fun av iv w3 => ∃ (i p' : Nat) (fr nn : Int), iv = .int .i64 i ∧ av = .int .i64 p' ∧ i ≤ 7 ∧ p + 1 ≤ p' ∧ p' ≤ n ∧ (i ≤ 4 → nn = 0) ∧ 0 ≤ fr ∧ 0 ≤ nn ∧ Hid (i ≤ 4 → fr < 256 ^ i) ∧ Hid (nn < 256 ^ (i - 4)) ∧
                Hid (rem7 b 0 0 0 (d.drop (p + 1)) = rem7 b i fr nn (d.drop p')) ∧ w3.rowIs X 53 4 (fo (.bool true) (.int .i64 fr) (.int .i64 nn) (.slice none 0 0)) ∧ Hid (Below wo.heap.size wo w3)) (fun _ iv _ => 7 - (intOf iv).toNat)
            case atStart => exact ⟨0, p + 1, 0, 0, rfl, by rw [Int.natCast_add]; rfl, by omega, by omega, by omega, fun _ => rfl, by omega, by omega, (fun _ => by simp), (by show (0 : Int) < 256 ^ 0; simp), rfl, r0, BW0⟩
            case round =>
              obtain ⟨i, p', fr, nn, rfl, rfl, hi7, hpp, hpn', hnn0, hfr0, hnn0', HFR, HNN, HREM, hr, HBE⟩ := hrel
              clear r0 BW0
              by_cases hi : i < 7
              · have zi : (i : Int) < 7 := by omega
                have q1 : bits .and .i64 (b / 2 ^ i) 1 = b / 2 ^ i % 2 := i64_one _
                by_cases hbit : b / 2 ^ i % 2 = 1
                · have q2 : bits .and .i64 (b / 2 ^ i) 1 = 1 := by rw [q1, hbit]
                  have HBIT : Hid (b / 2 ^ i % 2 = 1) := hbit
                  clear hbit q1
                  by_cases hpe : p' = n
                  · subst hpe
                    have HA : Hid (psl (d.drop p0) = (3, [])) := psl_fell HY.out.ans (by omega) HBD.out HB0.out (by
                      unfold st1
                      rw [if_neg (by have := HB1.out; omega), rem7_cpr, HREM.out, List.drop_of_length_le (by omega), rem7_nil b i fr nn hi hnn0 HBIT.out]
                      rfl)
                    have HPR : Hid (prs d = (0, 0, [], 3)) := by
                      have := HP1.out (by rw [HA.out]; decide)
                      rw [HA.out] at this
                      exact this
                    have BB : Hid (Below w1.heap.size w1 wr) := HY.out.bel.trans (HBE.out.mono HY.out.bel.size)
                    clear HY hcd HA hr
                    go_wp2
                    refine bodyPost_ret (results_tmp4 rfl _ _ _) rfl ?_
                    rw [HPR.out]
                    exact ⟨_, 0, [], by simp, OwO.nil _ _ _, BB.out⟩
                  · have hplt : p' < n := by omega
                    have zp : ((p' : Int) == (n : Int)) = false := by simp; omega
                    have hcy : wr.cell? ⟨db, df + p', none⟩ = some (.int .u8 (d.getD p' 0)) := by
                      have h0 := hcd p' hplt
                      have h1 : wo.cell? ⟨db, df + p', none⟩ = some (.int .u8 (d.getD p' 0)) := by rw [HY.out.bel.cell (World.block_lt_of_cell? w1 _ h0)]; exact h0
                      rw [HBE.out.cell (World.block_lt_of_cell? wo _ h1)]
                      exact h1
                    have hyb := getD_byt d HBY.out p'
                    obtain ⟨y, hy⟩ : ∃ y, y = d.getD p' 0 := ⟨_, rfl⟩
                    have HYD : Hid (d.drop p' = y :: d.drop (p' + 1)) := by show _ = _; rw [hy]; exact drop_one d p' (by omega)
                    rw [← hy] at hcy hyb
                    have hy0 := hyb.1
                    have hy1 := hyb.2
                    have k1 := hr.cell (i := 1) (by omega)
                    have k1f := hr.frozen 1
                    have k2 := hr.cell (i := 2) (by omega)
                    have k2f := hr.frozen 2
                    simp only [fo] at k1 k2
                    clear hy hyb
                    by_cases h4 : i < 4
                    · have z4 : (i : Int) < 4 := by omega
                      obtain rfl : nn = 0 := hnn0 (by omega)
                      have hd := dec8 i fr y (by omega) hfr0 (HFR.out (by omega)) hy0 hy1
                      have D1 := hd.1
                      have HFR2 : Hid (i + 1 ≤ 4 → fr + 256 ^ i * y < 256 ^ (i + 1)) := fun _ => hd.2.2
                      have D2 := hd.2.1
                      have HREM2 : Hid (rem7 b 0 0 0 (d.drop (p + 1)) = rem7 b (i + 1) (fr + 256 ^ i * y) 0 (d.drop (p' + 1))) := by
                        show _ = _
                        rw [HREM.out, HYD.out, rem7_yes1 b i fr y _ h4 HBIT.out]
                      have RS := (fo_set1 hr (.int .i64 (fr + 256 ^ i * y))).of_block (w' := (wr.setCell ⟨X, 1, none⟩ (.int .i64 (fr + 256 ^ i * y))).drew) rfl
                      have BS : Hid (Below wo.heap.size wo (wr.setCell ⟨X, 1, none⟩ (.int .i64 (fr + 256 ^ i * y))).drew) := (HBE.out.trans ((set_fr wr ⟨X, 1, none⟩ _).below _ HBE.out.size (fun j hj e => by have : j = X := e; have := HX.out; omega))).drew
                      have HNN2 : Hid ((0 : Int) < 256 ^ (i + 1 - 4)) := Int.pow_pos (by decide)
                      clear hd hr HREM HFR HNN
                      go_wp2
                      go_region
                      clear D1 hcy k1 k1f k2 k2f
                      go_wp2
                      go_roundw
                      case rel => exact ⟨i + 1, p' + 1, fr + 256 ^ i * y, 0, by go_num, by go_num, by omega, by omega, by omega, fun _ => rfl, D2, by omega, HFR2, HNN2, HREM2, RS, BS⟩
                      case measure => simp [intOf]; omega
                    · have z4 : (4 : Int) ≤ i := by omega
                      have z5 : decide ((i : Int) < 4) = false := decide_eq_false (by omega)
                      obtain ⟨j, hj⟩ : ∃ j, j = i - 4 := ⟨_, rfl⟩
                      have HJ : Hid (j = i - 4) := hj
                      have ij : (i : Int) - 4 = j := by omega
                      have HNNj : Hid (nn < 256 ^ j) := by have := HNN.out; rw [← hj] at this; exact this
                      have hd := dec8 j nn y (by omega) hnn0' HNNj.out hy0 hy1
                      have hj3 : j ≤ 3 := by omega
                      have D1 := hd.1
                      have HNN2 : Hid (nn + 256 ^ j * y < 256 ^ (i + 1 - 4)) := by
                        have := hd.2.2
                        rw [show j + 1 = i + 1 - 4 by omega] at this
                        exact this
                      have D2 := hd.2.1
                      have HREM2 : Hid (rem7 b 0 0 0 (d.drop (p + 1)) = rem7 b (i + 1) fr (nn + 256 ^ j * y) (d.drop (p' + 1))) := by
                        show _ = _
                        rw [HREM.out, HYD.out, rem7_yes2 b i fr nn y _ (by omega) hi HBIT.out, ← hj]
                      have RS := (fo_set2 hr (.int .i64 (nn + 256 ^ j * y))).of_block (w' := (wr.setCell ⟨X, 2, none⟩ (.int .i64 (nn + 256 ^ j * y))).drew) rfl
                      have BS : Hid (Below wo.heap.size wo (wr.setCell ⟨X, 2, none⟩ (.int .i64 (nn + 256 ^ j * y))).drew) := (HBE.out.trans ((set_fr wr ⟨X, 2, none⟩ _).below _ HBE.out.size (fun q hq e => by have : q = X := e; have := HX.out; omega))).drew
                      clear hd hr HREM HFR HNN hj
                      go_wp2
                      go_region
                      clear D1 hcy k1 k1f k2 k2f
                      go_wp2
                      go_roundw
                      case rel => exact ⟨i + 1, p' + 1, fr, nn + 256 ^ j * y, by go_num, by go_num, by omega, by omega, by omega, fun h => by omega, hfr0, D2, (fun h => by omega), HNN2, HREM2, RS, BS⟩
                      case measure => simp [intOf]; omega
                · have q2 : bits .and .i64 (b / 2 ^ i) 1 = 0 := by rw [q1]; omega
                  have HREM2 : Hid (rem7 b 0 0 0 (d.drop (p + 1)) = rem7 b (i + 1) fr nn (d.drop p')) := by
                    show _ = _
                    rw [HREM.out, rem7_no b i fr nn _ hi hnn0 hbit]
                  have HFR2 : Hid (i + 1 ≤ 4 → fr < 256 ^ (i + 1)) := fun h => by
                    have := HFR.out (by omega)
                    have hp : (0 : Int) < 256 ^ i := Int.pow_pos (by decide)
                    have hs : (256 : Int) ^ (i + 1) = 256 ^ i * 256 := Int.pow_succ _ _
                    omega
                  have HNN2 : Hid (nn < 256 ^ (i + 1 - 4)) := by
                    have h1 := HNN.out
                    have := pow256_le (i - 4) (i + 1 - 4) (by omega)
                    show _ < _
                    omega
                  clear q1 hbit HREM
                  go_wp2
                  go_roundw
                  case rel => exact ⟨i + 1, p', fr, nn, by go_num, rfl, by omega, hpp, hpn', fun h => hnn0 (by omega), hfr0, hnn0', HFR2, HNN2, HREM2, hr, HBE⟩
                  case measure => simp [intOf]; omega
              · obtain rfl : i = 7 := by omega
                have k0 := hr.cell (i := 0) (by omega)
                have k1 := hr.cell (i := 1) (by omega)
                have k2 := hr.cell (i := 2) (by omega)
                have k3 := hr.cell (i := 3) (by omega)
                have k2f := hr.frozen 2
                simp only [fo] at k0 k1 k2 k3
                have HST : Hid (st1 b (d.drop (p + 1)) = some (⟨true, fr, if nn = 0 then 65536 else nn, []⟩, d.drop p')) := by
                  show _ = _
                  unfold st1
                  rw [if_neg (by have := HB1.out; omega), rem7_cpr, HREM.out, rem7_end]
                  rfl
                have OK := HY.out.own.keep HBE.out
                have hmle := HY.out.mle
                have BB := HY.out.bel.trans (HBE.out.mono HY.out.bel.size)
                have hANS := psl_step HY.out.ans (by omega) HBD.out HB0.out HST.out
                by_cases hz : nn = 0
                · subst hz
                  rw [if_pos rfl] at hANS
                  have HANS : Hid (psl (d.drop p0) = cat (l ++ [⟨true, fr, 65536, []⟩]) (psl (d.drop p'))) := hANS
                  have rs := fo_set2 hr (.int .i64 65536)
                  have kk0 := rs.cell (i := 0) (by omega)
                  have kk1 := rs.cell (i := 1) (by omega)
                  have kk2 := rs.cell (i := 2) (by omega)
                  have kk3 := rs.cell (i := 3) (by omega)
                  simp only [fo] at kk0 kk1 kk2 kk3
                  have bs2 : Below wo.heap.size wo (wr.setCell ⟨X, 2, none⟩ (.int .i64 65536)) := HBE.out.trans ((set_fr wr ⟨X, 2, none⟩ _).below _ HBE.out.size (fun q hq e => by have : q = X := e; have := HX.out; omega))
                  have OK2 := HY.out.own.keep bs2
                  have BB2 := HY.out.bel.trans (bs2.mono HY.out.bel.size)
                  have hszs : (wr.setCell ⟨X, 2, none⟩ (.int .i64 65536)).heap.size = wr.heap.size := by simp [World.setCell]
                  have cfn : ∀ j v, (oc ⟨true, fr, 65536, none, 0, 0⟩)[j]? = some v → ((wr.setCell ⟨X, 2, none⟩ (.int .i64 65536)).alloc (.cells #[.bool true, .int .i64 fr, .int .i64 65536, .slice none 0 0] 53)).cell? ((⟨wr.heap.size, 0, none⟩ : Addr).add j) = some v := by
                    have := cell_four_new (wr.setCell ⟨X, 2, none⟩ (.int .i64 65536)) (.bool true) (.int .i64 fr) (.int .i64 65536) (.slice none 0 0) 53
                    rw [hszs] at this
                    exact this
                  have hbas : w1.heap.size ≤ ((wr.setCell ⟨X, 2, none⟩ (.int .i64 65536)).alloc (.cells #[.bool true, .int .i64 fr, .int .i64 65536, .slice none 0 0] 53)).heap.size := Nat.le_trans BB2.size (new_below _ _).size
                  have hsz3 : ((wr.setCell ⟨X, 2, none⟩ (.int .i64 65536)).alloc (.cells #[.bool true, .int .i64 fr, .int .i64 65536, .slice none 0 0] 53)).heap.size = wr.heap.size + 1 := by simp [World.setCell]
                  have HSZ3 : Hid (((wr.setCell ⟨X, 2, none⟩ (.int .i64 65536)).alloc (.cells #[.bool true, .int .i64 fr, .int .i64 65536, .slice none 0 0] 53)).heap.size = wr.heap.size + 1) := hsz3
                  have HBAS : Hid (w1.heap.size ≤ ((wr.setCell ⟨X, 2, none⟩ (.int .i64 65536)).alloc (.cells #[.bool true, .int .i64 fr, .int .i64 65536, .slice none 0 0] 53)).heap.size) := hbas
                  clear hANS HST HREM HY hszs hsz3 hbas
                  go_wp2_with (first
                    | (at_builtin; refine wpList_append_lies _ rfl _ _ 32 rfl w1.heap.size 53 i0 (.agg #[.bool false, .int .i64 0, .int .i64 0, .slice none 0 0]) 4 48 Try.underlying32 hi0 hz0 hz1 hz2 rfl (by decide) u10 m _ rfl (OK2.own.alloc _) ⟨wr.heap.size, 0, none⟩ 1 1 (oc ⟨true, fr, 65536, none, 0, 0⟩) rfl rfl cfn (oc_oneCell _) (by omega) (by unfold maxLen; omega) (by omega) HBAS.out (wr.heap.size + 1) HSZ3.out ?_; intro g5 c5 w5 o5 gr5 l5 s5))
                  have O5 := (OK2.keep (new_below (wr.setCell ⟨X, 2, none⟩ (.int .i64 65536)) (.cells #[.bool true, .int .i64 fr, .int .i64 65536, .slice none 0 0] 53))).push (x := ⟨true, fr, 65536, none, 0, 0⟩) (o := ⟨true, fr, 65536, []⟩) ⟨rfl, rfl, rfl, Rd.nil _⟩ (fun q hq ad e => by cases e) o5 gr5 l5 HSZ3.out.symm
                  have B5 : Below w1.heap.size w1 w5 := (BB2.alloc BB2.size _).grown gr5 HBAS.out (fun q hq => (OK2.own.lt q hq).1)
                  have HN : Hid (Rp w1 w5 d p0 n (.slice (some ⟨g5, 0, none⟩) (m + 1) c5) (m + 1) (ms ++ [⟨true, fr, 65536, none, 0, 0⟩]) (l ++ [⟨true, fr, 65536, []⟩]) p') := ⟨O5, B5, HANS.out, by omega, hpn'⟩
                  clear O5 B5 o5 gr5 l5 s5 OK BB hr k0 k1 k2 k3
                  refine ⟨⟨p', m + 1, _, _, rfl, hpn', by omega, HN⟩, ?_⟩
                  simp [intOf]
                  omega
                · have qz : (nn == 0) = false := by simp [hz]
                  rw [if_neg hz] at hANS
                  have HANS : Hid (psl (d.drop p0) = cat (l ++ [⟨true, fr, nn, []⟩]) (psl (d.drop p'))) := hANS
                  clear hANS HST HREM HY
                  go_wp2_with (first
                    | (at_builtin; refine wpList_append_lies _ rfl _ _ 32 rfl w1.heap.size 53 i0 (.agg #[.bool false, .int .i64 0, .int .i64 0, .slice none 0 0]) 4 48 Try.underlying32 hi0 hz0 hz1 hz2 rfl (by decide) u10 m _ rfl (OK.own.alloc _) ⟨wr.heap.size, 0, none⟩ 1 1 (oc ⟨true, fr, nn, none, 0, 0⟩) rfl rfl (cell_four_new _ _ _ _ _ _) (oc_oneCell _) (by omega) (by unfold maxLen; omega) (by omega) (by have := BB.size; simp; omega) (wr.heap.size + 1) (by simp) ?_; intro g5 c5 w5 o5 gr5 l5 s5))
                  have O5 := (OK.keep (new_below wr (.cells #[.bool true, .int .i64 fr, .int .i64 nn, .slice none 0 0] 53))).push (x := ⟨true, fr, nn, none, 0, 0⟩) (o := ⟨true, fr, nn, []⟩) ⟨rfl, rfl, rfl, Rd.nil _⟩ (fun q hq ad e => by cases e) o5 gr5 l5 (by simp)
                  have B5 : Below w1.heap.size w1 w5 := (BB.alloc BB.size _).grown gr5 (by have := BB.size; simp; omega) (fun q hq => (OK.own.lt q hq).1)
                  have HN : Hid (Rp w1 w5 d p0 n (.slice (some ⟨g5, 0, none⟩) (m + 1) c5) (m + 1) (ms ++ [⟨true, fr, nn, none, 0, 0⟩]) (l ++ [⟨true, fr, nn, []⟩]) p') := ⟨O5, B5, HANS.out, by omega, hpn'⟩
                  clear O5 B5 o5 gr5 l5 s5 OK BB hr k0 k1 k2 k3
                  refine ⟨⟨p', m + 1, _, _, rfl, hpn', by omega, HN⟩, ?_⟩
                  simp [intOf]
                  omega
      · obtain rfl : p = n := by omega
        have HA : Hid (psl (d.drop p0) = (0, l)) := by
          have := HY.out.ans
          rw [List.drop_of_length_le (by omega : d.length ≤ p), psl_nil] at this
          show _ = _
          rw [this]
          simp [cat]
        have HPR : Hid (prs d = (v1, v2, l, 0)) := by
          have := HP2.out (by rw [HA.out])
          rw [HA.out] at this
          exact this
        have OO : Hid (OwO wr 53 w1.heap.size u10 m ms l) := HY.out.own
        have BB : Hid (Below w1.heap.size w1 wr) := HY.out.bel
        clear HY HA
        go_wp2
        refine bodyPost_ret (results_tmp4 rfl _ _ _) rfl ?_
        rw [HPR.out]
        exact ⟨_, m, ms, by simp, OO.out, BB.out⟩
  · have HP : Hid (prs d = (0, 0, [], (szs d).2.2.2)) := prs_bad1 d hz
    generalize (szs d).1 = v1 at *
    generalize (szs d).2.1 = v2 at *
    generalize (szs d).2.2.1 = k at *
    generalize (szs d).2.2.2 = er at *
    have q4 : (er != 0) = true := by simp [hz]
    clear h hok
    go_enter Try.func13, Try.ntmps13
    go_wp2_with (first
      | (go_at_call 11; refine h1.mono ?_; rintro e w1 ⟨rfl, rfl⟩))
    refine bodyPost_ret (results_tmp4 rfl _ _ _) rfl ?_
    rw [HP.out]
    exact ⟨_, 0, [], by simp, OwO.nil _ _ _, Below.refl _ _⟩

end Go.Proofs.Ythaibdflehnbbaa
