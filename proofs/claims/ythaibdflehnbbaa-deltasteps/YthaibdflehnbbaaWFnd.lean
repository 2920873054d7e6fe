/- found: the walk. -/
import Derived.Test.YthaibdflehnbbaaWFound
namespace Go.Proofs.Ythaibdflehnbbaa
open Go.RowKit Go.Maps Go.ChangeShapes

set_option maxRecDepth 100000 in
set_option maxHeartbeats 2000000 in
theorem found_any (B : Nat) (v : Value) (n : Nat) (ms : List MO) (l : List Op) (bo : Option Addr) (N C : Nat) (bs : List Int) (tg : Option Addr) (M E : Nat) (ts : List Int) (ef : Int) (w : World) (h : Ow w B v w v n ms l) (hb : Rd w bo N C bs) (ht : Rd w tg M E ts)
    (hsb : ∀ ad, bo = some ad → 0 < N → ad.block < B) (hst : ∀ ad, tg = some ad → 0 < M → ad.block < B) (hn : n ≤ 100000) (hN : N ≤ 65536) (hM : M ≤ 65536) :
    Calls Try.prog 44 #[v, .slice bo N C, .slice tg M E, .int .i64 ef] w fun e w' => ∃ v' n' ms' l', e = .returned v' ∧ Ow w B v w' v' n' ms' (l ++ l') ∧ Gd bs l' ts := by
  have hbl := hb.len
  have htl := ht.len
  have hll := h.own.len
  have hvB : ∀ k, v.ownBlock = some k → B ≤ k := fun k hk => (h.lt k hk).1
  have hvL : ∀ k, v.ownBlock = some k → k < w.heap.size := fun k hk => (h.lt k hk).2
  have HVB : Hid (∀ k, v.ownBlock = some k → B ≤ k) := hvB
  have HVL : Hid (∀ k, v.ownBlock = some k → k < w.heap.size) := hvL
  have H0 : Hid (Ow w B v w v n ms l) := h
  have HB : Hid (Rd w bo N C bs) := hb
  have HT : Hid (Rd w tg M E ts) := ht
  have HSB : Hid (∀ ad, bo = some ad → 0 < N → ad.block < B) := hsb
  have HST : Hid (∀ ad, tg = some ad → 0 < M → ad.block < B) := hst
  clear h hb ht hsb hst hvB hvL
  go_enter Try.func44, Try.ntmps44
  go_wp2_with fail
  refine (keepBlocks_any bo N C bs tg M E ef w HB.out (by omega) (by omega)).mono ?_
  rintro e wK ⟨rfl, kn, D, hG, hRg, hkn, hBK⟩
  have HG : Hid (wK.ownsGroups Try.prog 91 (w.heap.size + 1) 3 .i64 w.heap.size kn D) := hG
  have HRG : Hid (Rg N D) := hRg
  have HBK : Hid (Below w.heap.size w wK) := hBK
  have OK1 := H0.out.keep hBK
  have OK : Hid (Ow wK B v wK v n ms l) := Ow.refl OK1.own (Nat.le_trans OK1.low OK1.fr.size) OK1.dat
  have RB : Hid (Rd wK bo N C bs) := HB.out.keep hBK
  have RT : Hid (Rd wK tg M E ts) := HT.out.keep hBK
  have HFIN : Hid (∀ w' v' n' ms' l', Ow wK B v w' v' n' ms' l' → Ow w B v w' v' n' ms' l') := fun w' v' n' ms' l' ho => OK1.trans ho
  clear hG hRg hBK OK1 H0
  go_wp2_with fail
  refine (newWindow_any tg M E ts 0 wK RT.out (by omega) (by omega)).mono ?_
  rintro e w1 ⟨R, s, rfl, hr, hs0, hs1, hRl, hB1⟩
  have F1 : Hid (Fw wK B v l bs ts tg M E w1 v n ms [] 0 0 R s) := ⟨by simpa using OK.out.keep hB1, by simpa using Gd.nil bs, hr, hRl, hs0, hs1, by omega, by omega⟩
  clear hr hs0 hs1 hRl hB1
  go_wp2_with fail
  go_loopg [0, 9, 11] (M + 1) (fun gk lv tv wv wr => ∃ n1 ms1 l1 T p R s, tv = .int .i64 (T : Nat) ∧ wv = .pointer (some ⟨R, 0, none⟩) ∧ gk = M + 1 - p ∧ Hid (Fw wK B v l bs ts tg M E wr lv n1 ms1 l1 T p R s))
  case atStart => exact ⟨n, ms, [], 0, 0, R, s, rfl, rfl, by omega, F1⟩
  case round =>
    clear F1
    obtain ⟨n1, ms1, l1, T, p, R, s, rfl, rfl, rfl, HF⟩ := hrel
    have hT0 := HF.out.T0
    have hp0 := HF.out.p0
    have hn1 : n1 ≤ 200000 := by
      have h1 := HF.out.own.own.len
      have h2 := HF.out.good.len
      simp only [List.length_append, List.length_take] at h1 h2
      omega
    go_wp2_with fail
    refine (fits_any R tg M E p s wr HF.out.win (by omega)).mono ?_
    rintro e w2 ⟨rfl, hB2⟩
    have F2 := HF.out.keep hB2
    clear HF hB2
    by_cases hk : p + 16 ≤ M
    · have hd : decide (p + 16 ≤ M) = true := decide_eq_true hk
      rw [hd]
      have F3 := F2.keep (drew_keep w2)
      have HF3 : Hid (Fw wK B v l bs ts tg M E w2.drew u0 n1 ms1 l1 T p R s) := F3
      have rt3 : Rd w2.drew tg M E ts := F3.own.rd HVB.out RT.out HST.out
      have rb3 : Rd w2.drew bo N C bs := F3.own.rd HVB.out RB.out HSB.out
      have hG3 := F3.own.map HVL.out HG.out
      have k1 := F2.win.cell (i := 1) (by omega)
      have k2 := F2.win.cell (i := 2) (by omega)
      simp only [wc] at k1 k2
      have s0 := F2.s0
      have s1 := F2.s1
      have hME : M ≤ E := rt3.le
      have hsub := rt3.sub p (M - p) (by omega)
      rw [if_neg (by omega)] at hsub
      have hsub' := hsub.rest htl
      obtain ⟨tb, tf, etg, _⟩ := rt3.plain (by omega)
      have hEp : ¬ E = p := by omega
      have hpE : p ≤ E := by omega
      have hpM : p ≤ M := by omega
      have hlong := longest_any w.heap.size (w.heap.size + 1) kn D bo N C bs (Option.map (fun x => x.add p) tg) (M - p) (E - p) (ts.drop p) s ef w2.drew hG3 HRG.out rb3 hsub' s0 s1 hkn (by omega) (by omega)
      rw [etg, Option.map_some, Addr.add_lit] at hlong
      clear F2 hd F3 hG3 rb3 hsub hsub' rt3
      subst etg
      go_wp2_with fail
      go_region_held3 (fun w' => w'.cell? ⟨R, 1, none⟩ = some (.int .i64 p) ∧ w'.cell? ⟨R, 2, none⟩ = some (.int .u32 s)) (go_keep)
        ((go_at_call 57; refine hlong.mono ?_; rintro e w4 ⟨f, q, rfl, hL, hB4⟩; have k3 : w4.cell? ⟨R, 1, none⟩ = some (.int .i64 p) := (hB4.cell (p := ⟨R, 1, none⟩) (World.block_lt_of_cell? w2 _ k1)).trans k1; have k4 : w4.cell? ⟨R, 2, none⟩ = some (.int .u32 s) := (hB4.cell (p := ⟨R, 2, none⟩) (World.block_lt_of_cell? w2 _ k2)).trans k2))
      have F4 := HF3.out.keep hB4
      have hRB : B ≤ R := by have := OK.out.low; have := F4.far; omega
      by_cases hq : q = 0
      · subst hq
        have rt4 := F4.own.rd HVB.out RT.out HST.out
        have hroll := roll_any R _ M E p s ts w4 F4.win rt4 (fun ad e hn e2 => by have := HST.out ad e hn; omega) hk (by omega) s0 s1
        have hap := F4.apart
        have HF4 : Hid (Fw wK B v l bs ts (some ⟨tb, tf, none⟩) M E w4 u0 n1 ms1 l1 T p R s) := F4
        clear F4 hL hB4 k1 k2 k3 k4 hlong rt4 HF3
        go_wp2_with (first
          | (go_at_call 58; refine hroll.mono ?_; rintro e w5 ⟨s', rfl, hr5, s05, s15, hf5⟩))
        have F5 : Hid (Fw wK B v l bs ts (some ⟨tb, tf, none⟩) M E w5 u0 n1 ms1 l1 T (p + 1) R s') := ⟨HF4.out.own.other hf5 HF4.out.far hap, HF4.out.good, hr5, HF4.out.far, s05, s15, by omega, by omega⟩
        clear hr5 hf5 hroll
        go_roundg (M + 1 - (p + 1))
        case measure => omega
        case rel => exact ⟨n1, ms1, l1, T, p + 1, R, s', rfl, rfl, rfl, F5⟩
      · have hL' : 16 ≤ q ∧ f + q ≤ N ∧ q ≤ M - p ∧ (bs.drop f).take q = (ts.drop p).take q := by
          rcases hL with h | h
          · exact absurd h hq
          · rw [List.length_drop] at h
            exact ⟨h.1, by omega, by omega, h.2.2.2⟩
        obtain ⟨q16, hfq, hqM, hLe⟩ := hL'
        have z1 : ((q : Int) == 0) = false := by simp; omega
        have F5 := F4.keep (drew_keep w4)
        have hap := F4.apart
        have rt5 := F5.own.rd HVB.out RT.out HST.out
        have rb5 := F5.own.rd HVB.out RB.out HSB.out
        obtain ⟨bb, bf0, ebo, _⟩ := rb5.plain (by omega)
        have hNC : N ≤ C := rb5.le
        have sb1 := rb5.sub 0 f (by omega)
        rw [if_neg (by omega), ebo, Option.map_some, Addr.add_lit, Nat.sub_zero, List.drop_zero, Nat.add_zero] at sb1
        have st1 := rt5.sub T (p - T) (by omega)
        rw [if_neg (by omega), Option.map_some, Addr.add_lit] at st1
        have hback := sameBack_any _ _ _ _ _ _ _ _ w4.drew sb1 st1 (by omega) (by omega)
        have hlc := lcs_le (bs.take f) ((ts.drop T).take (p - T))
        have hls := lcs_same (bs.take f) ((ts.drop T).take (p - T))
        have ht1 : (bs.take f).length = f := by simp; omega
        have ht2 : ((ts.drop T).take (p - T)).length = p - T := by simp; omega
        rw [ht1, ht2] at hlc hls
        obtain ⟨bf, hbf⟩ : ∃ bf, bf = lcs (bs.take f) ((ts.drop T).take (p - T)) := ⟨_, rfl⟩
        rw [← hbf] at hback hlc hls
        have HLS : Hid ((bs.take f).drop (f - bf) = ((ts.drop T).take (p - T)).drop (p - T - bf)) := hls
        have HLE : Hid ((bs.drop f).take q = (ts.drop p).take q) := hLe
        have HF5 : Hid (Fw wK B v l bs ts (some ⟨tb, tf, none⟩) M E w4.drew u0 n1 ms1 l1 T p R s) := F5
        have hCz : ¬ C = 0 := by omega
        have hfC : f ≤ C := by omega
        have hfN : f ≤ N := by omega
        have hET : ¬ E = T := by omega
        have hTE : T ≤ E := by omega
        have hTp : (T : Int) ≤ p := by omega
        clear F4 F5 hL hB4 k1 k2 k4 hlong HF3 rt5 rb5 sb1 st1 hls hLe ht1 ht2 hbf hq
        subst ebo
        go_wp2_with fail
        go_region_held3 (fun w' => w'.cell? ⟨R, 1, none⟩ = some (.int .i64 p)) (go_keep)
          ((go_at_call 42; refine hback.mono ?_; rintro e w6 ⟨rfl, hB6⟩; have k6 : w6.cell? ⟨R, 1, none⟩ = some (.int .i64 p) := (hB6.cell (p := ⟨R, 1, none⟩) (World.block_lt_of_cell? w4 _ k3)).trans k3))
        have F6 := HF5.out.keep hB6
        have rt6 := F6.own.rd HVB.out RT.out HST.out
        obtain ⟨A, hA⟩ : ∃ A, A = p - bf := ⟨_, rfl⟩
        obtain ⟨m, hm⟩ : ∃ m, m = A - T := ⟨_, rfl⟩
        obtain ⟨f', hf'⟩ : ∃ f', f' = f - bf := ⟨_, rfl⟩
        obtain ⟨n', hn'⟩ : ∃ n', n' = bf + q := ⟨_, rfl⟩
        have i0 : (p : Int) - bf = A := by omega
        have i1 : (f : Int) - bf = f' := by omega
        have i2 : (bf : Int) + q = n' := by omega
        have HTA : Hid (T + m = A) := by show _ = _; omega
        have hTm : T + m ≤ M := by omega
        have HAs : Hid (A = p - bf ∧ m = A - T ∧ f' = f - bf ∧ n' = bf + q) := ⟨hA, hm, hf', hn'⟩
        have HF6 : Hid (Fw wK B v l bs ts (some ⟨tb, tf, none⟩) M E w6 u0 n1 ms1 l1 T p R s) := F6
        clear F6 HF5 hback hB6 k3 hA hm hf' hn'
        go_wp2_with (first
          | (refine wpList_sub rfl _ _ _ rfl rt6 T m hTm rfl (.inl rfl) (.inl (by rw [HTA.out]; rfl)) ?_; intro ao7 c7 hr7 hs7))
        refine (put_any B u0 n1 ms1 (l ++ l1) ao7 m c7 _ w6 HF6.out.own.here hr7 (fun ad e _ => by obtain ⟨a0, e0, e1⟩ := hs7 ad e; rw [e1]; exact HST.out a0 e0 (by omega)) (by omega) (by omega)).mono ?_
        rintro e w7 ⟨v7, n7, ms7, lp, rfl, o7, g7⟩
        have hap7 := o7.ne HF6.out.win.lt hap
        have r7 := o7.row HF6.out.win hap
        have hn7 : n7 ≤ 900000 := by
          have h1 := o7.own.len
          have h2 := (g7 []).len
          have h3 := HF6.out.own.own.len
          simp only [List.length_append, List.length_take, List.length_drop] at h1 h2 h3
          omega
        have hf65 : f' ≤ 1000000 := by have := HAs.out; omega
        have hn65 : n' ≤ 65536 := by have := HAs.out; omega
        have hbff : bf ≤ f := hlc.1
        clear hs7 hr7 rt6
        go_wp2_with fail
        refine (copied_any B v7 n7 ms7 _ f' n' w7 o7.here (by omega) hf65 hn65).mono ?_
        rintro e w8 ⟨v8, n8, ms8, rfl, o8⟩
        have r8 := o8.row r7 hap7
        have k8 := r8.cell (i := 1) (by omega)
        simp only [wc] at k8
        have oo := (HF6.out.own.trans o7).trans o8
        have HO : Hid (Ow wK B v w8 v8 n8 ms8 (l ++ (l1 ++ lp ++ cop f' n'))) := by
          show Ow wK B v w8 v8 n8 ms8 (l ++ (l1 ++ lp ++ cop f' n'))
          rw [← List.append_assoc, ← List.append_assoc]
          exact oo
        have rt8 := oo.rd HVB.out RT.out HST.out
        have HGD : Hid (Gd bs (l1 ++ lp ++ cop f' n') (ts.take (p + q))) := by
          obtain ⟨e1, e2, e3, e4⟩ := HAs.out
          rw [e3, e4]
          refine step_good hT0 (by omega) (by omega) (by omega) (by omega) (by omega) HLS.out HLE.out q16 HF6.out.good ?_
          have := g7 bs
          rw [e2, e1] at this
          exact this
        clear oo r7 r8 o7 o8 g7 k6
        go_wp2_with fail
        refine (newWindow_any _ M E ts (p + q) w8 rt8 (by omega) (by omega)).mono ?_
        rintro e w9 ⟨R9, s9, rfl, r9, s90, s91, hR9, hB9⟩
        have F9 : Hid (Fw wK B v l bs ts (some ⟨tb, tf, none⟩) M E w9 v8 n8 ms8 (l1 ++ lp ++ cop f' n') (p + q) (p + q) R9 s9) := ⟨HO.out.keep hB9, HGD.out, r9, Nat.le_trans HO.out.fr.size hR9, s90, s91, Nat.le_refl _, by omega⟩
        clear r9 hB9 hR9 HO HGD rt8
        go_wp2_with fail
        go_roundg (M + 1 - (p + q))
        case measure => omega
        case rel => exact ⟨n8, ms8, _, p + q, p + q, R9, s9, by rw [Int.natCast_add], rfl, rfl, F9⟩
    · have hd : decide (p + 16 ≤ M) = false := decide_eq_false hk
      rw [hd]
      have rt2 : Rd w2 tg M E ts := F2.own.rd HVB.out RT.out HST.out
      have HF2 : Hid (Fw wK B v l bs ts tg M E w2 u0 n1 ms1 l1 T p R s) := F2
      have hTM : T + (M - T) ≤ M := by omega
      clear F2 hd
      go_wp2_with (first
        | (refine wpList_sub rfl _ _ _ rfl rt2 T (M - T) hTM rfl (.inl rfl) (.inr ⟨rfl, by omega⟩) ?_; intro ao7 c7 hr7 hs7))
      refine (put_any B u0 n1 ms1 (l ++ l1) ao7 (M - T) c7 _ w2 HF2.out.own.here (hr7.rest htl) (fun ad e hm => by obtain ⟨a0, e0, e1⟩ := hs7 ad e; rw [e1]; exact HST.out a0 e0 (by omega)) (by omega) (by omega)).mono ?_
      rintro e w7 ⟨v7, n7, ms7, lp, rfl, o7, g7⟩
      have oo := HF2.out.own.trans o7
      rw [List.append_assoc] at oo
      have GG : Gd bs (l1 ++ lp) ts := by
        have := HF2.out.good.app (g7 bs)
        rwa [List.take_append_drop] at this
      have OO := HFIN.out _ _ _ _ _ oo
      clear oo o7 g7 hr7 hs7 rt2 HF2
      go_wp2
      go_ret
      exact ⟨v7, n7, ms7, l1 ++ lp, rfl, OO, GG⟩

end Go.Proofs.Ythaibdflehnbbaa
