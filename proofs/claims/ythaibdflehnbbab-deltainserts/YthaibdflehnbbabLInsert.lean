/- DeltaInserts: the walk. -/
import Derived.Test.YthaibdflehnbbabLInserts
namespace Go.Proofs.Ythaibdflehnbbab
open Go.RowKit

theorem push_in {w1 wr w5 : World} {Z : Nat → List Int} {lv wv : Value} {ms : List MO} {k : Nat} (h : Iw w1 wr Z lv wv ms k) {sa : Option Addr} {sl sc : Nat} (hr : Rd wr sa sl sc (Z k)) (hs : ∀ ad, sa = some ad → 0 < sl → ad.block < w1.heap.size) {g5 c5 : Nat}
    (o5 : w5.ownsRow w1.heap.size 27 4 (.slice (some ⟨g5, 0, none⟩) (k + 1) c5) (k + 1) (ocs ms ++ oc ⟨false, 0, 0, sa, sl, sc⟩)) (gr5 : (wr.alloc (.cells #[.bool false, .int .i64 0, .int .i64 0, .slice sa sl sc] 27)).grownBy w5 lv.ownBlock) (l5 : lv.ownBlock = some g5 ∨ g5 = wr.heap.size + 1) :
    OwO w5 27 w1.heap.size (.slice (some ⟨g5, 0, none⟩) (k + 1) c5) (k + 1) (ms ++ [⟨false, 0, 0, sa, sl, sc⟩]) (ol Z (k + 1)) := by
  rw [ol_succ]
  exact (h.own.keep (new_below wr _)).push (x := ⟨false, 0, 0, sa, sl, sc⟩) ⟨rfl, rfl, rfl, hr.keep (new_below wr _)⟩ (fun q hq ad e hm e2 => by have := hs ad e hm; have := (h.own.own.lt q hq).1; omega) o5 gr5 l5 (by simp)

theorem want_in {w1 wr w5 : World} {Z : Nat → List Int} {lv wv : Value} {ms : List MO} {k : Nat} (h : Iw w1 wr Z lv wv ms k) {O : Obj} (gr5 : (wr.alloc O).grownBy w5 lv.ownBlock) : w5.ownsRow w1.heap.size 5 1 wv (wt Z k).length ((wt Z k).map (Value.int .u8)) :=
  ownsRow_fr (P := fun q => lv.ownBlock = some q) (h.want.alloc _) ((Fr.refl _ _).grown gr5 (fun _ _ e => e)) (fun q hq e => own_apart h.want h.own.own (by decide) q hq e)

set_option maxRecDepth 100000 in
set_option maxHeartbeats 2000000 in
theorem inserts_go (a : Option Addr) (n c : Nat) (A : Nat → Option Addr) (L C : Nat → Nat) (Z : Nat → List Int) (bo : Option Addr) (N D : Nat) (bs : List Int) (w : World)
    (h : ∀ j, j < n → (∃ b off, a = some ⟨b, off, none⟩ ∧ w.cell? ⟨b, off + j, none⟩ = some (.slice (A j) (L j) (C j))) ∧ Rd w (A j) (L j) (C j) (Z j)) (hb : Rd w bo N D bs) (hn : n ≤ 20) (hN : N ≤ 300) :
    Calls Try.prog 3 #[.slice a n c, .slice bo N D] w fun e w' => e = .returned (.bool true) ∧ Below w.heap.size w w' := by
  obtain ⟨i0, hi0, hz0, hz1, hz2⟩ := info_parts Try.info42
  have z1 : decide ((20 : Int) < (n : Int)) = false := decide_eq_false (by omega)
  have z2 : decide ((300 : Int) < (N : Int)) = false := decide_eq_false (by omega)
  have hbl := hb.len
  have HT : Hid (∀ j, j < n → (∃ b off, a = some ⟨b, off, none⟩ ∧ w.cell? ⟨b, off + j, none⟩ = some (.slice (A j) (L j) (C j))) ∧ Rd w (A j) (L j) (C j) (Z j)) := h
  have HB : Hid (Rd w bo N D bs) := hb
  clear h hb
  go_enter Try.func3, Try.ntmps3
  go_wp2_with fail
  refine (known_any w).mono ?_
  rintro e w1 ⟨rfl, B1⟩
  have HB1 : Hid (Below w.heap.size w w1) := B1
  have H0 : Hid (Iw w1 w1 Z (.slice none 0 0) (.slice none 0 0) [] 0) := ⟨OwO.nil _ _ _, by simpa [wt] using World.ownsRow_nil w1 w1.heap.size 5 1, Below.refl _ _, (fun j hj => by omega)⟩
  clear B1
  go_wp2_with fail
  go_loopw [5, 6, 7] (fun lv wv iv wr => ∃ (k : Nat) (ms : List MO), k ≤ n ∧ iv = .int .i64 k ∧ Hid (∀ j, j < k → 1 ≤ L j ∧ L j ≤ 127) ∧ Hid (Iw w1 wr Z lv wv ms k)) (fun _ _ iv _ => n - (intOf iv).toNat)
  case atStart => exact ⟨0, [], by omega, rfl, (fun j hj => by omega), H0⟩
  case round =>
    clear H0
    obtain ⟨k, ms, hk, rfl, hall, HY⟩ := hrel
    have hwl : (wt Z k).length ≤ 127 * k := wt_len Z k (fun j hj => by have := (hall.out j hj).2; have := (HT.out j (by omega)).2.len; omega)
    by_cases hlt : k < n
    · have zk : (k : Int) < n := by omega
      obtain ⟨⟨b, off, rfl, hcell⟩, hrk⟩ := HT.out k hlt
      have hBw := HB1.out.trans (HY.out.bel.mono HB1.out.size)
      have hc : wr.cell? ⟨b, off + k, none⟩ = some (.slice (A k) (L k) (C k)) := by rw [hBw.cell (World.block_lt_of_cell? w _ hcell)]; exact hcell
      have hrdk := hrk.keep hBw
      have hzl := hrk.len
      have hsrc : ∀ ad, A k = some ad → 0 < L k → ad.block < w1.heap.size := fun ad e hl => Nat.lt_of_lt_of_le (hrk.blk ad e hl) HB1.out.size
      have HSRC : Hid (∀ ad, A k = some ad → 0 < L k → ad.block < w1.heap.size) := hsrc
      have HRDK : Hid (Rd wr (A k) (L k) (C k) (Z k)) := hrdk
      have HZL : Hid ((Z k).length = L k) := hzl
      have HCELL : Hid (w.cell? ⟨b, off + k, none⟩ = some (.slice (A k) (L k) (C k))) := hcell
      have HRK : Hid (Rd w (A k) (L k) (C k) (Z k)) := hrk
      clear hcell hrk hzl hrdk hsrc
      by_cases hL1 : L k < 1
      · have y1 : (L k : Int) < 1 := by omega
        have BB : Hid (Below w.heap.size w wr) := hBw
        clear HY hBw
        go_wp2
        go_ret
        exact ⟨rfl, BB.out⟩
      · have y1 : decide ((L k : Int) < 1) = false := decide_eq_false (by omega)
        have y1' : (1 : Int) ≤ L k := by omega
        by_cases hL2 : 127 < L k
        · have y2 : (127 : Int) < L k := by omega
          have BB : Hid (Below w.heap.size w wr) := hBw
          clear HY hBw
          go_wp2
          go_ret
          exact ⟨rfl, BB.out⟩
        · have y2 : decide ((127 : Int) < (L k : Int)) = false := decide_eq_false (by omega)
          have y2' : (L k : Int) ≤ 127 := by omega
          have ha2 : Hid (∀ j, j < k + 1 → 1 ≤ L j ∧ L j ≤ 127) := fun j hj => by
            rcases Nat.lt_or_ge j k with h' | h'
            · exact hall.out j h'
            · obtain rfl : j = k := by omega
              omega
          have hszw : w1.heap.size ≤ wr.heap.size := HY.out.bel.size
          clear hBw
          go_wp2_with (first
            | (at_builtin; refine wpList_append_lies _ rfl _ _ 25 rfl w1.heap.size 27 i0 (.agg #[.bool false, .int .i64 0, .int .i64 0, .slice none 0 0]) 4 48 Try.underlying25 hi0 hz0 hz1 hz2 rfl (by decide) u5 k _ rfl (HY.out.own.own.alloc _) ⟨wr.heap.size, 0, none⟩ 1 1 (oc ⟨false, 0, 0, A k, L k, C k⟩) rfl rfl (cell_four_new _ _ _ _ _ _) (oc_oneCell _) (by omega) (by unfold maxLen; omega) (by omega) (by simp; omega) (wr.heap.size + 1) (by simp) ?_; intro g5 c5 w5 o5 gr5 l5 s5; have O5 : Hid (OwO w5 27 w1.heap.size (.slice (some ⟨g5, 0, none⟩) (k + 1) c5) (k + 1) (ms ++ [⟨false, 0, 0, A k, L k, C k⟩]) (ol Z (k + 1))) := push_in HY.out HRDK.out HSRC.out o5 gr5 l5; have B5 : Hid (Below w1.heap.size w1 w5) := (HY.out.bel.alloc HY.out.bel.size _).grown gr5 (by have := HY.out.bel.size; simp; omega) (fun q hq => (HY.out.own.own.lt q hq).1); have W5 : Hid (w5.ownsRow w1.heap.size 5 1 u6 (wt Z k).length ((wt Z k).map (Value.int .u8))) := want_in HY.out gr5; have hBB5 := HB1.out.trans (B5.out.mono HB1.out.size); have hc5 : w5.cell? ⟨b, off + k, none⟩ = some (.slice (A k) (L k) (C k)) := (hBB5.cell (p := ⟨b, off + k, none⟩) (World.block_lt_of_cell? w _ HCELL.out)).trans HCELL.out; have R5 : Hid (Rd w5 (A k) (L k) (C k) (Z k)) := HRK.out.keep hBB5; clear o5 gr5 l5 s5 hBB5)
            | (at_builtin; refine wpList_append_v rfl _ _ rfl w1.heap.size (wt Z k).length u6 (wt Z k) rfl W5.out (A k) (L k) (C k) (Z k) rfl R5.out (by omega) B5.out.size ?_; intro v6 w6 o6 gr6))
          have B6 : Below w1.heap.size w1 w6 := B5.out.grown gr6 B5.out.size (fun q hq => (W5.out.lt q hq).1)
          have hdat : ∀ j, j < k + 1 → ∀ ad, ((ms ++ [(⟨false, 0, 0, A k, L k, C k⟩ : MO)]).getD j mz).a = some ad → 0 < ((ms ++ [(⟨false, 0, 0, A k, L k, C k⟩ : MO)]).getD j mz).m → ad.block < w1.heap.size := fun j hj ad e hm => by
            have hlx := HY.out.own.lenx
            by_cases hjn : j < k
            · rw [getD_app1 ms _ mz j (by omega)] at e hm
              exact HY.out.dat j hjn ad e hm
            · have : j = ms.length := by omega
              subst this
              rw [getD_app2] at e hm
              exact HSRC.out ad e hm
          have O6 := O5.out.fr (P := fun q => u6.ownBlock = some q) ((Fr.refl _ _).grown gr6 (fun _ _ e => e)) (fun q hq => own_apart O5.out.own W5.out (by decide) q hq) (fun j hj ad e hm e2 => by have := hdat j hj ad e hm; have := (W5.out.lt _ e2).1; omega)
          have HN : Hid (Iw w1 w6 Z (.slice (some ⟨g5, 0, none⟩) (k + 1) c5) v6 (ms ++ [⟨false, 0, 0, A k, L k, C k⟩]) (k + 1)) := ⟨O6, by rw [wt_succ, List.length_append, HZL.out]; exact o6, B6, hdat⟩
          clear O6 o6 gr6 B6 hdat O5 B5 W5 R5 hc5 HY
          go_wp2
          go_roundw
          case rel => exact ⟨k + 1, _, by omega, by go_num, ha2, HN⟩
          case measure => simp [intOf]; omega
    · obtain rfl : k = n := by omega
      have hgood : ∀ cs, Gd cs (ol Z k) (wt Z k) := fun cs => ol_good cs Z k (fun j hj => by
        have h1 := hall.out j hj
        have h2 := (HT.out j (by omega)).2
        have := h2.len
        exact ⟨by omega, by omega, h2.byt⟩)
      have HGD : Hid (∀ cs, Gd cs (ol Z k) (wt Z k)) := hgood
      have hBw := HB1.out.trans (HY.out.bel.mono HB1.out.size)
      obtain ⟨la, lc, elv, hlc, hOs, _⟩ := HY.out.own.os
      have hwby : ∀ x ∈ wt Z k, 0 ≤ x ∧ x < 256 := fun x hx => by
        obtain ⟨j, hj, hxj⟩ := List.mem_flatMap.1 hx
        exact (HT.out j (by simpa using hj)).2.byt x hxj
      obtain ⟨wa, wcp, ewv, wrd, _⟩ := own_rd HY.out.want hwby
      subst elv ewv
      have HM : Hid ((wt Z k).length ≤ 2540) := by show _ ≤ _; omega
      have HWB : Hid (∀ x ∈ wt Z k, 0 ≤ x ∧ x < 256) := hwby
      obtain ⟨m, hm⟩ : ∃ m, m = (wt Z k).length := ⟨_, rfl⟩
      have HME : Hid ((wt Z k).length = m) := hm.symm
      rw [← hm] at wrd ⊢
      have hm25 : m ≤ 2540 := by have := HM.out; omega
      have b0 := HB.out.keep hBw
      clear hall hgood HY hwl hm hlc
      have i1 := Print_any (N : Int) (m : Int) la k lc ms (ol Z k) wr hOs (by omega) (by omega) (by omega)
      rw [pnt_yes (by omega) (by omega) (HGD.out []).ok] at i1
      go_wp2_with fail
      refine i1.mono ?_
      rintro e w2 ⟨v2, rfl, o2, g2⟩
      have B2 := hBw.trans (g2.mono hBw.size)
      obtain ⟨da, dc, rfl, rd2, _⟩ := own_rd o2 (gd_byt (HGD.out []) N m)
      have hl2 := gd_len (HGD.out []) (by have := HM.out; omega) N m
      obtain ⟨dn, hdn⟩ : ∃ dn, dn = (prt (N : Int) (m : Int) (ol Z k)).length := ⟨_, rfl⟩
      rw [← hdn] at hl2 rd2 ⊢
      have wrd2 := wrd.keep g2
      have b2 := HB.out.keep B2
      have os2 := hOs.keep g2
      clear i1 o2 hdn wrd hOs b0
      have i2 := Apply_any bo N D bs da dn dc _ (m : Int) w2 b2 rd2 (by omega) hl2 (by omega)
      rw [apy_gd (HGD.out bs) hbl HME.out (by omega) (by omega) (by omega)] at i2
      go_wp2_with fail
      refine i2.mono ?_
      rintro e w3 ⟨v3, rfl, o3, g3⟩
      have B3 := B2.trans (g3.mono B2.size)
      obtain ⟨xa, xc, rfl, x3, _⟩ := own_rd o3 HWB.out
      rw [HME.out] at x3 ⊢
      have wrd3 := wrd2.keep g3
      have b3 := HB.out.keep B3
      have os3 := os2.keep g3
      have rd3 := rd2.keep g3
      have bA := b3.keep (new_below w3 (.cells #[.int .u8 0] 5))
      clear i2 o3 wrd2 b2 os2 rd2
      go_wp2_with (first
        | (at_builtin; refine wpList_append_v rfl _ _ rfl w3.heap.size 1 _ [0] rfl (one_own w3 0 _ (Nat.le_refl _)) bo N D bs rfl bA (by omega) (by simp) ?_; intro v4 w4 o4 g4))
      have B4 : Below w3.heap.size w3 w4 := ((Below.refl _ _).alloc (Nat.le_refl _) _).grown g4 (by simp) (fun q hq => by cases hq; exact Nat.le_refl _)
      have hcb : ∀ x ∈ [0] ++ bs, 0 ≤ x ∧ x < 256 := fun x hx => by
        rcases List.mem_append.1 hx with h | h
        · simp at h; omega
        · exact HB.out.byt x h
      obtain ⟨ca, cc, rfl, c4, _⟩ := own_rd o4 hcb
      have rd4 := rd3.keep B4
      have i5 := Apply_any ca (1 + N) cc _ da dn dc _ (m : Int) w4 c4 rd4 (by omega) hl2 (by omega)
      rw [apy_gd_other (HGD.out bs) (by simp; omega) (by omega) (by omega)] at i5
      clear o4 g4 bA b3 rd3
      refine i5.mono ?_
      rintro e w5 ⟨v5, rfl, o5, g5⟩
      have G5 := B4.trans (g5.mono B4.size)
      have B5 := B3.trans (G5.mono B3.size)
      have sx := (x3.keep G5).str
      have sw := (wrd3.keep G5).str
      have os5 := os3.keep G5
      have b5 := HB.out.keep B5
      have rd5 := rd4.keep g5
      clear i5 o5 x3 wrd3 os3 rd4 c4
      have i6 := Print_any (N : Int) ((m + 1 : Nat) : Int) la k lc ms (ol Z k) w5 os5 (by omega) (by omega) (by omega)
      rw [pnt_yes (by omega) (by omega) (HGD.out []).ok] at i6
      have ec : ((m + 1 : Nat) : Int) = (m : Int) + 1 := by omega
      rw [ec] at i6
      go_wp2_with fail
      refine i6.mono ?_
      rintro e w6 ⟨v6, rfl, o6, g6⟩
      have B6 := B5.trans (g6.mono B5.size)
      have hby6 := gd_byt (HGD.out []) N (m + 1)
      have hl6 := gd_len (HGD.out []) (by have := HM.out; omega) N (m + 1)
      have hap6 := apy_gd_wrong (most := ((m + 1 : Nat) : Int)) (M := m + 1) (HGD.out bs) hbl (by have := HME.out; omega) (by omega) (by omega) (by omega)
      rw [ec] at hby6 hl6 hap6
      obtain ⟨ea, ecp, rfl, rd6, _⟩ := own_rd o6 hby6
      obtain ⟨en, hen⟩ : ∃ en, en = (prt (N : Int) ((m : Int) + 1) (ol Z k)).length := ⟨_, rfl⟩
      rw [← hen] at hl6 rd6 ⊢
      have b6 := HB.out.keep B6
      have rdd6 := rd5.keep g6
      clear i6 o6 hen sx sw os5 rd5 hby6
      have i7 := Apply_any bo N D bs ea en ecp _ ((m : Int) + 1) w6 b6 rd6 (by omega) hl6 (by omega)
      rw [hap6] at i7
      go_wp2_with fail
      refine i7.mono ?_
      rintro e w7 ⟨v7, rfl, o7, g7⟩
      have B7 := B6.trans (g7.mono B6.size)
      have b7 := HB.out.keep B7
      have rd7 := rdd6.keep g7
      clear i7 o7 rd6 hap6 ec
      by_cases hm0 : m = 0
      · subst hm0
        go_wp2
        go_ret
        exact ⟨rfl, B7⟩
      · have zm : ((m : Int) == 0) = false := by simp; omega
        have i8 := Apply_any bo N D bs da dn dc _ ((m : Int) - 1) w7 b7 rd7 (by omega) hl2 (by omega)
        rw [apy_gd_less (HGD.out bs) hbl (by omega) (by omega) (by omega)] at i8
        go_wp2_with fail
        refine i8.mono ?_
        rintro e w8 ⟨v8, rfl, o8, g8⟩
        have B8 := B7.trans (g8.mono B7.size)
        clear i8 o8
        go_wp2
        go_ret
        exact ⟨rfl, B8⟩

end Go.Proofs.Ythaibdflehnbbab
