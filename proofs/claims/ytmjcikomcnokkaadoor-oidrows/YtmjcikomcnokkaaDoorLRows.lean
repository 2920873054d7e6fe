/- OidRows. -/
import Derived.Test.YtmjcikomcnokkaaDoorXSet
import Derived.Test.YtmjcikomcnokkaaDoorXSame
import Derived.Test.YtmjcikomcnokkaaDoorXFan
import Derived.Test.YtmjcikomcnokkaaDoorWFao
import Derived.Test.YtmjcikomcnokkaaDoorWPdq
namespace Go.Proofs.YtmjcikomcnokkaaDoor
open Go.RowKit

theorem Nw.keep {B : Nat} {w w' : World} {v : Value} {d : Array (List Int)} (h : Nw B w v d) (hb : Below w.heap.size w w') : Nw B w' v d := by
  rcases h with ⟨h0, h1⟩ | ⟨h0, b, c, e, h1, h2, hr⟩
  · exact .inl ⟨h0, h1⟩
  · exact .inr ⟨h0, b, c, e, h1, h2, hr.keep hb⟩

theorem Nw.shape {B : Nat} {w : World} {v : Value} {d : Array (List Int)} (h : Nw B w v d) : ∃ ao c, v = .slice ao d.size c := by
  rcases h with ⟨h0, ao, c, rfl⟩ | ⟨h0, b, c, e, h1, h2, hr⟩
  · exact ⟨ao, c, by rw [h0]⟩
  · exact ⟨_, c, e⟩

theorem wh_one {d : Array (List Int)} {z : List Int} {k k' : Nat} (h : wh d z k) (h' : wh d z k') : k = k' := Fst.one h h'

set_option maxRecDepth 100000 in
set_option maxHeartbeats 4000000 in
theorem rows_main (ao : Option Addr) (n c : Nat) (d : Array (List Int)) (z : List Int) (w : World) (h : Is w (.slice ao n c) d) (hn : d.size = n) (hz : IsId z) (hlim : n ≤ 60) :
    Calls Tryd.prog 4 #[.slice ao n c, idv z] w fun e w' => e = .returned (.bool true) ∧ Below w.heap.size w w' := by
  have HB0 : Hid (Below w.heap.size w (w.alloc (.cells (vals (cl z) 20).toArray 23))) := new_below _ _
  have HBox : Hid (∀ W, Below (w.alloc (.cells (vals (cl z) 20).toArray 23)).heap.size (w.alloc (.cells (vals (cl z) 20).toArray 23)) W → (loadVar 23 ⟨w.heap.size, 0, none⟩).run Tryd.prog W = .ok (idv z) W) := fun W hW => box_load w W z hz hW
  obtain ⟨w0, hw0⟩ : ∃ w0, w.alloc (.cells (vals (cl z) 20).toArray 23) = w0 := ⟨_, rfl⟩
  have HW0 : Hid (w.alloc (.cells (vals (cl z) 20).toArray 23) = w0) := hw0
  rw [hw0] at HB0 HBox
  have HI : Hid (Is w0 (.slice ao n c) d) := h.keep HB0.out
  have HN : Hid (d.size = n) := hn
  have HLim : Hid (n ≤ 60) := hlim
  have q1 : decide ((60 : Int) < (n : Int)) = false := by simp; omega
  have q1' : ¬ 60 < n := by omega
  clear h hn hw0 hlim
  go_enter Tryd.func4, Tryd.ntmps4
  go_wp2_with fail
  rw [HW0.out]
  refine (known_yes w0).mono ?_
  rintro e w1 ⟨rfl, b1⟩
  have B1 : Hid (Below w0.heap.size w0 w1) := b1
  clear b1 HW0
  have hsort := Sort_any n (pdq_is n (by have := HLim.out; omega)) ao c d w1 (HI.out.keep B1.out) HN.out (by have := HLim.out; omega)
  go_wp2_with fail
  refine hsort.mono ?_
  rintro e w2 ⟨v2, r, rfl, S2, z2, N2, b2⟩
  have B2 : Hid (Below w0.heap.size w0 w2) := B1.out.trans (b2.mono B1.out.size)
  have HS2 : Hid (Srt d r) := S2
  have HZ2 : Hid (r.size ≤ 60) := Nat.le_trans z2 HLim.out
  have HN2 : Hid (Nw w1.heap.size w2 v2 r) := N2
  have HU : Hid (Up r) := up_list.2 S2.1
  clear hsort S2 z2 N2 b2 B1
  have hof := of_any ao n c d w2 (HI.out.keep B2.out) HN.out (by have := HLim.out; omega)
  go_wp2_with fail
  refine hof.mono ?_
  rintro e w3 ⟨v3, rfl, D3, b3⟩
  have hxs := xsort_any _ v3 d w3 D3 (by have := HN.out; have := HLim.out; omega)
  have B3 : Hid (Below w0.heap.size w0 w3) := B2.out.trans (b3.mono B2.out.size)
  have HN3 : Hid (Nw w1.heap.size w3 v2 r) := HN2.out.keep b3
  clear hof D3 b3 B2 HN2
  go_wp2_with fail
  refine hxs.mono ?_
  rintro e w4 ⟨v4, r4, rfl, D4, U4, M4, z4, b4⟩
  obtain rfl : r4 = r := up_uniq U4 HU.out (fun x => by rw [M4 x, HS2.out.2 x])
  have B4 : Hid (Below w0.heap.size w0 w4) := B3.out.trans (b4.mono B3.out.size)
  have HN4 : Hid (Nw w1.heap.size w4 v2 r4) := HN3.out.keep b4
  have HD4 : Hid (Dn w3.heap.size w4 v4 r4) := D4
  clear hxs D4 U4 M4 z4 b4 B3 HN3 HS2 HI
  have hfd := find_any _ v2 r4 z w4 HN4.out HU.out hz (by have := HZ2.out; omega)
  have hl4 := HBox.out w4 B4.out
  go_wp2_with (refine wpList_ldv rfl 23 _ rfl ⟨w.heap.size, 0, none⟩ rfl (idv z) hl4 ?_; clear hl4)
  refine hfd.mono ?_
  rintro e w5 ⟨k, rfl, hk, b5⟩
  have B5 : Hid (Below w0.heap.size w0 w5) := B4.out.trans (b5.mono B4.out.size)
  have HN5 : Hid (Nw w1.heap.size w5 v2 r4) := HN4.out.keep b5
  have HD5 : Hid (Dn w3.heap.size w5 v4 r4) := HD4.out.keep b5
  clear hfd b5 B4 HN4 HD4
  have hxf := xfind_any _ v4 r4 z w5 HD5.out HU.out hz (by have := HZ2.out; omega)
  have hl5 := HBox.out w5 B5.out
  go_wp2_with (refine wpList_ldv rfl 23 _ rfl ⟨w.heap.size, 0, none⟩ rfl (idv z) hl5 ?_; clear hl5)
  refine hxf.mono ?_
  rintro e w6 ⟨k', rfl, hk', b6⟩
  obtain rfl := wh_one hk hk'
  have B6 : Hid (Below w0.heap.size w0 w6) := B5.out.trans (b6.mono B5.out.size)
  have HN6 : Hid (Nw w1.heap.size w6 v2 r4) := HN5.out.keep b6
  have HD6 : Hid (Dn w3.heap.size w6 v4 r4) := HD5.out.keep b6
  clear hxf hk hk' b6 B5 HN5 HD5
  generalize (decide (k < r4.size) && decide (r4[k]! = z)) = t
  have hfa := fan_any _ v2 r4 w6 HN6.out (by have := HZ2.out; omega)
  have z41 := zero41
  go_wp2_with fail
  refine hfa.mono ?_
  rintro e w7 ⟨rfl, b7⟩
  have B7 : Hid (Below w0.heap.size w0 w7) := B6.out.trans (b7.mono B6.out.size)
  have HN7 : Hid (Nw w1.heap.size w7 v2 r4) := HN6.out.keep b7
  have HD7 : Hid (Dn w3.heap.size w7 v4 r4) := HD6.out.keep b7
  clear hfa b7 B6 HN6 HD6
  have r7 := rowIs_vals w7 (fun _ => .int .i64 0) 256 41
  go_wp2_with (refine wpList_st rfl 41 _ _ rfl w7.heap.size rfl (fun j => .int .i64 (cs r4 r4.size j)) rfl r7 size41 (fun j => rfl) ?_; intro w8 r8 f8; clear r7)
  have b8 : Below w7.heap.size w7 w8 := new_fr f8
  have B8 : Hid (Below w0.heap.size w0 w8) := B7.out.trans (b8.mono B7.out.size)
  have HN8 : Hid (Nw w1.heap.size w8 v2 r4) := HN7.out.keep b8
  have HD8 : Hid (Dn w3.heap.size w8 v4 r4) := HD7.out.keep b8
  clear b8 f8 B7 HN7 HD7
  have hxa := xfan_any _ v4 r4 w8 HD8.out (by have := HZ2.out; omega)
  refine hxa.mono ?_
  rintro e w9 ⟨g, rfl, r9, hg, b9⟩
  have B9 : Hid (Below w0.heap.size w0 w9) := B8.out.trans (b9.mono B8.out.size)
  have HN9 : Hid (Nw w1.heap.size w9 v2 r4) := HN8.out.keep b9
  have HD9 : Hid (Dn w3.heap.size w9 v4 r4) := HD8.out.keep b9
  have R8 : Hid (w9.rowIs w7.heap.size 41 256 (fun j => .int .i64 (cs r4 r4.size j))) := rowIs_fr (P := fun _ => False) r8 (Fr.ofBelow b9) (fun h => h)
  have R9 : Hid (w9.rowIs g 3 256 (fun j => .int .i64 (cs r4 r4.size j))) := r9
  clear hxa b9 r9 r8 hg B8 HN8 HD8 z41
  have hsa := same_yes _ _ v2 v4 r4 w9 HN9.out HD9.out (by have := HZ2.out; omega)
  go_wp2_with fail
  refine hsa.mono ?_
  rintro e w10 ⟨rfl, b10⟩
  have B10 : Hid (Below w0.heap.size w0 w10) := B9.out.trans (b10.mono B9.out.size)
  have HN10 : Hid (Nw w1.heap.size w10 v2 r4) := HN9.out.keep b10
  have R8' : Hid (w10.rowIs w7.heap.size 41 256 (fun j => .int .i64 (cs r4 r4.size j))) := rowIs_fr (P := fun _ => False) R8.out (Fr.ofBelow b10) (fun h => h)
  have R9' : Hid (w10.rowIs g 3 256 (fun j => .int .i64 (cs r4 r4.size j))) := rowIs_fr (P := fun _ => False) R9.out (Fr.ofBelow b10) (fun h => h)
  clear hsa b10 B9 HN9 HD9 R8 R9 HBox
  obtain ⟨a2, c2, rfl⟩ := HN10.out.shape
  go_wp2_with fail
  go_loopw [13] (fun s13 wr => ∃ i : Nat, s13 = .int .i64 i ∧ i ≤ 256 ∧ Hid (Below w10.heap.size w10 wr)) (fun s13 _ => 256 - (intOf s13).toNat)
  case atStart => exact ⟨0, rfl, Nat.zero_le _, Below.refl _ _⟩
  case round =>
    obtain ⟨i, rfl, hi2, IB⟩ := hrel
    by_cases hi : i < 256
    · have hqi : (i : Int) < 256 := by omega
      have cA := (rowIs_fr (P := fun _ => False) R8'.out (Fr.ofBelow IB.out) (fun h => h)).cell (i := i) hi
      have cB := (rowIs_fr (P := fun _ => False) R9'.out (Fr.ofBelow IB.out) (fun h => h)).cell (i := i) hi
      generalize cs r4 r4.size i = q at cA cB
      have hwi : IntKind.i64.wrap ((i : Int) + 1) = (i : Int) + 1 := by rw [IntKind.wrap_i64]; omega
      have HIi : Hid (i < 256) := hi
      have JB : Hid (Below w10.heap.size w10 wr.drew) := IB.out.trans ⟨rfl, rfl, rfl, Nat.le_refl _, fun _ _ => rfl⟩
      clear IB hi2
      go_wp2_with fail
      go_region
      all_goals go_wp2_with fail
      all_goals exact ⟨⟨i + 1, by simp, HIi.out, JB⟩, by simp [intOf]; have := HIi.out; omega⟩
    · obtain rfl : i = 256 := by omega
      have hqi : ¬ ((256 : Nat) : Int) < 256 := by omega
      have HN11 : Hid (Nw w1.heap.size wr (.slice a2 r4.size c2) r4) := HN10.out.keep IB.out
      have B11 : Hid (Below w0.heap.size w0 wr) := B10.out.trans (IB.out.mono B10.out.size)
      clear IB B10 HN10 R8' R9' hi hi2
      obtain ⟨m, hm⟩ : ∃ m, r4.size = m := ⟨_, rfl⟩
      have HM : Hid (r4.size = m) := hm
      rw [hm] at HN11 HZ2 ⊢
      clear hm
      go_wp2_with fail
      go_loopw [14] (fun s14 wr' => ∃ i : Nat, s14 = .int .i64 i ∧ 1 ≤ i ∧ Hid (Below wr.heap.size wr wr')) (fun s14 _ => m - (intOf s14).toNat)
      case atStart => exact ⟨1, rfl, Nat.le_refl _, Below.refl _ _⟩
      case round =>
        obtain ⟨i, rfl, hi1, JB⟩ := hrel
        by_cases hi : i < m
        · have hqi : (i : Int) < (m : Int) := by omega
          have hmb := HZ2.out
          obtain ⟨p, hp⟩ : ∃ p, i = p + 1 := ⟨i - 1, by omega⟩
          have hsub : IntKind.i64.wrap ((i : Int) - 1) = (p : Int) := by rw [IntKind.wrap_i64]; omega
          have hwi : IntKind.i64.wrap ((i : Int) + 1) = (i : Int) + 1 := by rw [IntKind.wrap_i64]; omega
          have hpm : p < m := by omega
          rcases HN11.out with ⟨h0, _⟩ | ⟨h0, b, c3, hv, _, _, hr⟩
          · have := HM.out
            omega
          · injection hv with e1 e2 e3
            subst e1
            have hlt := HU.out p i (by omega) (by rw [HM.out]; exact hi)
            have hgt := ltl_asym _ _ hlt
            have H : Hid _ := fun (W : World) (hW : Below wr.heap.size wr W) => (⟨(hr.keep (JB.out.trans (hW.mono JB.out.size))).load p (by rw [HM.out]; exact hpm), (hr.keep (JB.out.trans (hW.mono JB.out.size))).load i (by rw [HM.out]; exact hi), (less_any _ _ (hr.ids p (by rw [HM.out]; exact hpm)) (hr.ids i (by rw [HM.out]; exact hi)) W).mono (fun e w' ⟨g1, g2⟩ => (⟨g1, hW.trans (g2.mono hW.size)⟩ : _ ∧ Below wr.heap.size wr w')), (less_any _ _ (hr.ids i (by rw [HM.out]; exact hi)) (hr.ids p (by rw [HM.out]; exact hpm)) W).mono (fun e w' ⟨g1, g2⟩ => (⟨g1, hW.trans (g2.mono hW.size)⟩ : _ ∧ Below wr.heap.size wr w'))⟩ : (loadVar 23 ⟨b, p * 20, none⟩).run Tryd.prog W = .ok (idv r4[p]!) W ∧ (loadVar 23 ⟨b, i * 20, none⟩).run Tryd.prog W = .ok (idv r4[i]!) W ∧ Calls Tryd.prog 21 #[idv r4[p]!, idv r4[i]!] W (fun e w' => e = .returned (.bool (ltl r4[p]! r4[i]!)) ∧ Below wr.heap.size wr w') ∧ Calls Tryd.prog 21 #[idv r4[i]!, idv r4[p]!] W (fun e w' => e = .returned (.bool (ltl r4[i]! r4[p]!)) ∧ Below wr.heap.size wr w'))
            rw [hlt, hgt] at H
            generalize r4[p]! = x at H
            generalize r4[i]! = y at H
            have c21 : Hid (∀ vs w, (callFunc 21 vs).run Tryd.prog w = .ok (.enter 21 vs) w) := fun vs w => by simp [go_sem]
            have HPM : Hid (p < m) := hpm
            have HIM : Hid (i < m) := hi
            have HI1 : Hid (1 ≤ i) := hi1
            clear hlt hgt hr hp hmb e2 e3 h0 hi1 HN11
            go_wp2_with fail
            refine wp_region_quiet (C := fun W => Below wr.heap.size wr W) (by kernel_rfl) (by kernel_rfl) (Below.refl _ _).drew ?_
            repeat
              refine wpQuiet_step (fun K hK => ?_)
              first
                | (refine q_ixb (by rfl) 33 _ _ rfl b 0 m c2 p (p * 20) _ rfl rfl (fun w => run_ixa33 b 0 m c2 p _ rfl HPM.out w) (by omega) (hK _ ?_); clear hK K)
                | (refine q_ixb (by rfl) 33 _ _ rfl b 0 m c2 i (i * 20) _ rfl rfl (fun w => run_ixa33 b 0 m c2 i _ rfl HIM.out w) (by omega) (hK _ ?_); clear hK K)
                | (refine q_load (by rfl) 23 _ rfl ⟨b, p * 20, none⟩ rfl (idv x) (fun W hW => (H.out W hW).1) (hK _ ?_); clear hK K)
                | (refine q_load (by rfl) 23 _ rfl ⟨b, i * 20, none⟩ rfl (idv y) (fun W hW => (H.out W hW).2.1) (hK _ ?_); clear hK K)
                | (refine q_call2 (by rfl) 21 c21.out _ _ _ rfl (idv x) (idv y) rfl rfl (.bool true) (fun W hW => (H.out W hW).2.2.1) (hK _ ?_); clear hK K)
                | (refine q_call2 (by rfl) 21 c21.out _ _ _ rfl (idv y) (idv x) rfl rfl (.bool false) (fun W hW => (H.out W hW).2.2.2) (hK _ ?_); clear hK K)
                | (go_simp; refine ⟨_, fun wq hs => rfl, hK _ ?_⟩; clear hK K)
            refine wpQuiet_nil ?_
            intro w12 hB12
            have HB12 : Hid (Below wr.heap.size wr w12) := hB12
            clear hB12
            go_wp2_with fail
            exact ⟨⟨i + 1, by simp, by have := HI1.out; omega, JB.out.trans (HB12.out.mono JB.out.size)⟩, by simp [intOf]; have := HIM.out; omega⟩
        · have hqi : ¬ (i : Int) < (m : Int) := by omega
          go_wp2_with fail
          go_ret
          exact ⟨rfl, HB0.out.trans ((B11.out.trans (JB.out.mono B11.out.size)).mono HB0.out.size)⟩

end Go.Proofs.YtmjcikomcnokkaaDoor
