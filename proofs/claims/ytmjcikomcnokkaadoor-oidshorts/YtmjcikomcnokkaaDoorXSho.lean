/- The document's Short. -/
import Derived.Test.YtmjcikomcnokkaaDoorXMat
namespace Go.Proofs.YtmjcikomcnokkaaDoor
open Go.RowKit

theorem ct_only {r : Array (List Int)} {p y : List Int} {m cc k : Nat} (h : Ct r p m cc y) (h1 : cc = 1) (hk : k < m) (hp : pf p r[k]!) : ∀ q, q < m → q ≠ k → ¬ pf p r[q]! := by
  rcases h with ⟨h0, _⟩ | ⟨_, q, g1, g2, g3, g4⟩ | ⟨h0, _⟩
  · omega
  · intro q' hq' hne hp'
    exact hne ((g4 q' hq' hp').trans (g4 k hk hp).symm)
  · omega

theorem ct_more {r : Array (List Int)} {p y : List Int} {m cc k : Nat} (h : Ct r p m cc y) (h1 : cc ≠ 1) (hk : k < m) (hp : pf p r[k]!) : ∃ q, q < m ∧ q ≠ k ∧ pf p r[q]! := by
  rcases h with ⟨_, h0⟩ | ⟨h0, _⟩ | ⟨_, q1, q2, g1, g2, g3, g4⟩
  · exact absurd hp (h0 k hk)
  · exact absurd h0 h1
  · by_cases e : q1 = k
    · exact ⟨q2, g2, by omega, g4⟩
    · exact ⟨q1, by omega, e, g3⟩

theorem only40 {r : Array (List Int)} {k : Nat} (hu : Up r) (hids : ∀ i, i < r.size → IsId r[i]!) (hk : k < r.size) : ∀ q, q < r.size → q ≠ k → ¬ pf ((hx r[k]!).take 40) r[q]! := by
  intro q hq hne hp
  obtain ⟨c, hc⟩ := cm_ex r[k]! r[q]!
  have := (hc.iff (hids k hk) (hids q hq) (Nat.le_refl _)).2 hp
  have hc40 : c = 40 := by have := hc.le; omega
  subst hc40
  have e := cm_all hc (hids k hk) (hids q hq)
  rcases Nat.lt_or_gt_of_ne hne with hlt | hlt
  · have := hu q k hlt hk
    rw [e, ltl_irr] at this
    cases this
  · have := hu k q hlt hq
    rw [e, ltl_irr] at this
    cases this

theorem take40 {x : List Int} (h : IsId x) : (hx x).take 40 = hx x := List.take_of_length_le (by rw [hx40 h]; exact Nat.le_refl _)

theorem xfind_is (B : Nat) (v : Value) (r : Array (List Int)) (k : Nat) (w : World) (h : Dn B w v r) (hu : Up r) (hk : k < r.size) (hsz : r.size < 100000) :
    Calls Tryd.prog 17 #[v, idv r[k]!] w fun e w' => e = .returned (.tuple #[.int .i64 k, .bool true]) ∧ Below w.heap.size w w' := by
  refine (xfind_any B v r r[k]! w h hu (h.ids k hk) hsz).mono ?_
  rintro e w' ⟨j, rfl, hj, hb⟩
  obtain rfl := wh_at hu hk hj
  refine ⟨?_, hb⟩
  rw [decide_eq_true hk, decide_eq_true rfl]
  rfl

set_option maxRecDepth 100000 in
set_option maxHeartbeats 4000000 in
theorem xshort_yes (B : Nat) (v : Value) (r : Array (List Int)) (k : Nat) (w : World) (h : Dn B w v r) (hu : Up r) (hk : k < r.size) (hsz : r.size < 100000) :
    Calls Tryd.prog 23 #[v, idv r[k]!] w fun e w' => ∃ n : Nat, e = .returned (.tuple #[.string (strOfNums ((hx r[k]!).take n)), .int .i64 0]) ∧ Sh r k n ∧ Below w.heap.size w w' := by
  obtain ⟨ao, c, rfl⟩ := h.shape
  obtain ⟨b, c', he1, _, _, hr⟩ := h.row (by omega)
  injection he1 with he2 _ he3
  subst he2 he3
  have hidk := h.ids k hk
  have HB0 : Hid (Below w.heap.size w (w.alloc (.cells (vals (cl r[k]!) 20).toArray 22))) := new_below _ _
  have hfd := xfind_is B _ r k (w.alloc (.cells (vals (cl r[k]!) 20).toArray 22)) (h.keep HB0.out) hu hk hsz
  have HBox : Hid (∀ W, Below (w.alloc (.cells (vals (cl r[k]!) 20).toArray 22)).heap.size (w.alloc (.cells (vals (cl r[k]!) 20).toArray 22)) W → (loadVar 22 ⟨w.heap.size, 0, none⟩).run Tryd.prog W = .ok (idv r[k]!) W) := fun W hW => box22 w W r[k]! hidk hW
  have HLd : Hid (∀ W, Below w.heap.size w W → ∀ i, i < r.size → (loadVar 22 ⟨b, i * 20, none⟩).run Tryd.prog W = .ok (idv r[i]!) W) := fun W hW i hi => (hr.keep hW).load i hi
  have HId : Hid (∀ i, i < r.size → IsId r[i]!) := h.ids
  have HFt : Hid (∀ nn, nn ≤ 40 → Ft r[k]! nn (strOfNums ((hx r[k]!).take nn))) := fun nn hn => ft_of hidk nn hn
  have HSelf : Hid (∀ nn, pf ((hx r[k]!).take nn) r[k]!) := fun nn => pf_self nn rfl hidk
  have HEnd : Hid ((∀ n', 4 ≤ n' → n' < 40 → ∃ q, q < r.size ∧ q ≠ k ∧ pf ((hx r[k]!).take n') r[q]!) → Sh r k 40) := fun hh => ⟨by omega, by omega, only40 hu h.ids hk, fun _ => hh 39 (by omega) (by omega)⟩
  have HSt : Hid (∀ nn, 4 ≤ nn → nn ≤ 40 → (∀ q, q < r.size → q ≠ k → ¬ pf ((hx r[k]!).take nn) r[q]!) → (∀ n', 4 ≤ n' → n' < nn → ∃ q, q < r.size ∧ q ≠ k ∧ pf ((hx r[k]!).take n') r[q]!) → Sh r k nn) := fun nn h4 h40 ho hl => ⟨h4, h40, ho, fun h5 => hl (nn - 1) (by omega) (by omega)⟩
  have HHex : Hid (∀ W, Calls Tryd.prog 12 #[idv r[k]!] W fun e w' => e = .returned (.string (strOfNums (hx r[k]!))) ∧ Below W.heap.size W w') := fun W => rhex_any r[k]! hidk W
  have HT40 : Hid ((hx r[k]!).take 40 = hx r[k]!) := take40 hidk
  have hl0 := HBox.out _ (Below.refl _ _)
  have HK : Hid (k < r.size) := hk
  clear hr h hu hidk hk
  obtain ⟨z, hz⟩ : ∃ z, r[k]! = z := ⟨_, rfl⟩
  have HZ : Hid (r[k]! = z) := hz
  rw [hz] at hfd HBox HFt HEnd HSt HHex hl0 HB0 HT40 ⊢
  have HSelf' : Hid (∀ nn, pf ((hx z).take nn) r[k]!) := fun nn => by have := HSelf.out nn; rw [HZ.out] at this ⊢; exact this
  clear hz HSelf
  obtain ⟨m, hm⟩ : ∃ m, r.size = m := ⟨_, rfl⟩
  have HM : Hid (r.size = m) := hm
  rw [hm] at hfd HLd HId HEnd HSt HK hsz ⊢
  clear hm
  obtain ⟨w0, hw0⟩ : ∃ w0, w.alloc (.cells (vals (cl z) 20).toArray 22) = w0 := ⟨_, rfl⟩
  have HW0 : Hid (w.alloc (.cells (vals (cl z) 20).toArray 22) = w0) := hw0
  rw [hw0] at HB0 HBox
  clear hw0
  go_enter Tryd.func23, Tryd.ntmps23
  go_wp2_with (refine wpList_ldv rfl 22 _ rfl ⟨w.heap.size, 0, none⟩ rfl (idv z) hl0 ?_; clear hl0)
  refine hfd.mono ?_
  rintro e w1 ⟨rfl, b1⟩
  rw [HW0.out] at b1
  have B1 : Hid (Below w0.heap.size w0 w1) := b1
  have hl1 := HBox.out w1 b1
  have hx1 := HHex.out w1
  clear b1 hfd HBox HHex HW0
  go_wp2_with (first
    | (refine wpList_ldv rfl 22 _ rfl ⟨w.heap.size, 0, none⟩ rfl (idv z) hl1 ?_; clear hl1)
    | (go_at_call 12; refine hx1.mono ?_; rintro e w2 ⟨rfl, b2⟩; have B2 : Hid (Below w.heap.size w w2) := HB0.out.trans ((B1.out.trans (b2.mono B1.out.size)).mono HB0.out.size); clear b2 hx1 B1))
  obtain ⟨HX, hHX⟩ : ∃ HX, strOfNums (hx z) = HX := ⟨_, rfl⟩
  have HHX : Hid (strOfNums (hx z) = HX) := hHX
  rw [hHX]
  clear hHX
  go_loopw [9] (fun s9 wr => ∃ nn : Nat, s9 = .int .i64 nn ∧ 4 ≤ nn ∧ nn ≤ 40 ∧ Hid (∀ n', 4 ≤ n' → n' < nn → ∃ q, q < m ∧ q ≠ k ∧ pf ((hx z).take n') r[q]!) ∧ Hid (Below w.heap.size w wr)) (fun s9 _ => 40 - (intOf s9).toNat)
  case atStart => exact ⟨4, rfl, Nat.le_refl _, by omega, fun n' h1 h2 => by omega, B2⟩
  case round =>
    obtain ⟨nn, rfl, hn4, hn40, HL, IB⟩ := hrel
    by_cases hlt : nn < 40
    · have hqi : (nn : Int) < 40 := by omega
      have HN : Hid (4 ≤ nn ∧ nn < 40) := ⟨hn4, hlt⟩
      clear hn4 hn40
      go_wp2_with fail
      go_loopw [10, 11] (fun s10 s11 wq => ∃ (i cc : Nat) (y : List Int), s10 = .int .i64 cc ∧ s11 = .int .i64 i ∧ i ≤ m ∧ cc ≤ i ∧ Hid (Ct r ((hx z).take nn) i cc y) ∧ Hid (Below w.heap.size w wq)) (fun _ s11 _ => m - (intOf s11).toNat)
      case atStart => exact ⟨0, 0, z20, rfl, rfl, Nat.zero_le _, Nat.le_refl _, ct_zero r _ z20, IB⟩
      case round =>
        obtain ⟨i, cc, y, rfl, rfl, him, hci, HC, JB⟩ := hrel
        clear IB
        have F := HFt.out nn (by have := HN.out; omega)
        obtain ⟨S, hSe⟩ : ∃ S, strOfNums ((hx z).take nn) = S := ⟨_, rfl⟩
        rw [hSe] at F
        have HSe : Hid (strOfNums ((hx z).take nn) = S) := hSe
        have hcut := F.cut
        rw [HHX.out] at hcut
        have HCut : Hid _ := hcut
        have HF : Hid (Ft z nn S) := F
        have hwn : IntKind.i64.wrap ((nn : Int) + 1) = (nn : Int) + 1 := by have := HN.out; rw [IntKind.wrap_i64]; omega
        clear F hcut hSe
        by_cases hi : i < m
        · have hqi2 : (i : Int) < (m : Int) := by omega
          have hid := HId.out i hi
          have hwi : IntKind.i64.wrap ((i : Int) + 1) = (i : Int) + 1 := by rw [IntKind.wrap_i64]; omega
          have hwc : IntKind.i64.wrap ((cc : Int) + 1) = (cc : Int) + 1 := by rw [IntKind.wrap_i64]; omega
          have HIi : Hid (i < m ∧ cc ≤ i) := ⟨hi, hci⟩
          have c12 : Hid (∀ vs w, (callFunc 12 vs).run Tryd.prog w = .ok (.enter 12 vs) w) := fun vs w => by simp [go_sem]
          have c37 : Hid (∀ vs w, (callFunc 37 vs).run Tryd.prog w = .ok (.enter 37 vs) w) := fun vs w => by simp [go_sem]
          obtain ⟨t, ht⟩ : ∃ t : Bool, (t = true ↔ pf ((hx z).take nn) r[i]!) := by
            by_cases hp : pf ((hx z).take nn) r[i]!
            · exact ⟨true, by simp [hp]⟩
            · exact ⟨false, by simp [hp]⟩
          have H : Hid (∀ W, Below wr.heap.size wr W → (loadVar 22 ⟨b, i * 20, none⟩).run Tryd.prog W = .ok (idv r[i]!) W ∧ Calls Tryd.prog 12 #[idv r[i]!] W (fun e w' => e = .returned (.string (strOfNums (hx r[i]!))) ∧ Below wr.heap.size wr w') ∧ Calls Tryd.prog 37 #[.string (strOfNums (hx r[i]!)), .string S] W (fun e w' => e = .returned (.bool t) ∧ Below wr.heap.size wr w')) := fun W hW => by
            refine ⟨HLd.out W (JB.out.trans (hW.mono JB.out.size)) i hi, (rhex_any r[i]! hid W).mono fun e w' ⟨g1, g2⟩ => ⟨g1, hW.trans (g2.mono hW.size)⟩, ?_⟩
            have hs40 : S.size ≤ 40 := by rw [HF.out.sz]; have := HN.out; omega
            cases t with
            | true => exact (front_yes r[i]! S hid hs40 (by rw [HF.out.ns]; exact ht.1 rfl) W).mono fun e w' ⟨g1, g2⟩ => ⟨g1, hW.trans (g2.mono hW.size)⟩
            | false => exact (front_no r[i]! S hid hs40 (by rw [HF.out.ns]; intro hp; cases ht.2 hp) W).mono fun e w' ⟨g1, g2⟩ => ⟨g1, hW.trans (g2.mono hW.size)⟩
          have HV : Hid (∃ y', Ct r ((hx z).take nn) (i + 1) (if t = true then cc + 1 else cc) y') := by
            cases t with
            | true => exact ⟨_, ct_yes HC.out (ht.1 rfl)⟩
            | false => exact ⟨_, ct_no HC.out (fun hp => by cases ht.2 hp)⟩
          generalize strOfNums (hx r[i]!) = G at H
          generalize r[i]! = x at H
          clear hid ht HC him hci
          go_wp2_with fail
          refine wp_region_quiet (C := fun W => Below wr.heap.size wr W) (by kernel_rfl) (by kernel_rfl) (Below.refl _ _).drew ?_
          repeat
            refine wpQuiet_step (fun K hK => ?_)
            first
              | (refine q_ixb (by rfl) 35 _ _ rfl b 0 m c i (i * 20) _ rfl rfl (fun w => run_ixa35 b 0 m c i _ rfl HIi.out.1 w) (by omega) (hK _ ?_); clear hK K)
              | (refine q_load (by rfl) 22 _ rfl ⟨b, i * 20, none⟩ rfl (idv x) (fun W hW => (H.out W hW).1) (hK _ ?_); clear hK K)
              | (refine q_call1 (by rfl) 12 c12.out _ _ rfl (idv x) rfl (.string G) (fun W hW => (H.out W hW).2.1) (hK _ ?_); clear hK K)
              | (refine q_sl9 (by rfl) _ _ rfl (.string HX) (.int .i64 nn) rfl rfl (.string S) HCut.out (hK _ ?_); clear hK K)
              | (refine q_call2 (by rfl) 37 c37.out _ _ _ rfl (.string G) (.string S) rfl rfl (.bool t) (fun W hW => (H.out W hW).2.2) (hK _ ?_); clear hK K)
              | (go_simp; refine ⟨_, fun wq hs => rfl, hK _ ?_⟩; clear hK K)
          refine wpQuiet_nil ?_
          intro w5 b5
          have B5 : Hid (Below w.heap.size w w5) := JB.out.trans (b5.mono JB.out.size)
          clear b5 H JB
          obtain ⟨y', HV2⟩ := HV.out
          cases t with
          | true =>
            have HV' : Hid (Ct r ((hx z).take nn) (i + 1) (cc + 1) y') := HV2
            clear HV HV2
            go_wp2_with fail
            exact ⟨⟨i + 1, cc + 1, y', by simp, by simp, HIi.out.1, by have := HIi.out; omega, HV', B5⟩, by simp [intOf]; have := HIi.out; omega⟩
          | false =>
            have HV' : Hid (Ct r ((hx z).take nn) (i + 1) cc y') := HV2
            clear HV HV2
            go_wp2_with fail
            exact ⟨⟨i + 1, cc, y', by simp, by simp, HIi.out.1, by have := HIi.out; omega, HV', B5⟩, by simp [intOf]; have := HIi.out; omega⟩
        · obtain rfl : i = m := by omega
          have hqi2 : ¬ (i : Int) < (i : Int) := by omega
          by_cases h1 : cc = 1
          · have HS := HSt.out nn HN.out.1 (by have := HN.out; omega) (ct_only HC.out h1 HK.out (HSelf'.out nn)) HL.out
            have HS' : Hid (Sh r k nn) := HS
            subst h1
            clear HS HC hci him
            go_wp2_with (refine wpList_sl9 rfl _ _ rfl (.string HX) (.int .i64 nn) rfl rfl (.string S) HCut.out ?_)
            go_ret2
            exact ⟨nn, by rw [HSe.out]; rfl, HS'.out, JB.out⟩
          · have HQ := ct_more HC.out h1 HK.out (HSelf'.out nn)
            have HL' : Hid (∀ n', 4 ≤ n' → n' < nn + 1 → ∃ q, q < i ∧ q ≠ k ∧ pf ((hx z).take n') r[q]!) := fun n' g1 g2 => by
              by_cases e : n' = nn
              · subst e; exact HQ
              · exact HL.out n' g1 (by omega)
            have g1 : ((cc : Int) == 1) = false := by simp; omega
            have g1'' : ¬ (cc : Int) = 1 := by omega
            clear HQ HC hci him
            go_wp2_with fail
            exact ⟨⟨nn + 1, by simp, by have := HN.out; omega, by have := HN.out; omega, HL', JB⟩, by simp [intOf]; have := HN.out; omega⟩
    · obtain rfl : nn = 40 := by omega
      have hqi : ¬ ((40 : Nat) : Int) < 40 := by omega
      have HS : Hid (Sh r k 40) := HEnd.out HL.out
      clear HL
      go_wp2_with fail
      go_ret2
      exact ⟨40, by rw [HT40.out, HHX.out]; rfl, HS.out, IB.out⟩

end Go.Proofs.YtmjcikomcnokkaaDoor
