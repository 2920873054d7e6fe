/- OidCounts. -/
import Derived.Test.YtmjcikomcnokkaaDoorLCouh
namespace Go.Proofs.YtmjcikomcnokkaaDoor
open Go.RowKit

set_option maxRecDepth 100000 in
set_option maxHeartbeats 4000000 in
theorem counts_main (ao : Option Addr) (n c : Nat) (d : Array (List Int)) (w : World) (h : Is w (.slice ao n c) d) (hn : d.size = n) (hlim : n ≤ 60) :
    Calls Tryd.prog 7 #[.slice ao n c] w fun e w' => e = .returned (.bool true) ∧ Below w.heap.size w w' := by
  have HI : Hid (Is w (.slice ao n c) d) := h
  have HN : Hid (d.size = n) := hn
  have HLim : Hid (n ≤ 60) := hlim
  have q1 : decide ((60 : Int) < (n : Int)) = false := by simp; omega
  have q1' : ¬ 60 < n := by omega
  clear h hn hlim
  go_enter Tryd.func7, Tryd.ntmps7
  go_wp2_with fail
  refine (known_yes w).mono ?_
  rintro e w1 ⟨rfl, b1⟩
  have B1 : Hid (Below w.heap.size w w1) := b1
  clear b1
  have hsort := Sort_any n (pdq_is n (by have := HLim.out; omega)) ao c d w1 (HI.out.keep B1.out) HN.out (by have := HLim.out; omega)
  go_wp2_with fail
  refine hsort.mono ?_
  rintro e w2 ⟨v2, r, rfl, S2, z2, N2, b2⟩
  have B2 : Hid (Below w.heap.size w w2) := B1.out.trans (b2.mono B1.out.size)
  have HZ2 : Hid (r.size ≤ 60) := Nat.le_trans z2 HLim.out
  have HN2 : Hid (Nw w1.heap.size w2 v2 r) := N2
  have HU : Hid (Up r) := up_list.2 S2.1
  clear hsort S2 z2 N2 b2 B1 HI HN HLim
  have hfa := fan_any _ v2 r w2 HN2.out (by have := HZ2.out; omega)
  have z41 := zero41
  go_wp2_with fail
  refine hfa.mono ?_
  rintro e w3 ⟨rfl, b3⟩
  have B3 : Hid (Below w.heap.size w w3) := B2.out.trans (b3.mono B2.out.size)
  have HN3 : Hid (Nw w1.heap.size w3 v2 r) := HN2.out.keep b3
  clear hfa b3 B2 HN2
  have r7 := rowIs_vals w3 (fun _ => .int .i64 0) 256 41
  obtain ⟨a2, c2, rfl⟩ := HN3.out.shape
  have hids := HN3.out.ids
  have h255 := cs_all r r.size hids
  have HDf : Hid (∀ i : Nat, cs r r.size i - (if 0 < i then cs r r.size ((i : Int) - 1) else 0) = c1 r r.size i) := fun i => cs_diff r r.size i hids
  have HId : Hid (∀ i, i < r.size → IsId r[i]!) := hids
  obtain ⟨m, hm⟩ : ∃ m, r.size = m := ⟨_, rfl⟩
  have HM : Hid (r.size = m) := hm
  rw [hm] at HN3 HZ2 HDf h255 HId ⊢
  clear hm hids
  have HR : Hid (∀ W, Below w3.heap.size w3 W → 0 < m → ∃ b, a2 = some ⟨b, 0, none⟩ ∧ Rw W b (c2 * 20) r) := fun W hW h0 => by
    rcases HN3.out with ⟨h1, _⟩ | ⟨h1, b, c3, e, _, _, hr⟩
    · have := HM.out
      omega
    · injection e with e1 e2 e3
      subst e3
      exact ⟨b, e1, hr.keep hW⟩
  go_wp2_with (refine wpList_st rfl 41 _ _ rfl w3.heap.size rfl (fun j => .int .i64 (cs r m j)) rfl r7 size41 (fun j => rfl) ?_; intro w4 r4 f4; clear r7; have c255 : w4.cell? ⟨w3.heap.size, 255, none⟩ = some (.int .i64 (m : Int)) := (by rw [r4.cell (i := 255) (by omega)]; exact congrArg (fun t => some (Value.int .i64 t)) h255))
  have b34 : Below w3.heap.size w3 w4 := new_fr f4
  have B4 : Hid (Below w.heap.size w w4) := B3.out.trans (b34.mono B3.out.size)
  have R4 : Hid (w4.rowIs w3.heap.size 41 256 (fun j => .int .i64 (cs r m j))) := r4
  have HN4 : Hid (Nw w1.heap.size w4 (.slice a2 m c2) r) := HN3.out.keep b34
  have HR4 : Hid (∀ W, Below w4.heap.size w4 W → 0 < m → ∃ b, a2 = some ⟨b, 0, none⟩ ∧ Rw W b (c2 * 20) r) := fun W hW h0 => HR.out W (b34.trans (hW.mono b34.size)) h0
  clear HR HN3 B3 r4 f4 b34 c255 z41 h255
  go_loopw [5] (fun s5 wr => ∃ i : Nat, s5 = .int .i64 i ∧ i ≤ 256 ∧ Hid (Below w4.heap.size w4 wr)) (fun s5 _ => 256 - (intOf s5).toNat)
  case atStart => exact ⟨0, rfl, Nat.zero_le _, Below.refl _ _⟩
  case round =>
    obtain ⟨i, rfl, hi2, IB⟩ := hrel
    by_cases hi : i < 256
    · have hqi : (i : Int) < 256 := by omega
      have HIi : Hid (i < 256) := hi
      clear hi2
      go_wp2_with fail
      go_loopw [6, 7] (fun s6 s7 wr' => ∃ k : Nat, s6 = .int .i64 (c1 r k i) ∧ s7 = .int .i64 k ∧ k ≤ m ∧ Hid (Below w4.heap.size w4 wr')) (fun _ s7 _ => m - (intOf s7).toNat)
      case atStart => exact ⟨0, rfl, rfl, Nat.zero_le _, IB⟩
      case round =>
        obtain ⟨k, rfl, rfl, hkm, JB⟩ := hrel
        clear IB
        have hmb := HZ2.out
        by_cases hk : k < m
        · have hqk : (k : Int) < (m : Int) := by omega
          obtain ⟨b, rfl, hr⟩ := HR4.out wr JB.out (by omega)
          obtain ⟨f, hf1, hf2⟩ := hr.row
          have hle := hr.le
          have hms := HM.out
          have hcell : wr.cell? ⟨b, k * 20, none⟩ = some (.int .u8 (bt r[k]! 0)) := by
            rw [hf1.cell (i := k * 20) (by omega)]
            have := hf2 k (by omega) 0 (by omega)
            rw [Nat.add_zero] at this
            rw [this]
            rfl
          have hid := (hr.ids k (by omega)).at 0 (by omega)
          have hc1 : c1 r (k + 1) i = c1 r k i + if bt r[k]! 0 = i then 1 else 0 := rfl
          have hcb := c1_b r k i
          obtain ⟨p, hp⟩ : ∃ p : Nat, bt r[k]! 0 = p := ⟨(bt r[k]! 0).toNat, by omega⟩
          rw [hp] at hcell hc1 hid
          obtain ⟨q, hqe⟩ : ∃ q, c1 r k i = q := ⟨_, rfl⟩
          rw [hqe] at hcb hc1 ⊢
          have hwp : IntKind.i64.wrap (p : Int) = (p : Int) := by rw [IntKind.wrap_i64]; omega
          have hwq : IntKind.i64.wrap (q + 1) = q + 1 := by rw [IntKind.wrap_i64]; omega
          have hwk : IntKind.i64.wrap ((k : Int) + 1) = (k : Int) + 1 := by rw [IntKind.wrap_i64]; omega
          have HKm : Hid (k < m) := hk
          have HC : Hid (c1 r (k + 1) i = q + if ((p : Nat) : Int) = i then 1 else 0) := hc1
          clear hf1 hf2 hle hr hid hc1 hcb hp hqe hkm hms hmb
          by_cases hpi : p = i
          · have HC' : Hid (c1 r (k + 1) i = q + 1) := by rw [HC.out, if_pos (by omega)]; exact rfl
            have g1 : ((p : Int) == (i : Int)) = true := by simp [hpi]
            subst hpi
            clear HC
            go_wp2_with fail
            exact ⟨⟨k + 1, by rw [HC'.out], by simp, HKm.out, JB⟩, by simp [intOf]; have := HKm.out; omega⟩
          · have HC' : Hid (c1 r (k + 1) i = q) := by rw [HC.out, if_neg (by omega)]; exact Int.add_zero q
            have g1 : ((p : Int) == (i : Int)) = false := by simp; omega
            have g2 : ¬ (p : Int) = (i : Int) := by omega
            clear HC
            go_wp2_with fail
            exact ⟨⟨k + 1, by rw [HC'.out], by simp, HKm.out, JB⟩, by simp [intOf]; have := HKm.out; omega⟩
        · obtain rfl : k = m := by omega
          have hqk : ¬ (k : Int) < (k : Int) := by omega
          have R5 := rowIs_fr (P := fun _ => False) R4.out (Fr.ofBelow JB.out) (fun h => h)
          have cA := R5.cell (i := i) HIi.out
          have hdf := HDf.out i
          have bA := cs_b r k i
          have bC := c1_b r k i
          have hwi : IntKind.i64.wrap ((i : Int) + 1) = (i : Int) + 1 := by rw [IntKind.wrap_i64]; omega
          by_cases hi0 : 0 < i
          · have g0 : (0 : Int) < (i : Int) := by omega
            obtain ⟨p, hp⟩ : ∃ p, i = p + 1 := ⟨i - 1, by omega⟩
            have hsub : IntKind.i64.wrap ((i : Int) - 1) = (p : Int) := by rw [IntKind.wrap_i64]; omega
            have cB := R5.cell (i := p) (by have := HIi.out; omega)
            rw [if_pos hi0, show ((i : Int) - 1) = (p : Int) by omega] at hdf
            have bB := cs_b r k p
            generalize cs r k i = qa at cA hdf bA
            generalize cs r k p = qb at cB hdf bB
            have hwd : IntKind.i64.wrap (qa - qb) = qa - qb := by rw [IntKind.wrap_i64]; omega
            generalize c1 r k i = qc at hdf bC ⊢
            have hdd : qc = qa - qb := hdf.symm
            subst hdd
            have hp2 : p < 256 := by have := HIi.out; omega
            clear R5 hp bA bB bC hdf hi0
            go_wp2_with fail
            exact ⟨⟨i + 1, by simp, HIi.out, JB⟩, by simp [intOf]; have := HIi.out; omega⟩
          · have g0 : ¬ (0 : Int) < (i : Int) := by omega
            rw [if_neg hi0] at hdf
            generalize cs r k i = qa at cA hdf bA
            have hwd : IntKind.i64.wrap (qa - 0) = qa - 0 := by rw [IntKind.wrap_i64]; omega
            have hwd' : IntKind.i64.wrap qa = qa := by rw [IntKind.wrap_i64]; omega
            have hdd : qa = c1 r k i := by omega
            rw [← hdd]
            clear R5 bA bC hdf hdd hi0
            go_wp2_with fail
            exact ⟨⟨i + 1, by simp, HIi.out, JB⟩, by simp [intOf]; have := HIi.out; omega⟩
    · obtain rfl : i = 256 := by omega
      have hqi : ¬ ((256 : Nat) : Int) < 256 := by omega
      have HN5 : Hid (Nw w1.heap.size wr (.slice a2 m c2) r) := HN4.out.keep IB.out
      have B5 : Hid (Below w.heap.size w wr) := B4.out.trans (IB.out.mono B4.out.size)
      have HR5 : Hid (∀ W, Below wr.heap.size wr W → 0 < m → ∃ b, a2 = some ⟨b, 0, none⟩ ∧ Rw W b (c2 * 20) r) := fun W hW h0 => HR4.out W (IB.out.trans (hW.mono IB.out.size)) h0
      clear IB B4 HN4 R4 HR4 hi hi2 HDf
      go_wp2_with fail
      go_loopw [9] (fun s9 wr' => ∃ k : Nat, s9 = .int .i64 k ∧ k ≤ m ∧ Hid (Below wr.heap.size wr wr')) (fun s9 _ => m - (intOf s9).toNat)
      case atStart => exact ⟨0, rfl, Nat.zero_le _, Below.refl _ _⟩
      case round =>
        obtain ⟨k, rfl, hkm, JB⟩ := hrel
        have hmb := HZ2.out
        by_cases hk : k < m
        · have hqk : (k : Int) < (m : Int) := by omega
          obtain ⟨b, rfl, hr⟩ := HR5.out wr JB.out (by omega)
          have hkr : k < r.size := by rw [HM.out]; exact hk
          have hid := hr.ids k hkr
          have HNr : Hid (∀ W, Below wr.heap.size wr W → Nw w1.heap.size W (.slice (some ⟨b, 0, none⟩) m c2) r) := fun W hW => HN5.out.keep (JB.out.trans (hW.mono JB.out.size))
          have HLd : Hid (∀ W, Below wr.heap.size wr W → (loadVar 23 ⟨b, k * 20, none⟩).run Tryd.prog W = .ok (idv r[k]!) W) := fun W hW => (hr.keep hW).load k hkr
          have hsh := short_yes _ _ r k wr (HNr.out wr (Below.refl _ _)) HU.out hkr (by rw [HM.out]; omega)
          have HFi : Hid (∀ W, Below wr.heap.size wr W → Calls Tryd.prog 16 #[.slice (some ⟨b, 0, none⟩) m c2, idv r[k]!] W fun e w' => e = .returned (.tuple #[.int .i64 k, .bool true]) ∧ Below W.heap.size W w') := fun W hW => find_is _ _ r k W (HNr.out W hW) HU.out hkr (by rw [HM.out]; omega)
          have HMa : Hid (∀ W S y e, Below wr.heap.size wr W → 4 ≤ S.size → S.size ≤ 40 → (∀ c ∈ ns S, isS c) → Mt r (ns S) y e → Calls Tryd.prog 24 #[.slice (some ⟨b, 0, none⟩) m c2, .string S] W fun e' w' => e' = .returned (.tuple #[idv y, .int .i64 e]) ∧ Below W.heap.size W w') := fun W S y e hW h4 h40 hs hm => match_is _ _ r S W (HNr.out W hW) HU.out (by rw [HM.out]; omega) h4 h40 hs y e hm
          have HOne : Hid (∀ nn, Sh r k nn → Mt r ((hx r[k]!).take nn) r[k]! 0) := fun nn h => sh_one hkr hid h
          have HMany : Hid (∀ nn, Sh r k nn → 4 < nn → Mt r ((hx r[k]!).take (nn - 1)) z20 9) := fun nn h h4 => sh_many hkr hid h h4
          have HFt : Hid (∀ nn, nn ≤ 40 → Ft r[k]! nn (strOfNums ((hx r[k]!).take nn))) := fun nn h => ft_of hid nn h
          have HHex : Hid (∀ W, Calls Tryd.prog 11 #[idv r[k]!] W fun e w' => e = .returned (.string (strOfNums (hx r[k]!))) ∧ Below W.heap.size W w') := fun W => hex_any r[k]! hid W
          have he := fun W => eql_ids 23 Tryd.underlying23 hid hid W
          obtain ⟨x, hx0⟩ : ∃ x, r[k]! = x := ⟨_, rfl⟩
          rw [hx0] at hid HLd hsh HFi HOne HMany HFt HHex he
          have he' : ∀ W, (Op.equalIn 10000 23 (idv x) (idv x)).run Tryd.prog W = .ok true W := fun W => by rw [he W]; simp
          have hwk : IntKind.i64.wrap ((k : Int) + 1) = (k : Int) + 1 := by rw [IntKind.wrap_i64]; omega
          have HKm : Hid (k < m) := hk
          have HMB : Hid (m ≤ 60) := hmb
          have hl0 := HLd.out wr (Below.refl _ _)
          clear hr hkr hx0 he hkm HNr hid hmb HN5 HR5
          go_wp2_with (refine wpList_ldv rfl 23 _ rfl ⟨b, k * 20, none⟩ rfl (idv x) hl0 ?_; clear hl0)
          refine hsh.mono ?_
          rintro e wA ⟨nn, rfl, hS, bA⟩
          have hn40 := hS.hi
          have hn4 := hS.lo
          have F := HFt.out nn hn40
          have M1 := HOne.out nn hS
          have HSh : Hid (Sh r k nn) := hS
          obtain ⟨S, hSe⟩ : ∃ S, strOfNums ((hx x).take nn) = S := ⟨_, rfl⟩
          rw [hSe] at F ⊢
          clear hSe
          rw [← F.ns] at M1
          have hma := HMa.out wA S x 0 bA (by rw [F.sz]; exact hn4) (by rw [F.sz]; exact hn40) F.sg M1
          have HF : Hid (Ft x nn S) := F
          have BA : Hid (Below wr.heap.size wr wA) := bA
          have hSz := F.sz
          clear hsh hS F M1 bA HOne
          go_wp2_with fail
          refine hma.mono ?_
          rintro e wB ⟨rfl, bB⟩
          have BB : Hid (Below wr.heap.size wr wB) := BA.out.trans (bB.mono BA.out.size)
          have hzB := z_row wB 23
          have HFi' : Hid (∀ wC, Fr (fun i => i = wB.heap.size) (wB.alloc (Obj.cells zcs 23)) wC → Below wr.heap.size wr wC ∧ (loadVar 23 ⟨b, k * 20, none⟩).run Tryd.prog wC = .ok (idv x) wC ∧ Calls Tryd.prog 16 #[.slice (some ⟨b, 0, none⟩) m c2, idv x] wC fun e w' => e = .returned (.tuple #[.int .i64 k, .bool true]) ∧ Below wC.heap.size wC w') := fun wC f => by
            have hb := BB.out.trans ((st_new (w := wB) f).mono BB.out.size)
            exact ⟨hb, HLd.out wC hb, HFi.out wC hb⟩
          clear hma bB BA HFi
          go_wp2_with (first
            | (refine wpList_st rfl 23 _ _ rfl wB.heap.size rfl (cl x) rfl hzB size23 (fun j => rfl) ?_; intro wC rC fC; clear hzB; obtain ⟨bC, lC, fiC⟩ := HFi'.out wC fC; have BC : Hid _ := bC; have RC : Hid (wC.rowIs wB.heap.size 23 20 (cl x)) := rC; clear rC fC HFi' bC)
            | (refine wpList_ldv rfl 23 _ rfl ⟨b, k * 20, none⟩ rfl (idv x) lC ?_; clear lC))
          refine fiC.mono ?_
          rintro e wD ⟨rfl, bD⟩
          have BD : Hid (Below wr.heap.size wr wD) := BC.out.trans (bD.mono BC.out.size)
          have RD : Hid (wD.rowIs wB.heap.size 23 20 (cl x)) := rowIs_fr (P := fun _ => False) RC.out (Fr.ofBelow bD) (fun h => h)
          have H : Hid (∀ W, Below wD.heap.size wD W → (loadVar 23 ⟨wB.heap.size, 0, none⟩).run Tryd.prog W = .ok (idv x) W ∧ (loadVar 23 ⟨b, k * 20, none⟩).run Tryd.prog W = .ok (idv x) W ∧ Calls Tryd.prog 11 #[idv x] W (fun e w' => e = .returned (.string (strOfNums (hx x))) ∧ Below wD.heap.size wD w')) := fun W hW =>
            ⟨row_load (rowIs_fr (P := fun _ => False) RD.out (Fr.ofBelow hW) (fun h => h)), HLd.out W (BD.out.trans (hW.mono BD.out.size)), (HHex.out W).mono fun e w' ⟨g1, g2⟩ => ⟨g1, hW.trans (g2.mono hW.size)⟩⟩
          have c11 : Hid (∀ vs w, (callFunc 11 vs).run Tryd.prog w = .ok (.enter 11 vs) w) := fun vs w => by simp [go_sem]
          have g4 : decide ((nn : Int) < 4) = false := by simp; omega
          have g4' : decide (nn < 4) = false := by simp; omega
          have g4'' : decide ((S.size : Int) < 4) = false := by rw [hSz]; exact g4
          have HN4 : Hid (4 ≤ nn ∧ nn ≤ 40) := ⟨hn4, hn40⟩
          obtain ⟨HX, hHX⟩ : ∃ HX, strOfNums (hx x) = HX := ⟨_, rfl⟩
          have hcut := HF.out.cut
          rw [hHX] at H hcut
          have HCut : Hid _ := hcut
          clear fiC bD BC RC RD hcut hHX hn4 hn40
          go_wp2_with fail
          refine wp_region_quiet (C := fun W => Below wD.heap.size wD W) (by kernel_rfl) (by kernel_rfl) (Below.refl _ _).drew ?_
          repeat
            refine wpQuiet_step (fun K hK => ?_)
            first
              | (refine q_ixb (by rfl) 33 _ _ rfl b 0 m c2 k (k * 20) _ rfl rfl (fun w => run_ixa33 b 0 m c2 k _ rfl HKm.out w) (by omega) (hK _ ?_); clear hK K)
              | (refine q_load (by rfl) 23 _ rfl ⟨wB.heap.size, 0, none⟩ rfl (idv x) (fun W hW => (H.out W hW).1) (hK _ ?_); clear hK K)
              | (refine q_load (by rfl) 23 _ rfl ⟨b, k * 20, none⟩ rfl (idv x) (fun W hW => (H.out W hW).2.1) (hK _ ?_); clear hK K)
              | (refine q_call1 (by rfl) 11 c11.out _ _ rfl (idv x) rfl (.string HX) (fun W hW => (H.out W hW).2.2) (hK _ ?_); clear hK K)
              | (refine q_sl9 (by rfl) _ _ rfl (.string HX) (.int .i64 nn) rfl rfl (.string S) HCut.out (hK _ ?_); clear hK K)
              | (go_simp; refine ⟨_, fun wq hs => rfl, hK _ ?_⟩; clear hK K)
          refine wpQuiet_nil ?_
          intro wE bE
          have BE : Hid (Below wr.heap.size wr wE) := BD.out.trans (bE.mono BD.out.size)
          clear bE H
          by_cases hn5 : 4 < nn
          · have g5 : decide ((4 : Int) < (nn : Int)) = true := by simp; omega
            have g5' : decide (4 < nn) = true := by simp; omega
            obtain ⟨pn, hpn⟩ : ∃ pn, nn - 1 = pn := ⟨_, rfl⟩
            have hwn : IntKind.i64.wrap ((nn : Int) - 1) = (pn : Int) := by have := HN4.out; rw [IntKind.wrap_i64]; omega
            have M2 := HMany.out nn HSh.out hn5
            rw [hpn] at M2
            have F2 := HFt.out pn (by have := HN4.out; omega)
            obtain ⟨S1, hS1⟩ : ∃ S1, strOfNums ((hx x).take pn) = S1 := ⟨_, rfl⟩
            rw [hS1] at F2
            rw [← F2.ns] at M2
            have hma2 := HMa.out wE S1 z20 9 BE.out (by rw [F2.sz]; omega) (by rw [F2.sz]; have := HN4.out; omega) F2.sg M2
            have hless := ft_less HF.out F2 (by omega)
            have HLess : Hid _ := hless
            clear M2 F2 hS1 hpn hless hn5
            go_wp2_with (refine wpList_sl9 rfl _ _ rfl (.string S) (.int .i64 pn) rfl rfl (.string S1) HLess.out ?_)
            refine hma2.mono ?_
            rintro e wF ⟨rfl, bF⟩
            have BF : Hid (Below wr.heap.size wr wF) := BE.out.trans (bF.mono BE.out.size)
            have hzF := z_row wF 23
            have HG' : Hid (∀ wG, Fr (fun i => i = wF.heap.size) (wF.alloc (Obj.cells zcs 23)) wG → Below wr.heap.size wr wG) := fun wG f => BF.out.trans ((st_new (w := wF) f).mono BF.out.size)
            clear hma2 bF
            go_wp2_with (refine wpList_st rfl 23 _ _ rfl wF.heap.size rfl (cl z20) rfl hzF size23 (fun j => rfl) ?_; intro wG rG fG; clear hzF; have BG : Hid _ := HG'.out wG fG; clear rG fG)
            exact ⟨⟨k + 1, by simp, HKm.out, JB.out.trans (BG.out.mono JB.out.size)⟩, by simp [intOf]; have := HKm.out; omega⟩
          · have g5 : decide ((4 : Int) < (nn : Int)) = false := by simp; omega
            have g5' : decide (4 < nn) = false := by simp; omega
            clear hn5
            go_wp2_with fail
            exact ⟨⟨k + 1, by simp, HKm.out, JB.out.trans (BE.out.mono JB.out.size)⟩, by simp [intOf]; have := HKm.out; omega⟩
        · have hqk : ¬ (k : Int) < (m : Int) := by omega
          go_wp2_with fail
          go_ret
          exact ⟨rfl, B5.out.trans (JB.out.mono B5.out.size)⟩

end Go.Proofs.YtmjcikomcnokkaaDoor
