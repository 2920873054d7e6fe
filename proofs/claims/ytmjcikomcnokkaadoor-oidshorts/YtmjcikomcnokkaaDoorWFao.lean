/- oid.Fanout of any row. -/
import Derived.Test.YtmjcikomcnokkaaDoorWFan
namespace Go.Proofs.YtmjcikomcnokkaaDoor
open Go.RowKit

set_option maxRecDepth 100000 in
set_option maxHeartbeats 2000000 in
theorem fan_wide (ao : Option Addr) (c n : Nat) (d : Array (List Int)) (w : World) (hids : ∀ i, i < n → IsId d[i]!) (hp0 : 0 < n → ∃ b, ao = some ⟨b, 0, none⟩ ∧ ∀ W, Below w.heap.size w W → ∀ i, i < n → (loadVar 23 ⟨b, i * 20, none⟩).run Tryd.prog W = .ok (idv d[i]!) W) (hsz : n < 100000) :
    Calls Tryd.prog 18 #[.slice ao n c] w fun e w' => e = .returned (row (fun j => .int .i64 (cs d n j)) 256) ∧ Below w.heap.size w w' := by
  have z41 := zero41
  have hza : ∀ (w : World) o, (w.alloc o).heap.size = w.heap.size + 1 := fun w o => by simp
  have r0 := rowIs_vals w (fun _ => .int .i64 0) 256 41
  obtain ⟨w1, hw1⟩ : ∃ w1, w.alloc (.cells (vals (fun _ => .int .i64 0) 256).toArray 41) = w1 := ⟨_, rfl⟩
  have b1 : Below w.heap.size w w1 := by rw [← hw1]; exact new_below _ _
  have e1 : w1.heap.size = w.heap.size + 1 := by rw [← hw1]; exact hza _ _
  rw [hw1] at r0
  have r1 := rowIs_vals w1 (fun _ => .int .i64 0) 256 41
  obtain ⟨w2, hw2⟩ : ∃ w2, w1.alloc (.cells (vals (fun _ => .int .i64 0) 256).toArray 41) = w2 := ⟨_, rfl⟩
  have b2 : Below w1.heap.size w1 w2 := by rw [← hw2]; exact new_below _ _
  rw [hw2, e1] at r1
  have R0 : Hid (w2.rowIs w.heap.size 41 256 (fun _ => .int .i64 0)) := rowIs_fr (P := fun _ => False) r0 (Fr.ofBelow b2) (fun h => h)
  have R1 : Hid (w2.rowIs (w.heap.size + 1) 41 256 (fun j => .int .i64 (c1 d 0 j))) := r1
  have HB : Hid (Below w.heap.size w w2) := b1.trans (b2.mono b1.size)
  have HE : Hid (w2.heap.size = w.heap.size + 2) := by rw [← hw2, hza, e1]; rfl
  have HPP : Hid (0 < n → ∃ b, ao = some ⟨b, 0, none⟩ ∧ ∀ W, Below w.heap.size w W → ∀ i, i < n → (loadVar 23 ⟨b, i * 20, none⟩).run Tryd.prog W = .ok (idv d[i]!) W) := hp0
  have HID : Hid (∀ i, i < n → IsId d[i]!) := hids
  have HW : Hid ((w.alloc (.cells (vals (fun _ => .int .i64 0) 256).toArray 41)).alloc (.cells (vals (fun _ => .int .i64 0) 256).toArray 41) = w2) := by rw [hw1]; exact hw2
  clear r0 r1 b1 b2 e1 hw1 hw2 hza hp0 hids
  go_enter Tryd.func18, Tryd.ntmps18
  go_wp2_with fail
  rw [HW.out]
  go_loopw [9] (fun s9 wr => ∃ k : Nat, s9 = .int .i64 k ∧ k ≤ n ∧ Hid (wr.rowIs (w.heap.size + 1) 41 256 (fun j => .int .i64 (c1 d k j))) ∧ Hid (wr.rowIs w.heap.size 41 256 (fun _ => .int .i64 0)) ∧ Hid (Below w.heap.size w wr))
    (fun s9 _ => n - (intOf s9).toNat)
  case atStart => exact ⟨0, rfl, Nat.zero_le _, R1, R0, HB⟩
  case round =>
    obtain ⟨k, rfl, hkn, H1, H0, HBr⟩ := hrel
    clear R0 R1 HB HE HW
    by_cases hlt : k < n
    · have hq : (k : Int) < (n : Int) := by omega
      obtain ⟨b, rfl, hld0⟩ := HPP.out (by omega)
      have hld := hld0 wr HBr.out k hlt
      clear hld0 HPP
      have hid := HID.out k hlt
      have HC : Hid (∀ j : Int, c1 d (k + 1) j = c1 d k j + if bt d[k]! 0 = j then 1 else 0) := fun j => rfl
      obtain ⟨x, hx⟩ : ∃ x, d[k]! = x := ⟨_, rfl⟩
      rw [hx] at hld hid HC
      clear hx
      have hb0 := hid.at 0 (by omega)
      obtain ⟨p, hp⟩ : ∃ p : Nat, bt x 0 = p := ⟨(bt x 0).toNat, by omega⟩
      have hp2 : p < 256 := by omega
      have HP : Hid (bt x 0 = p) := hp
      have hcb := c1_b d k p
      have HT : Hid (∀ w3, Fr (fun i => i = wr.heap.size) (wr.alloc (Obj.cells zcs 23)) w3 → w3.rowIs (w.heap.size + 1) 41 256 (fun j => .int .i64 (c1 d k j)) ∧ w3.rowIs w.heap.size 41 256 (fun _ => .int .i64 0) ∧ Below w.heap.size w w3) := fun w3 f3 => by
        have n1 := H1.out.lt
        have n0 := H0.out.lt
        have ba := st_new (w := wr) f3
        exact ⟨rowIs_fr (P := fun _ => False) H1.out (Fr.ofBelow ba) (fun h => h), rowIs_fr (P := fun _ => False) H0.out (Fr.ofBelow ba) (fun h => h), HBr.out.trans (ba.mono HBr.out.size)⟩
      obtain ⟨q, hqe⟩ : ∃ q, c1 d k p = q := ⟨_, rfl⟩
      have HQ : Hid (c1 d k p = q) := hqe
      rw [hqe] at hcb
      have hwq : IntKind.i64.wrap (q + 1) = q + 1 := by rw [IntKind.wrap_i64]; omega
      have hwq' : wrap64 (q + 1) = q + 1 := IntWalk.wrap64_in _ (by omega)
      have hwk : IntKind.i64.wrap ((k : Int) + 1) = (k : Int) + 1 := by rw [IntKind.wrap_i64]; omega
      have hz := z_row wr 23
      have HLT : Hid (k < n) := hlt
      clear hp hb0 hqe H1 H0 HBr hid hcb hkn
      go_wp2_with (first
        | (refine wpList_ldv rfl 23 _ rfl ⟨b, k * 20, none⟩ rfl (idv x) hld ?_; clear hld)
        | (refine wpList_st rfl 23 _ _ rfl wr.heap.size rfl (cl x) rfl hz size23 (fun j => rfl) ?_; intro w3 r3 f3; clear hz; obtain ⟨T1, T0, TB⟩ := HT.out w3 f3; have c0 : w3.cell? ⟨wr.heap.size, 0, none⟩ = some (.int .u8 (p : Int)) := (by rw [r3.cell (i := 0) (by omega)]; show some (Value.int .u8 (bt x 0)) = _; rw [HP.out]); have cp : w3.cell? ⟨w.heap.size + 1, p, none⟩ = some (.int .i64 q) := (by rw [T1.cell (i := p) hp2, HQ.out]); have fz := T1.frozen p; have G1 : Hid _ := T1; have G0 : Hid _ := T0; have GB : Hid _ := TB; clear r3 f3 T1 T0 TB HT))
      refine ⟨⟨k + 1, by simp, HLT.out, ?_, ?_, ?_⟩, by simp [intOf]; have := HLT.out; omega⟩
      · exact set_row G1.out p _ (fun j hj => by
          rw [HC.out, HP.out]
          by_cases e : j = p
          · subst e
            rw [if_pos rfl, if_pos rfl, HQ.out]
          · rw [if_neg (by omega), if_neg e, Int.add_zero])
      · exact rowIs_fr G0.out (set_fr _ _ _ _) (by omega)
      · exact GB.out.trans ((set_fr w3 (w.heap.size + 1) p (.int .i64 (q + 1))).below _ GB.out.size (fun i hi => by omega))
    · obtain rfl : k = n := by omega
      have hq : ¬ (k : Int) < (k : Int) := by omega
      have F1 : Hid (wr.rowIs (w.heap.size + 1) 41 256 (fun j => .int .i64 (fo d k 1 j))) := H1.out.congr (fun j hj => by
        unfold fo
        by_cases e : j < 1
        · obtain rfl : j = 0 := by omega
          rw [if_pos e]
          exact congrArg _ (cs_zero d k (fun i hi => ((HID.out i hi).at 0 (by omega)).1)).symm
        · rw [if_neg e])
      clear H1 HPP
      go_wp2_with fail
      go_loopw [6] (fun s6 wq => ∃ i : Nat, s6 = .int .i64 i ∧ 1 ≤ i ∧ i ≤ 256 ∧ Hid (wq.rowIs (w.heap.size + 1) 41 256 (fun j => .int .i64 (fo d k i j))) ∧ Hid (wq.rowIs w.heap.size 41 256 (fun _ => .int .i64 0)) ∧ Hid (Below w.heap.size w wq))
        (fun s6 _ => 256 - (intOf s6).toNat)
      case atStart => exact ⟨1, rfl, Nat.le_refl _, by omega, F1, H0, HBr⟩
      case round =>
        obtain ⟨i, rfl, hi1, hi2, I1, I0, IB⟩ := hrel
        clear F1 H0 HBr HID
        by_cases hi : i < 256
        · have hqi : (i : Int) < 256 := by omega
          obtain ⟨p, hp⟩ : ∃ p, i = p + 1 := ⟨i - 1, by omega⟩
          have hsub : IntKind.i64.wrap ((i : Int) - 1) = (p : Int) := by rw [IntKind.wrap_i64]; omega
          have hsub' : wrap64 ((i : Int) - 1) = (p : Int) := by rw [IntWalk.wrap64_in _ (by omega)]; omega
          have hp2 : p < 256 := by omega
          have cA := I1.out.cell (i := i) hi
          have cB := I1.out.cell (i := p) hp2
          have fz := I1.out.frozen i
          have eA : fo d k i i = c1 d k i := by unfold fo; rw [if_neg (Nat.lt_irrefl _)]
          have eB : fo d k i p = cs d k p := by unfold fo; rw [if_pos (by omega)]
          simp only [eA, eB] at cA cB
          have hstep := cs_step d k p
          have bA := c1_b d k i
          have bB := cs_b d k p
          have HS : Hid (cs d k i = cs d k p + c1 d k i) := by
            have : ((i : Nat) : Int) = p + 1 := by omega
            rw [this]; exact hstep
          obtain ⟨qa, hqa⟩ : ∃ qa, c1 d k i = qa := ⟨_, rfl⟩
          obtain ⟨qb, hqb⟩ : ∃ qb, cs d k p = qb := ⟨_, rfl⟩
          rw [hqa] at cA bA HS
          rw [hqb] at cB bB HS
          have hwq : IntKind.i64.wrap (qa + qb) = qa + qb := by rw [IntKind.wrap_i64]; omega
          have hwq' : wrap64 (qa + qb) = qa + qb := IntWalk.wrap64_in _ (by omega)
          have hwi : IntKind.i64.wrap ((i : Int) + 1) = (i : Int) + 1 := by rw [IntKind.wrap_i64]; omega
          have HIi : Hid (i < 256 ∧ 1 ≤ i) := ⟨hi, hi1⟩
          have J1 : Hid ((wr.setCell ⟨w.heap.size + 1, i, none⟩ (.int .i64 (qa + qb))).drew.rowIs (w.heap.size + 1) 41 256 (fun j => .int .i64 (fo d k (i + 1) j))) := rowIs_fr (P := fun _ => False) (set_row I1.out i _ (fun j hj => by
            unfold fo
            by_cases e : j = i
            · subst e
              rw [if_pos (Nat.lt_succ_self _), if_pos rfl, HS.out, Int.add_comm]
            · rw [if_neg e]
              by_cases e2 : j < i
              · rw [if_pos e2, if_pos (by omega)]
              · rw [if_neg e2, if_neg (by omega)])) (Fr.refl _ _).drew (fun h => h)
          have J0 : Hid ((wr.setCell ⟨w.heap.size + 1, i, none⟩ (.int .i64 (qa + qb))).drew.rowIs w.heap.size 41 256 (fun _ => .int .i64 0)) := rowIs_fr I0.out (set_fr wr (w.heap.size + 1) i _).drew (by omega)
          have JB : Hid (Below w.heap.size w (wr.setCell ⟨w.heap.size + 1, i, none⟩ (.int .i64 (qa + qb))).drew) := IB.out.trans ((set_fr wr (w.heap.size + 1) i _).drew.below _ IB.out.size (fun i hi => by omega))
          clear hp eA eB hstep bA bB hqa hqb I1 I0 IB hi1 hi2 hq hsz hkn hlt
          go_wp2_with fail
          go_region
          go_wp2_with fail
          go_roundw
          case rel => exact ⟨i + 1, by simp, by omega, by have := HIi.out; omega, J1, J0, JB⟩
          case measure => simp [intOf]; have := HIi.out; omega
        · obtain rfl : i = 256 := by omega
          have hqi : ¬ ((256 : Nat) : Int) < 256 := by omega
          have HBq : Hid (Below w.heap.size w wr) := IB
          have r1 := I1.out
          have r0 := I0.out
          have HR : Hid (∀ j, j < 256 → fo d k 256 j = cs d k j) := fun j hj => by unfold fo; rw [if_pos hj]
          clear I1 I0 IB
          go_wp2_with (first
            | (refine wpList_ld0 rfl 41 _ rfl (w.heap.size + 1) rfl _ r1 256 (by omega) Tryd.underlying41 rfl size41 ?_)
            | (refine wpList_st rfl 41 _ _ rfl w.heap.size rfl (fun j => .int .i64 (fo d k 256 j)) rfl r0 size41 (fun j => rfl) ?_; intro w5 r5 f5))
          refine bodyPost_ret (results_row rfl _ rfl r5 Tryd.underlying41 rfl size41) rfl ⟨?_, HBq.out.trans (f5.below _ HBq.out.size (fun i hi => by omega))⟩
          rw [row_congr _ (fun j => .int .i64 (cs d k j)) 256 (fun j hj => by rw [HR.out j hj])]

/-- Fanout of any row. -/
theorem fan_any (B : Nat) (v : Value) (d : Array (List Int)) (w : World) (h : Nw B w v d) (hsz : d.size < 100000) :
    Calls Tryd.prog 18 #[v] w fun e w' => e = .returned (row (fun j => .int .i64 (cs d d.size j)) 256) ∧ Below w.heap.size w w' := by
  rcases h with ⟨h0, ao, c, rfl⟩ | ⟨h0, b, c, rfl, _, _, hr⟩
  · rw [h0]
    exact fan_wide ao c 0 d w (fun i hi => by omega) (fun h => by omega) (by omega)
  · exact fan_wide _ c d.size d w (fun i hi => hr.ids i hi) (fun _ => ⟨b, rfl, fun W hW i hi => (hr.keep hW).load i hi⟩) hsz

end Go.Proofs.YtmjcikomcnokkaaDoor
