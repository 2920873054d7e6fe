/- WCompact, WSort, ObE. -/
import Derived.Test.YtojgablpjdlegaaGreatDoorM08
import Derived.Test.YtojgablpjdlegaaGreatDoorM06
import Derived.Test.YtojgablpjdlegaaGreatDoorM07
/- slices.Compact. -/
namespace Go.Proofs.YtojgablpjdlegaaGreatDoor
open Go.RowKit

/-- A row, each once where it stands beside itself. -/
def cpt : List (List Int) → List (List Int)
  | [] => []
  | [x] => [x]
  | x :: y :: r => if x = y then cpt (y :: r) else x :: cpt (y :: r)

theorem cpt_snoc : ∀ (l : List (List Int)) (z y : List Int), cpt ((l ++ [z]) ++ [y]) = if z = y then cpt (l ++ [z]) else cpt (l ++ [z]) ++ [y]
  | [], z, y => by
    by_cases h : z = y
    · simp [cpt, h]
    · simp [cpt, h]
  | [x], z, y => by
    have i := cpt_snoc [] z y
    simp only [List.nil_append] at i
    show cpt (x :: ([z] ++ [y])) = if z = y then cpt (x :: [z]) else cpt (x :: [z]) ++ [y]
    have e1 : cpt (x :: ([z] ++ [y])) = if x = z then cpt ([z] ++ [y]) else x :: cpt ([z] ++ [y]) := rfl
    have e2 : cpt (x :: [z]) = if x = z then cpt [z] else x :: cpt [z] := rfl
    rw [e1, e2, i]
    by_cases h : x = z <;> by_cases g : z = y <;> simp [h, g]
  | x :: x2 :: r, z, y => by
    have i := cpt_snoc (x2 :: r) z y
    have e1 : cpt ((x :: x2 :: r ++ [z]) ++ [y]) = if x = x2 then cpt ((x2 :: r ++ [z]) ++ [y]) else x :: cpt ((x2 :: r ++ [z]) ++ [y]) := rfl
    have e2 : cpt (x :: x2 :: r ++ [z]) = if x = x2 then cpt (x2 :: r ++ [z]) else x :: cpt (x2 :: r ++ [z]) := rfl
    rw [e1, e2, i]
    by_cases h : x = x2 <;> by_cases g : z = y <;> simp [h, g]

theorem take_one (d : Array (List Int)) (m : Nat) (hm : m < d.size) : d.toList.take (m + 1) = d.toList.take m ++ [d[m]!] := by
  rw [List.take_add_one, List.getElem?_eq_getElem (by simpa using hm), getElem!_pos d m hm]
  simp

theorem cpt_take (d : Array (List Int)) (m : Nat) (h1 : 1 ≤ m) (hm : m < d.size) : cpt (d.toList.take (m + 1)) = if d[m - 1]! = d[m]! then cpt (d.toList.take m) else cpt (d.toList.take m) ++ [d[m]!] := by
  rw [take_one d m hm]
  have e := take_one d (m - 1) (by omega)
  rw [show m - 1 + 1 = m by omega] at e
  rw [e, cpt_snoc]

theorem cpt_len : ∀ l : List (List Int), (cpt l).length ≤ l.length
  | [] => Nat.le_refl _
  | [x] => Nat.le_refl _
  | x :: y :: r => by
    have := cpt_len (y :: r)
    rw [cpt]
    split
    · simp at this ⊢; omega
    · simp at this ⊢; omega

theorem Rw.loadAt {w : World} {b N : Nat} {d : Array (List Int)} (h : Rw w b N d) (i o : Nat) (hi : i < d.size) (ho : o = i * 20) : (loadVar 27 ⟨b, o, none⟩).run Tryz.prog w = .ok (idv d[i]!) w := by
  rw [ho]; exact h.load i hi

theorem toArray_take (d : Array (List Int)) (k : Nat) : (d.extract 0 k).toList = d.toList.take k := by simp

theorem run_ixa (b o n c i : Nat) (e : Int) (he : e = i) (hi : i < n) (w : World) : (Instr.indexAt 157 (.slice (some ⟨b, o, none⟩) n c) (.int .i64 e)).run Tryz.prog w = .ok (.pointer (some ⟨b, o + i * 20, none⟩)) w := by
  have hz : ∀ w, (sizeOf 27).run Tryz.prog w = .ok 20 w := fun w => by simp [go_sem]
  subst he
  simp [Instr.indexAt, asIntOf, run_underlying Tryz.underlying157, hz, hi, Addr.add_lit]

theorem q_ixa {ops : Array Oper} {op : Oper} {a : Act} {C : World → Prop} {K : Act → Prop} {E : Prop} (hw : Region.wanted op (yielded ops a.tmps) = true) (x y : Operand) (ho : op.op = .indexAddr 157 x y) (b o n c i p : Nat) (e : Int) (hx : a.eval x = .slice (some ⟨b, o, none⟩) n c) (hy : a.eval y = .int .i64 e)
    (he : e = i) (hi : i < n) (hp : p = o + i * 20) (hk : K (a.put op.dst (.pointer (some ⟨b, p, none⟩)))) : if Region.wanted op (yielded ops a.tmps) = true then op.quiet Tryz.prog a C K else E := by
  rw [if_pos hw]
  subst hp
  refine ⟨_, fun w _ => ?_, hk⟩
  have h := run_ixa b o n c i e he hi w
  unfold Oper.quietAt execOp
  simp only [ho, hx, hy]
  simp [h, Oper.quietUpon]

theorem wpList_ixa {ops : Array Oper} {rest : List Oper} {op : Oper} {a : Act} {w : World} {Q : Exit → Act → World → Prop} (hgd : op.guard = none) (x y : Operand) (ho : op.op = .indexAddr 157 x y) (b o n c i p : Nat) (e : Int) (hx : a.eval x = .slice (some ⟨b, o, none⟩) n c) (hy : a.eval y = .int .i64 e)
    (he : e = i) (hi : i < n) (hp : p = o + i * 20) (hk : wpList Tryz.prog ops Q rest (a.put op.dst (.pointer (some ⟨b, p, none⟩))) w) : wpList Tryz.prog ops Q (op :: rest) a w := by
  refine wpList_plain hgd fun K hK => ?_
  subst hp
  have h := run_ixa b o n c i e he hi w
  unfold Oper.wp
  simp only [execOp, ho, hx, hy, Sem.run_bind, h, Result.andThen_ok, Sem.run_pure]
  exact hK _ _ hk

theorem wpList_ldv {ops : Array Oper} {rest : List Oper} {op : Oper} {a : Act} {w : World} {Q : Exit → Act → World → Prop} (hgd : op.guard = none) (ty : TypeId) (x : Operand) (ho : op.op = .load ty x)
    (ad : Addr) (hx : a.eval x = .pointer (some ad)) (v : Value) (hr : (loadVar ty ad).run Tryz.prog w = .ok v w)
    (hk : wpList Tryz.prog ops Q rest (a.put op.dst v) w) : wpList Tryz.prog ops Q (op :: rest) a w := by
  refine wpList_plain hgd fun K hK => ?_
  unfold Oper.wp execOp
  simp only [ho, hx, Instr.loadAt, Instr.sureAddr, Sem.run_bind, Sem.run_pure, Result.andThen_ok, hr]
  exact hK _ _ hk

theorem wpList_stv {ops : Array Oper} {rest : List Oper} {op : Oper} {a : Act} {w : World} {Q : Exit → Act → World → Prop} (hgd : op.guard = none) (x y : Operand) (ho : op.op = .store 27 x y)
    (b o : Nat) (hx : a.eval x = .pointer (some ⟨b, o, none⟩)) (z : List Int) (hy : a.eval y = idv z) (ht : w.there b o 20) (w' : World) (hw' : w.setCells b o (vals (cl z) 20) = w')
    (hk : wpList Tryz.prog ops Q rest (a.put op.dst undef) w') : wpList Tryz.prog ops Q (op :: rest) a w := by
  subst hw'
  exact wpList_store_mid hgd 27 x y ho b o (vals (cl z) 20).toArray hx hy (by rw [vals_size]; exact ht) (by rw [vals_size]; exact size23) (vals_one (cl z) 20 (fun _ => rfl)) hk

theorem To.set {b N : Nat} {w w' : World} {d' : Array (List Int)} (h : To b N w d' w') (i : Nat) (hi : i < d'.size) (z : List Int) (hz : IsId z) : w'.there b (i * 20) 20 ∧ ∃ w'', w'.setCells b (i * 20) (vals (cl z) 20) = w'' ∧ To b N w (d'.setIfInBounds i z) w'' :=
  ⟨h.rw.there i hi, _, rfl, ⟨(h.rw.set i z hz).1, h.fr.trans (h.rw.set i z hz).2 (fun _ _ e => e)⟩⟩

theorem take_set (d : Array (List Int)) (q : Nat) (z : List Int) (hq : q < d.size) : (d.setIfInBounds q z).toList.take (q + 1) = d.toList.take q ++ [z] := by
  rw [take_one _ q (by simpa using hq), sib_get d q q z hq, if_pos rfl]
  congr 1
  rw [Array.toList_setIfInBounds, List.take_set, List.set_eq_of_length_le (by simp; omega)]

set_option maxHeartbeats 4000000 in
set_option maxRecDepth 100000 in
theorem compact_any (b c n : Nat) (d : Array (List Int)) (w : World) (h : Rw w b (c * 20) d) (hn : d.size = n) (hc : n ≤ c) (hlim : n ≤ 100000) :
    Calls Tryz.prog 94 #[sl b n c] w fun e w' => ∃ m d', e = .returned (sl b m c) ∧ d'.size = m ∧ d'.toList = cpt d.toList ∧ To b (c * 20) w d' w' := by
  have HN : Hid (d.size = n) := hn
  have HT : Hid (To b (c * 20) w d w) := To.refl h
  clear h hn
  by_cases h2 : n < 2
  · have e : Hid (cpt d.toList = d.toList) := by
      have hl : d.toList.length = n := by simpa using HN.out
      match hd : d.toList, hl with
      | [], _ => exact rfl
      | [x], _ => exact rfl
      | x :: y :: r, hl => simp at hl; omega
    go_enter Tryz.func94, Tryz.ntmps94
    go_wp2
    go_ret
    exact ⟨n, d, rfl, HN.out, e.out.symm, HT.out⟩
  · go_enter Tryz.func94, Tryz.ntmps94
    go_wp2
    go_loopw [3] (fun vk wr => ∃ k : Nat, vk = .int .i64 ((k : Int) + 1) ∧ k + 1 ≤ n ∧ Hid (cpt (d.toList.take (k + 1)) = d.toList.take (k + 1)) ∧ Hid (To b (c * 20) w d wr)) (fun vk _ => n - (intOf vk).toNat)
    case atStart => exact ⟨0, rfl, by omega, (by
      have : d.toList.take 1 = [d[0]!] := by rw [take_one d 0 (by rw [HN.out]; omega)]; rfl
      rw [this]; exact rfl), HT⟩
    case round =>
      obtain ⟨k, rfl, hkn, HC, HK⟩ := hrel
      clear HT
      by_cases hlt : k + 1 < n
      · have hkz : (k : Int) + 1 < (n : Int) := by omega
        have hkz2 : (k : Int) < (n : Int) := by omega
        have hkn2 : k < n := by omega
        have hwk : IntKind.i64.wrap (k : Int) = k := wraps_i64 _ (by omega) (by omega)
        have H : Hid (∀ W, Below wr.heap.size wr W → (loadVar 27 ⟨b, (k + 1) * 20, none⟩).run Tryz.prog W = .ok (idv d[k + 1]!) W ∧ (loadVar 27 ⟨b, k * 20, none⟩).run Tryz.prog W = .ok (idv d[k]!) W) := fun W hW =>
          ⟨(HK.out.rw.keep hW).load (k + 1) (by rw [HN.out]; omega), (HK.out.rw.keep hW).load k (by rw [HN.out]; omega)⟩
        have he := fun W => eql_ids 27 Tryz.underlying27 (HK.out.rw.ids (k + 1) (by rw [HN.out]; omega)) (HK.out.rw.ids k (by rw [HN.out]; omega)) W
        have HKt := cpt_take d (k + 1) (by omega) (by rw [HN.out]; omega)
        rw [Nat.add_sub_cancel] at HKt
        obtain ⟨x, hx⟩ : ∃ x, d[k + 1]! = x := ⟨_, rfl⟩
        obtain ⟨y, hy⟩ : ∃ y, d[k]! = y := ⟨_, rfl⟩
        rw [hx, hy] at H he HKt
        have HX : Hid (d[k + 1]! = x ∧ d[k]! = y) := ⟨hx, hy⟩
        have HT2 : Hid _ := HKt
        clear HKt hx hy
        obtain ⟨v, hv⟩ : ∃ v, decide (x = y) = v := ⟨_, rfl⟩
        rw [hv] at he
        have HV : Hid (decide (x = y) = v) := hv
        clear hv
        go_wp2_with fail
        refine wp_region_quiet (C := fun W => Below wr.heap.size wr W) (by kernel_rfl) (by kernel_rfl) (Below.refl _ _).drew ?_
        repeat
          refine wpQuiet_step (fun K hK => ?_)
          first
            | (refine q_ixa (by rfl) _ _ rfl b 0 n c (k + 1) ((k + 1) * 20) _ rfl rfl (by omega) hlt (by omega) (hK _ ?_); clear hK K)
            | (refine q_ixa (by rfl) _ _ rfl b 0 n c k (k * 20) _ rfl rfl (by omega) hkn2 (by omega) (hK _ ?_); clear hK K)
            | (refine q_load (by rfl) 27 _ rfl ⟨b, (k + 1) * 20, none⟩ rfl (idv x) (fun W hW => (H.out W hW).1) (hK _ ?_); clear hK K)
            | (refine q_load (by rfl) 27 _ rfl ⟨b, k * 20, none⟩ rfl (idv y) (fun W hW => (H.out W hW).2) (hK _ ?_); clear hK K)
            | (go_simp; refine ⟨_, fun wq hs => rfl, hK _ ?_⟩; clear hK K)
        refine wpQuiet_nil ?_
        intro w1 hB1
        have HB1 : Hid (To b (c * 20) w d w1) := HK.out.keep hB1
        clear H he hB1 HK
        cases v with
        | false =>
          have hne : ¬ y = x := fun e => by have := of_decide_eq_false HV.out; exact this e.symm
          have HC2 : Hid (cpt (d.toList.take (k + 1 + 1)) = d.toList.take (k + 1 + 1)) := by
            rw [HT2.out, if_neg hne, HC.out, ← HX.out.1]
            exact (take_one d (k + 1) (by rw [HN.out]; omega)).symm
          clear HC HT2 HV HX hne
          go_wp2
          go_roundw
          case rel => exact ⟨k + 1, by go_num, by omega, HC2, HB1⟩
          case measure => simp [intOf]; omega
        | true =>
          have hyx : y = x := (of_decide_eq_true HV.out).symm
          have HC2 : Hid (d.toList.take (k + 1) = cpt (d.toList.take (k + 1 + 1))) := by
            rw [HT2.out, if_pos hyx, HC.out]
            exact rfl
          have hcut := fun W => run_cut W b n c (k + 1) (by omega) (by omega)
          rw [show ((k + 1 : Nat) : Int) = (k : Int) + 1 by omega] at hcut
          have HIds : Hid (∀ i, i < n → IsId d[i]!) := fun i hi => HB1.out.rw.ids i (by rw [HN.out]; exact hi)
          clear HC HT2 HV HX hyx hwk
          go_wp2
          go_loopw [3, 5] (fun vk vj w2 => ∃ (q j : Nat) (dk : Array (List Int)), vk = .int .i64 q ∧ vj = .int .i64 ((j : Int) + 1) ∧ k + 1 + j + 1 ≤ n ∧ q ≤ k + 1 + j ∧ Hid (dk.size = n) ∧ Hid (∀ i, k + 1 + j ≤ i → i < n → dk[i]! = d[i]!) ∧ Hid (dk.toList.take q = cpt (d.toList.take (k + 1 + j + 1))) ∧ Hid (To b (c * 20) w dk w2)) (fun _ vj _ => n - (intOf vj).toNat)
          case atStart => exact ⟨k + 1, 0, d, by go_num, rfl, by omega, by omega, HN, (fun i _ _ => rfl), HC2, HB1⟩
          case round =>
            obtain ⟨q, j, dk, rfl, rfl, hj, hq, HS, HO, HP, HT2⟩ := hrel
            clear HB1 HC2 hcut
            by_cases hjl : k + 1 + j + 1 < n
            · have hj2 : (j : Int) + 1 < ((n - (k + 1) : Nat) : Int) := by omega
              have hj1 : j + 1 < n - (k + 1) := by omega
              have hj0 : j < n - (k + 1) := by omega
              have hwj : IntKind.i64.wrap (j : Int) = j := wraps_i64 _ (by omega) (by omega)
              have eA := HO.out (k + 1 + j + 1) (by omega) (by omega)
              have eB := HO.out (k + 1 + j) (by omega) (by omega)
              have H : Hid (∀ W, To b (c * 20) w dk W → (loadVar 27 ⟨b, (k + 1) * 20 + (j + 1) * 20, none⟩).run Tryz.prog W = .ok (idv d[k + 1 + j + 1]!) W ∧ (loadVar 27 ⟨b, (k + 1) * 20 + j * 20, none⟩).run Tryz.prog W = .ok (idv d[k + 1 + j]!) W) := fun W hW => by
                rw [← eA, ← eB]
                exact ⟨hW.rw.loadAt (k + 1 + j + 1) _ (by rw [HS.out]; omega) (by omega), hW.rw.loadAt (k + 1 + j) _ (by rw [HS.out]; omega) (by omega)⟩
              have he := fun W => eql_ids 27 Tryz.underlying27 (HIds.out (k + 1 + j + 1) (by omega)) (HIds.out (k + 1 + j) (by omega)) W
              have hset := fun W (hW : To b (c * 20) w dk W) => hW.set q (by rw [HS.out]; omega) d[k + 1 + j + 1]! (HIds.out (k + 1 + j + 1) (by omega))
              have HKt := cpt_take d (k + 1 + j + 1) (by omega) (by rw [HN.out]; omega)
              rw [Nat.add_sub_cancel] at HKt
              have HTS : Hid ((dk.setIfInBounds q d[k + 1 + j + 1]!).toList.take (q + 1) = dk.toList.take q ++ [d[k + 1 + j + 1]!]) := take_set dk q _ (by rw [HS.out]; omega)
              have HOS : Hid (∀ i, k + 1 + (j + 1) ≤ i → i < n → (dk.setIfInBounds q d[k + 1 + j + 1]!)[i]! = d[i]!) := fun i h1 h2 => by
                rw [sib_get dk q i _ (by rw [HS.out]; exact h2), if_neg (by omega)]
                exact HO.out i (by omega) h2
              have HSS : Hid ((dk.setIfInBounds q d[k + 1 + j + 1]!).size = n) := by rw [Array.size_setIfInBounds]; exact HS
              generalize hdk2 : dk.setIfInBounds q d[k + 1 + j + 1]! = dk2 at *
              generalize d[k + 1 + j + 1]! = x2 at *
              generalize d[k + 1 + j]! = y2 at *
              clear eA eB hdk2
              obtain ⟨v, hv⟩ : ∃ v, decide (x2 = y2) = v := ⟨_, rfl⟩
              rw [hv] at he
              have HV : Hid (decide (x2 = y2) = v) := hv
              have HKT : Hid _ := HKt
              have HST : Hid _ := hset
              clear hv HKt hset
              go_wp2_with fail
              refine wp_region_quiet (C := fun W => To b (c * 20) w dk W) (by kernel_rfl) (by kernel_rfl) HT2.out.drew ?_
              repeat
                refine wpQuiet_step (fun K hK => ?_)
                first
                  | (refine q_ixa (by rfl) _ _ rfl b ((k + 1) * 20) (n - (k + 1)) (c - (k + 1)) (j + 1) ((k + 1) * 20 + (j + 1) * 20) _ rfl rfl (by omega) hj1 rfl (hK _ ?_); clear hK K)
                  | (refine q_ixa (by rfl) _ _ rfl b ((k + 1) * 20) (n - (k + 1)) (c - (k + 1)) j ((k + 1) * 20 + j * 20) _ rfl rfl (by omega) hj0 rfl (hK _ ?_); clear hK K)
                  | (refine q_load (by rfl) 27 _ rfl ⟨b, (k + 1) * 20 + (j + 1) * 20, none⟩ rfl (idv x2) (fun W hW => (H.out W hW).1) (hK _ ?_); clear hK K)
                  | (refine q_load (by rfl) 27 _ rfl ⟨b, (k + 1) * 20 + j * 20, none⟩ rfl (idv y2) (fun W hW => (H.out W hW).2) (hK _ ?_); clear hK K)
                  | (go_simp; refine ⟨_, fun wq hs => rfl, hK _ ?_⟩; clear hK K)
              refine wpQuiet_nil ?_
              intro w3 hT3
              have HT3 : Hid (To b (c * 20) w dk w3) := hT3
              clear he hT3
              cases v with
              | true =>
                have HP2 : Hid (dk.toList.take q = cpt (d.toList.take (k + 1 + (j + 1) + 1))) := by
                  rw [show k + 1 + (j + 1) + 1 = k + 1 + j + 1 + 1 by omega, HKT.out, if_pos (of_decide_eq_true HV.out).symm]
                  exact HP
                have HO2 : Hid (∀ i, k + 1 + (j + 1) ≤ i → i < n → dk[i]! = d[i]!) := fun i h1 h2 => HO.out i (by omega) h2
                clear HV HKT HP HO H HST HTS HOS HSS
                go_wp2
                go_roundw
                case rel => exact ⟨q, j + 1, dk, rfl, by go_num, by omega, by omega, HS, HO2, HP2, HT3⟩
                case measure => simp [intOf]; omega
              | false =>
                have hne : ¬ y2 = x2 := fun e => by have := of_decide_eq_false HV.out; exact this e.symm
                have HP2 : Hid (dk2.toList.take (q + 1) = cpt (d.toList.take (k + 1 + (j + 1) + 1))) := by
                  rw [show k + 1 + (j + 1) + 1 = k + 1 + j + 1 + 1 by omega, HKT.out, if_neg hne, HTS.out, HP.out]
                  exact rfl
                obtain ⟨th, w4, hw4, hT4⟩ := HST.out w3 HT3.out
                have TH : Hid _ := th
                have HW4 : Hid _ := hw4
                have HT4 : Hid _ := hT4
                have l3 : Hid _ := (H.out w3 HT3.out).1
                have hqn : q < n := by omega
                clear hne HV HKT HP HO H HST HTS th hw4 hT4
                go_wp2_with (first
                  | (refine wpList_ixa rfl _ _ rfl b ((k + 1) * 20) (n - (k + 1)) (c - (k + 1)) (j + 1) ((k + 1) * 20 + (j + 1) * 20) _ rfl rfl (by omega) hj1 rfl ?_)
                  | (refine wpList_ixa rfl _ _ rfl b 0 n c q (q * 20) _ rfl rfl rfl hqn (by omega) ?_)
                  | (refine wpList_ldv rfl 27 _ rfl ⟨b, (k + 1) * 20 + (j + 1) * 20, none⟩ rfl (idv x2) l3.out ?_)
                  | (refine wpList_stv rfl _ _ rfl b (q * 20) rfl x2 rfl TH.out w4 HW4.out ?_))
                go_roundw
                case rel => exact ⟨q + 1, j + 1, dk2, by go_num, by go_num, by omega, by omega, HSS, HOS, HP2, HT4⟩
                case measure => simp [intOf]; omega
            · have hjn : k + 1 + j + 1 = n := by omega
              obtain ⟨w3, hcl, hrw3, hfr3⟩ := HT2.out.rw.clear (k := q) HS.out hc (by omega)
              have HA : Hid ((dk.extract 0 q).toList = cpt d.toList) := by
                have e : d.toList.take (k + 1 + j + 1) = d.toList := List.take_of_length_le (by have := HN.out; simp; omega)
                have := HP.out
                rw [e] at this
                rw [toArray_take]
                exact this
              have HZ : Hid ((dk.extract 0 q).size = q) := ext_size dk q (by rw [HS.out]; omega)
              have HT3 : Hid (To b (c * 20) w (dk.extract 0 q) w3) := ⟨hrw3, HT2.out.fr.trans hfr3 (fun _ _ e => e)⟩
              have hcut := fun W => run_cut W b n c q (by omega) (by omega)
              have hfro := fun W => run_front W b n c q (by omega) hc
              generalize dk.extract 0 q = d3 at *
              clear HP HO HS HT2 hrw3 hfr3 HIds
              go_wp2
              go_ret
              exact ⟨q, d3, rfl, HZ.out, HA.out, HT3.out⟩
      · obtain rfl : k + 1 = n := by omega
        have HA : Hid (d.toList = cpt d.toList) := by
          have e : d.toList.take (k + 1) = d.toList := List.take_of_length_le (by have := HN.out; simp; omega)
          have := HC.out
          rw [e] at this
          exact this.symm
        clear HC
        go_wp2
        go_ret
        exact ⟨k + 1, d, rfl, HN.out, HA.out, HK.out⟩

end Go.Proofs.YtojgablpjdlegaaGreatDoor

/- sort.Sort over a given pdqsort; row.sorted, Sort. -/
namespace Go.Proofs.YtojgablpjdlegaaGreatDoor
open Go.RowKit Go.Shelf

set_option maxHeartbeats 2000000 in
set_option maxRecDepth 100000 in
theorem pdq_small (b N c a e lim : Nat) (d : Array (List Int)) (w : World) (h : Rw w b N d) (hae : a ≤ e) (he : e ≤ d.size) (hsz : d.size < 1000000) (h12 : e - a ≤ 12) :
    Calls Tryz.prog 157 #[iv b d.size c, .int .i64 a, .int .i64 e, .int .i64 lim] w fun ee w' => ee = .returned (.tuple #[]) ∧ To b N w (Sort.insertionSort ltl d a e) w' := by
  have hi := ins_any b N c a e d w h hae he hsz
  have hz : (e : Int) - (a : Int) ≤ 12 := by omega
  have hw1 : IntKind.i64.wrap ((e : Int) - (a : Int)) = (e : Int) - (a : Int) := wraps_i64 _ (by omega) (by omega)
  generalize d.size = n at *
  generalize Sort.insertionSort ltl d a e = d2 at *
  clear h
  go_enter Tryz.func157, Tryz.ntmps157
  go_wp2_with fail
  go_loopw [1, 2] (fun v1 v2 wr => v1 = .int .i64 a ∧ v2 = .int .i64 e ∧ wr = w) (fun _ _ _ => 1)
  case atStart => exact ⟨rfl, rfl, rfl⟩
  case round =>
    obtain ⟨rfl, rfl, rfl⟩ := hrel
    go_wp2_with (go_at_call 183; refine hi.mono ?_; rintro ee w2 ⟨rfl, hT⟩)
    exact bodyPost_ret (results_none (by kernel_rfl) _ _ _) rfl ⟨rfl, hT⟩

/-- What is asked of pdqsort at a row of n names. -/
def Pdq (n : Nat) : Prop := ∀ (b N c : Nat) (d : Array (List Int)) (w : World) (lim : Nat), Rw w b N d → d.size = n → lim ≤ 100 →
  Calls Tryz.prog 157 #[iv b n c, .int .i64 0, .int .i64 n, .int .i64 lim] w fun e w' => e = .returned (.tuple #[]) ∧ ∃ d', Sort.PermIn 0 n d d' ∧ Sort.SortedIn ltl 0 n d' ∧ To b N w d' w'

theorem pdq_is_small (n : Nat) (h : n ≤ 12) : Pdq n := by
  intro b N c d w lim hr hn _
  have hs := Sort.insertionSort_holds (lt := ltl) ltl_swo d 0 n (by omega) (by omega)
  have := pdq_small b N c 0 n lim d w hr (by omega) (by omega) (by omega) (by omega)
  rw [hn] at this
  exact this.mono fun e w' ⟨h1, h2⟩ => ⟨h1, _, hs.1, hs.2, h2⟩

theorem bl_le (n : Nat) : Lib.bitLen n ≤ 100 := by
  have aux : ∀ f x, Lib.bitLenAux f x ≤ f := by
    intro f
    induction f with
    | zero => intro x; exact Nat.le_refl _
    | succ f ih =>
      intro x
      rw [Lib.bitLenAux]
      split
      · omega
      · have := ih (x / 2); omega
  have := aux 64 n
  unfold Lib.bitLen
  omega

set_option maxHeartbeats 2000000 in
set_option maxRecDepth 100000 in
theorem sort_any (n : Nat) (hP : Pdq n) (b N c : Nat) (d : Array (List Int)) (w : World) (h : Rw w b N d) (hn : d.size = n) (hlim : n ≤ 100000) :
    Calls Tryz.prog 122 #[iv b n c] w fun e w' => e = .returned (.tuple #[]) ∧ ∃ d', Sort.PermIn 0 n d d' ∧ Sort.SortedIn ltl 0 n d' ∧ To b N w d' w' := by
  have m0 := mLen b n c
  have hl := len_any (some ⟨b, 0, none⟩) n c w
  by_cases h1 : n ≤ 1
  · have H : Hid (∃ d', Sort.PermIn 0 n d d' ∧ Sort.SortedIn ltl 0 n d' ∧ To b N w d' w) := ⟨d, Sort.permIn_refl d 0 n, (fun i j h1 h2 h3 => by omega), To.refl h⟩
    have hz : (n : Int) ≤ 1 := by omega
    clear h hn
    go_enter Tryz.func122, Tryz.ntmps122
    go_wp2_with (go_at_call 234; refine hl.mono ?_; rintro e w' ⟨rfl, rfl⟩)
    exact bodyPost_ret (results_none (by kernel_rfl) _ _ _) rfl ⟨rfl, H.out⟩
  · have hp := hP b N c d w (Lib.bitLen n) h hn (bl_le n)
    have hb := Any.bits_Len Tryz.blen (n : Int) w (by omega) (by omega)
    change Calls Tryz.prog 156 _ w _ at hb
    rw [Int.toNat_natCast] at hb
    have hw1 : IntKind.u64.wrap (n : Int) = n := wraps_u64 _ (by omega) (by omega)
    have hz : ¬ (n : Int) ≤ 1 := by omega
    clear h hn
    generalize Lib.bitLen n = lim at *
    go_enter Tryz.func122, Tryz.ntmps122
    go_wp2_with (first
      | (go_at_call 234; refine hl.mono ?_; rintro e w' ⟨rfl, rfl⟩)
      | (go_at_call 156; refine hb.mono ?_; rintro e w' ⟨rfl, rfl⟩)
      | (go_at_call 157; refine hp.mono ?_; rintro e w2 ⟨rfl, hT⟩))
    go_end0
    exact ⟨rfl, hT⟩

/-- Rising, each once. -/
def Inc (l : List (List Int)) : Prop := l.Pairwise (fun x y => ltl x y = true)

theorem cpt_mem : ∀ (l : List (List Int)) (x : List Int), x ∈ cpt l ↔ x ∈ l
  | [], x => Iff.rfl
  | [y], x => Iff.rfl
  | y :: z :: r, x => by
    have i := cpt_mem (z :: r) x
    rw [cpt]
    split
    · rename_i h
      rw [i, h]
      simp
    · rw [List.mem_cons, i]
      exact List.mem_cons.symm

theorem cpt_inc : ∀ (l : List (List Int)), l.Pairwise (fun x y => ltl y x = false) → Inc (cpt l)
  | [], _ => List.Pairwise.nil
  | [y], _ => List.pairwise_singleton _ _
  | y :: z :: r, h => by
    have h2 := (List.pairwise_cons.1 h).2
    have i := cpt_inc (z :: r) h2
    rw [cpt]
    split
    · exact i
    · rename_i hne
      refine List.pairwise_cons.2 ⟨fun x hx => ?_, i⟩
      rw [cpt_mem] at hx
      have hyz := (List.pairwise_cons.1 h).1 z (by simp)
      cases hyz' : ltl y z with
      | false => exact absurd (ltl_total y z hyz' hyz) hne
      | true =>
        rcases List.mem_cons.1 hx with rfl | hx
        · exact hyz'
        · have hzx := (List.pairwise_cons.1 h2).1 x hx
          cases hyx : ltl y x with
          | true => rfl
          | false =>
            have := ltl_swo.ntrans y x z hyx hzx
            rw [hyz'] at this
            cases this

theorem sorted_pw (d : Array (List Int)) (h : Sort.SortedIn ltl 0 d.size d) : d.toList.Pairwise (fun x y => ltl y x = false) := by
  rw [List.pairwise_iff_getElem]
  intro i j hi hj hij
  have := h i j (by omega) hij (by simpa using hj)
  rw [getElem!_pos d i (by simpa using hi), getElem!_pos d j (by simpa using hj)] at this
  simpa using this

theorem perm_mem (d d' : Array (List Int)) (h : Sort.PermIn 0 d.size d d') (x : List Int) : x ∈ d'.toList ↔ x ∈ d.toList := by
  have := h.2.2
  have e1 : (d'.extract 0 d.size) = d' := by rw [← h.1]; simp
  rw [e1] at this
  simpa using this.mem_iff (a := x)

theorem perm_ids (d d' : Array (List Int)) (hm : ∀ x, x ∈ d'.toList → x ∈ d.toList) (h : ∀ i, i < d.size → IsId d[i]!) : ∀ i, i < d'.size → IsId d'[i]! := by
  intro i hi
  have h1 : d'[i]! ∈ d'.toList := by rw [getElem!_pos d' i hi]; simp
  have h2 := hm _ h1
  obtain ⟨j, hj, e⟩ := List.mem_iff_getElem.1 h2
  have := h j (by simpa using hj)
  rw [getElem!_pos d j (by simpa using hj)] at this
  rw [← e]
  simpa using this

/-- What Sort answers. -/
def Srt (d r : Array (List Int)) : Prop := Inc r.toList ∧ ∀ x, x ∈ r.toList ↔ x ∈ d.toList

set_option maxHeartbeats 2000000 in
set_option maxRecDepth 100000 in
theorem sorted_any (n : Nat) (hP : Pdq n) (ao : Option Addr) (c : Nat) (d : Array (List Int)) (w : World) (h : Is w (.slice ao n c) d) (hn : d.size = n) (hlim : n ≤ 100000) :
    Calls Tryz.prog 95 #[.slice ao n c] w fun e w' => ∃ v d', e = .returned v ∧ Sort.PermIn 0 n d d' ∧ Sort.SortedIn ltl 0 n d' ∧ Nw w.heap.size w' v d' ∧ Below w.heap.size w w' := by
  have hc := clone_any ao n c d w h hn hlim
  have hs := fun b N c w h => sort_any n hP b N c d w h hn hlim
  have HN : Hid (d.size = n) := hn
  clear h hn
  go_enter Tryz.func95, Tryz.ntmps95
  go_wp2_with fail
  refine hc.mono ?_
  rintro e w1 ⟨v, rfl, hNw, hB⟩
  have HB : Hid (Below w.heap.size w w1) := hB
  have hB2 := hB.size
  clear hc hB
  rcases hNw with ⟨h0, ao', c', rfl⟩ | ⟨h0, b, c', rfl, hcc, hb, hR⟩
  · have hn0 : n = 0 := by have := HN.out; omega
    have hl := len_any ao' 0 c' w1
    have m0 : ∀ W, (method 393 157 (.slice ao' 0 c') "Len").run Tryz.prog W = .ok (234, .slice ao' 0 c') W := fun W => by kernel_rfl
    have hso : Calls Tryz.prog 122 #[.iface 157 (.slice ao' 0 c')] w1 fun e w' => e = .returned (.tuple #[]) ∧ w' = w1 := by
      clear hs
      go_enter Tryz.func122, Tryz.ntmps122
      go_wp2_with (go_at_call 234; refine hl.mono ?_; rintro e w' ⟨rfl, rfl⟩)
      exact bodyPost_ret (results_none (by kernel_rfl) _ _ _) rfl ⟨rfl, rfl⟩
    have H0 : Hid (d.size = 0) := h0
    clear hs hl m0 h0
    go_wp2_with (first | (go_at_call 122; refine hso.mono ?_; rintro e w' ⟨rfl, rfl⟩))
    go_ret
    exact ⟨_, d, rfl, Sort.permIn_refl d 0 n, (fun i j h1 h2 h3 => by omega), .inl ⟨H0.out, _, _, rfl⟩, HB.out⟩
  · have hso := hs b (c' * 20) c' w1 hR
    have HC : Hid (d.size ≤ c') := hcc
    have HBb : Hid (w.heap.size ≤ b) := hb
    have hdn := HN.out
    rw [hdn]
    have H0 : Hid (0 < d.size) := h0
    clear hs hR hcc hb hdn h0
    go_wp2_with (first | (go_at_call 122; refine hso.mono ?_; rintro e w2 ⟨rfl, d', hp1, hp2, hT⟩))
    have hsz : d'.size = n := by rw [hp1.1]; exact HN.out
    go_ret
    refine ⟨_, d', rfl, hp1, hp2, .inr ⟨by have := H0.out; have := HN.out; omega, b, c', ?_, by have := HC.out; have := HN.out; omega, HBb.out, hT.rw⟩, HB.out.trans (hT.fr.below _ hB2 (fun i hi e => by have := HBb.out; omega))⟩
    rw [hsz]
    rfl

set_option maxHeartbeats 2000000 in
set_option maxRecDepth 100000 in
theorem Sort_any (n : Nat) (hP : Pdq n) (ao : Option Addr) (c : Nat) (d : Array (List Int)) (w : World) (h : Is w (.slice ao n c) d) (hn : d.size = n) (hlim : n ≤ 100000) :
    Calls Tryz.prog 61 #[.slice ao n c] w fun e w' => ∃ v r, e = .returned v ∧ Srt d r ∧ r.size ≤ n ∧ Nw w.heap.size w' v r ∧ Below w.heap.size w w' := by
  have hs := sorted_any n hP ao c d w h hn hlim
  have HN : Hid (d.size = n) := hn
  clear h hn
  go_enter Tryz.func61, Tryz.ntmps61
  go_wp2_with fail
  refine hs.mono ?_
  rintro e w1 ⟨v, d', rfl, hp1, hp2, hNw, hB⟩
  have HB : Hid (Below w.heap.size w w1) := hB
  have hB2 := hB.size
  have hsz : Hid (d'.size = n) := by rw [hp1.1]; exact HN
  have HM : Hid (∀ x, x ∈ d'.toList ↔ x ∈ d.toList) := fun x => perm_mem d d' (by rw [HN.out]; exact hp1) x
  have HI : Hid (Inc (cpt d'.toList)) := cpt_inc _ (sorted_pw d' (by rw [hsz.out]; exact hp2))
  clear hs hB hp1 hp2
  rcases hNw with ⟨h0, ao', c', rfl⟩ | ⟨h0, b, c', rfl, hcc, hb, hR⟩
  · have hn0 : n = 0 := by have := hsz.out; omega
    have hso : Calls Tryz.prog 94 #[.slice ao' 0 c'] w1 fun e w' => e = .returned (.slice ao' 0 c') ∧ w' = w1 := by
      go_enter Tryz.func94, Tryz.ntmps94
      go_wp2
      go_ret
      exact ⟨rfl, rfl⟩
    have H0 : Hid (d'.size = 0) := h0
    clear h0
    go_wp2_with (first | (go_at_call 94; refine hso.mono ?_; rintro e w' ⟨rfl, rfl⟩))
    go_ret
    have hd' : d'.toList = [] := List.eq_nil_of_length_eq_zero (by simpa using H0.out)
    refine ⟨_, d', rfl, ⟨?_, HM.out⟩, by have := H0.out; omega, .inl ⟨H0.out, _, _, rfl⟩, HB.out⟩
    rw [hd']
    exact List.Pairwise.nil
  · have hso := compact_any b c' n d' w1 hR hsz.out (by have := hsz.out; omega) hlim
    have HC : Hid (d'.size ≤ c') := hcc
    have HBb : Hid (w.heap.size ≤ b) := hb
    rw [hsz.out]
    have H0 : Hid (0 < d'.size) := h0
    clear hR hcc hb h0
    go_wp2_with (first | (go_at_call 94; refine hso.mono ?_; rintro e w2 ⟨m, r, rfl, hm, hr, hT⟩))
    go_ret
    have hle : m ≤ n := by
      have h1 := cpt_len d'.toList
      rw [← hr] at h1
      have h2 := hsz.out
      simp at h1
      omega
    have hpos : 0 < r.size := by
      rcases Nat.eq_zero_or_pos r.size with h | h
      · exfalso
        have hr0 : r.toList = [] := List.eq_nil_of_length_eq_zero (by simpa using h)
        have hd0 : d'[0]! ∈ d'.toList := by rw [getElem!_pos d' 0 H0.out]; simp
        rw [← cpt_mem, ← hr, hr0] at hd0
        cases hd0
      · exact h
    refine ⟨_, r, rfl, ⟨by rw [hr]; exact HI.out, fun x => by rw [hr, cpt_mem]; exact HM.out x⟩, by omega, .inr ⟨hpos, b, c', ?_, by have := HC.out; have := hsz.out; omega, HBb.out, hT.rw⟩, HB.out.trans (hT.fr.below _ hB2 (fun i hi e => by have := HBb.out; omega))⟩
    rw [hm]
    rfl

end Go.Proofs.YtojgablpjdlegaaGreatDoor

/- Texts; a commit's data without parents. -/
namespace Go.Proofs.YtojgablpjdlegaaGreatDoor
open Go.RowKit

/-- May a line say it? -/
def txtB (l : List UInt8) (most : Int) : Bool := !l.isEmpty && decide ((l.length : Int) ≤ most) && !Lib.containsAny l [0, 10]

theorem cany_ascii (l : List UInt8) (w : World) (hl : l.length ≤ 1000000) (ha : ∀ (j : Nat) b, l[j]? = some b → b.toNat < 128) : Calls Tryz.prog 125 #[sv l, sv [0, 10]] w fun e w' => e = .returned (.bool (Lib.containsAny l [0, 10])) ∧ Below w.heap.size w w' :=
  Any.strings_ContainsAny_laid Tryz.cany (by kernel_rfl) ⟨l.toArray⟩ ⟨#[0, 10]⟩ w (by rw [size_sv]; omega) (by decide) ha (fun j b h => by
    rcases j with _ | _ | j
    · simp at h; subst h; decide
    · simp at h; subst h; decide
    · simp at h)

set_option maxRecDepth 100000 in
theorem isText_of (l : List UInt8) (most : Int) (w : World) (hca : Calls Tryz.prog 125 #[sv l, sv [0, 10]] w fun e w' => e = .returned (.bool (Lib.containsAny l [0, 10])) ∧ Below w.heap.size w w') :
    Calls Tryz.prog 101 #[sv l, .int .i64 most] w fun e w' => e = .returned (.bool (txtB l most)) ∧ Below w.heap.size w w' := by
  unfold txtB
  cases h0 : l.isEmpty with
  | true =>
    go_enter Tryz.func101, Tryz.ntmps101
    go_wp2
    go_ret
    exact ⟨rfl, Below.refl _ _⟩
  | false =>
    by_cases hm : (l.length : Int) ≤ most
    · have d : decide ((l.length : Int) ≤ most) = true := by simp; omega
      rw [d]
      generalize Lib.containsAny l [0, 10] = c at *
      go_enter Tryz.func101, Tryz.ntmps101
      go_wp2_with (go_at_call 125; refine hca.mono ?_; rintro e w1 ⟨rfl, b1⟩)
      go_ret
      exact ⟨by cases c <;> rfl, b1⟩
    · have d : decide ((l.length : Int) ≤ most) = false := by simp; omega
      rw [d]
      go_enter Tryz.func101, Tryz.ntmps101
      go_wp2
      go_ret
      exact ⟨rfl, Below.refl _ _⟩

set_option maxRecDepth 100000 in
theorem clone_nil (w : World) : Calls Tryz.prog 121 #[.slice none 0 0] w fun e w' => e = .returned (.slice none 0 0) ∧ w' = w := by
  have h := nil_eq
  go_enter Tryz.func121, Tryz.ntmps121
  go_wp2
  go_ret
  exact ⟨rfl, rfl⟩

set_option maxRecDepth 100000 in
theorem sorted_nil (w : World) : Calls Tryz.prog 95 #[.slice none 0 0] w fun e w' => e = .returned (.slice none 0 0) ∧ w' = w := by
  have hc := clone_nil w
  have hl := len_any none 0 0 w
  have m0 : ∀ W, (method 393 157 (.slice none 0 0) "Len").run Tryz.prog W = .ok (234, .slice none 0 0) W := fun W => by kernel_rfl
  have hso : Calls Tryz.prog 122 #[.iface 157 (.slice none 0 0)] w fun e w' => e = .returned (.tuple #[]) ∧ w' = w := by
    clear hc
    go_enter Tryz.func122, Tryz.ntmps122
    go_wp2_with (go_at_call 234; refine hl.mono ?_; rintro e w' ⟨rfl, rfl⟩)
    exact bodyPost_ret (results_none (by kernel_rfl) _ _ _) rfl ⟨rfl, rfl⟩
  clear hl m0
  go_enter Tryz.func95, Tryz.ntmps95
  go_wp2_with (first | (go_at_call 122; refine hso.mono ?_; rintro e w' ⟨rfl, hw'⟩; subst w') | (go_at_call 121; refine hc.mono ?_; rintro e w' ⟨rfl, hw'⟩; subst w'))
  go_ret
  exact ⟨rfl, rfl⟩

set_option maxRecDepth 100000 in
theorem sort_nil (w : World) : Calls Tryz.prog 61 #[.slice none 0 0] w fun e w' => e = .returned (.slice none 0 0) ∧ w' = w := by
  have hc := sorted_nil w
  have hso : Calls Tryz.prog 94 #[.slice none 0 0] w fun e w' => e = .returned (.slice none 0 0) ∧ w' = w := by
    go_enter Tryz.func94, Tryz.ntmps94
    go_wp2
    go_ret
    exact ⟨rfl, rfl⟩
  go_enter Tryz.func61, Tryz.ntmps61
  go_wp2_with (first | (go_at_call 94; refine hso.mono ?_; rintro e w' ⟨rfl, hw'⟩; subst w') | (go_at_call 95; refine hc.mono ?_; rintro e w' ⟨rfl, hw'⟩; subst w'))
  go_ret
  exact ⟨rfl, rfl⟩

/-- A commit's cells. -/
def cf (t : List Int) (p : Value) (a c m : List UInt8) (j : Nat) : Value := if j < 20 then cl t j else if j = 20 then p else if j = 21 then sv a else if j = 22 then sv c else sv m

abbrev cmv (t : List Int) (p : Value) (a c m : List UInt8) : Value := row (cf t p a c m) 24

theorem zero47 (w : World) : (zeroValue 47).run Tryz.prog w = .ok (cmv z20 (.slice none 0 0) [] [] []) w := by kernel_rfl

end Go.Proofs.YtojgablpjdlegaaGreatDoor
