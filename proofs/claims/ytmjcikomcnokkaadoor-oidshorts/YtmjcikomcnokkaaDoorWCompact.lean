/- slices.Compact. -/
import Derived.Test.YtmjcikomcnokkaaDoorWEq
namespace Go.Proofs.YtmjcikomcnokkaaDoor
open Go.RowKit

/-- A row, each once where it stands beside itself. -/
def cpt : List (List Int) → List (List Int)
  | [] => []
  | [x] => [x]
  | x :: y :: r => if x = y then cpt (y :: r) else x :: cpt (y :: r)

theorem cpt_snoc : ∀ (l : List (List Int)) (z y : List Int), cpt ((l ++ [z]) ++ [y]) = if z = y then cpt (l ++ [z]) else cpt (l ++ [z]) ++ [y]
  | [], z, y => by
    by_cases h : z = y
    · simp [cpt, h]
    · simp [cpt, h]
  | [x], z, y => by
    have i := cpt_snoc [] z y
    simp only [List.nil_append] at i
    show cpt (x :: ([z] ++ [y])) = if z = y then cpt (x :: [z]) else cpt (x :: [z]) ++ [y]
    have e1 : cpt (x :: ([z] ++ [y])) = if x = z then cpt ([z] ++ [y]) else x :: cpt ([z] ++ [y]) := rfl
    have e2 : cpt (x :: [z]) = if x = z then cpt [z] else x :: cpt [z] := rfl
    rw [e1, e2, i]
    by_cases h : x = z <;> by_cases g : z = y <;> simp [h, g]
  | x :: x2 :: r, z, y => by
    have i := cpt_snoc (x2 :: r) z y
    have e1 : cpt ((x :: x2 :: r ++ [z]) ++ [y]) = if x = x2 then cpt ((x2 :: r ++ [z]) ++ [y]) else x :: cpt ((x2 :: r ++ [z]) ++ [y]) := rfl
    have e2 : cpt (x :: x2 :: r ++ [z]) = if x = x2 then cpt (x2 :: r ++ [z]) else x :: cpt (x2 :: r ++ [z]) := rfl
    rw [e1, e2, i]
    by_cases h : x = x2 <;> by_cases g : z = y <;> simp [h, g]

theorem take_one (d : Array (List Int)) (m : Nat) (hm : m < d.size) : d.toList.take (m + 1) = d.toList.take m ++ [d[m]!] := by
  rw [List.take_add_one, List.getElem?_eq_getElem (by simpa using hm), getElem!_pos d m hm]
  simp

theorem cpt_take (d : Array (List Int)) (m : Nat) (h1 : 1 ≤ m) (hm : m < d.size) : cpt (d.toList.take (m + 1)) = if d[m - 1]! = d[m]! then cpt (d.toList.take m) else cpt (d.toList.take m) ++ [d[m]!] := by
  rw [take_one d m hm]
  have e := take_one d (m - 1) (by omega)
  rw [show m - 1 + 1 = m by omega] at e
  rw [e, cpt_snoc]

theorem cpt_len : ∀ l : List (List Int), (cpt l).length ≤ l.length
  | [] => Nat.le_refl _
  | [x] => Nat.le_refl _
  | x :: y :: r => by
    have := cpt_len (y :: r)
    rw [cpt]
    split
    · simp at this ⊢; omega
    · simp at this ⊢; omega

theorem Rw.loadAt {w : World} {b N : Nat} {d : Array (List Int)} (h : Rw w b N d) (i o : Nat) (hi : i < d.size) (ho : o = i * 20) : (loadVar 23 ⟨b, o, none⟩).run Tryd.prog w = .ok (idv d[i]!) w := by
  rw [ho]; exact h.load i hi

theorem toArray_take (d : Array (List Int)) (k : Nat) : (d.extract 0 k).toList = d.toList.take k := by simp

theorem run_ixa (b o n c i : Nat) (e : Int) (he : e = i) (hi : i < n) (w : World) : (Instr.indexAt 62 (.slice (some ⟨b, o, none⟩) n c) (.int .i64 e)).run Tryd.prog w = .ok (.pointer (some ⟨b, o + i * 20, none⟩)) w := by
  have hz : ∀ w, (sizeOf 23).run Tryd.prog w = .ok 20 w := fun w => by simp [go_sem]
  subst he
  simp [Instr.indexAt, asIntOf, run_underlying Tryd.underlying62, hz, hi, Addr.add_lit]

theorem q_ixa {ops : Array Oper} {op : Oper} {a : Act} {C : World → Prop} {K : Act → Prop} {E : Prop} (hw : Region.wanted op (yielded ops a.tmps) = true) (x y : Operand) (ho : op.op = .indexAddr 62 x y) (b o n c i p : Nat) (e : Int) (hx : a.eval x = .slice (some ⟨b, o, none⟩) n c) (hy : a.eval y = .int .i64 e)
    (he : e = i) (hi : i < n) (hp : p = o + i * 20) (hk : K (a.put op.dst (.pointer (some ⟨b, p, none⟩)))) : if Region.wanted op (yielded ops a.tmps) = true then op.quiet Tryd.prog a C K else E := by
  rw [if_pos hw]
  subst hp
  refine ⟨_, fun w _ => ?_, hk⟩
  have h := run_ixa b o n c i e he hi w
  unfold Oper.quietAt execOp
  simp only [ho, hx, hy]
  simp [h, Oper.quietUpon]

theorem wpList_ixa {ops : Array Oper} {rest : List Oper} {op : Oper} {a : Act} {w : World} {Q : Exit → Act → World → Prop} (hgd : op.guard = none) (x y : Operand) (ho : op.op = .indexAddr 62 x y) (b o n c i p : Nat) (e : Int) (hx : a.eval x = .slice (some ⟨b, o, none⟩) n c) (hy : a.eval y = .int .i64 e)
    (he : e = i) (hi : i < n) (hp : p = o + i * 20) (hk : wpList Tryd.prog ops Q rest (a.put op.dst (.pointer (some ⟨b, p, none⟩))) w) : wpList Tryd.prog ops Q (op :: rest) a w := by
  refine wpList_plain hgd fun K hK => ?_
  subst hp
  have h := run_ixa b o n c i e he hi w
  unfold Oper.wp
  simp only [execOp, ho, hx, hy, Sem.run_bind, h, Result.andThen_ok, Sem.run_pure]
  exact hK _ _ hk

theorem wpList_ldv {ops : Array Oper} {rest : List Oper} {op : Oper} {a : Act} {w : World} {Q : Exit → Act → World → Prop} (hgd : op.guard = none) (ty : TypeId) (x : Operand) (ho : op.op = .load ty x)
    (ad : Addr) (hx : a.eval x = .pointer (some ad)) (v : Value) (hr : (loadVar ty ad).run Tryd.prog w = .ok v w)
    (hk : wpList Tryd.prog ops Q rest (a.put op.dst v) w) : wpList Tryd.prog ops Q (op :: rest) a w := by
  refine wpList_plain hgd fun K hK => ?_
  unfold Oper.wp execOp
  simp only [ho, hx, Instr.loadAt, Instr.sureAddr, Sem.run_bind, Sem.run_pure, Result.andThen_ok, hr]
  exact hK _ _ hk

theorem wpList_stv {ops : Array Oper} {rest : List Oper} {op : Oper} {a : Act} {w : World} {Q : Exit → Act → World → Prop} (hgd : op.guard = none) (x y : Operand) (ho : op.op = .store 23 x y)
    (b o : Nat) (hx : a.eval x = .pointer (some ⟨b, o, none⟩)) (z : List Int) (hy : a.eval y = idv z) (ht : w.there b o 20) (w' : World) (hw' : w.setCells b o (vals (cl z) 20) = w')
    (hk : wpList Tryd.prog ops Q rest (a.put op.dst undef) w') : wpList Tryd.prog ops Q (op :: rest) a w := by
  subst hw'
  exact wpList_store_mid hgd 23 x y ho b o (vals (cl z) 20).toArray hx hy (by rw [vals_size]; exact ht) (by rw [vals_size]; exact size23) (vals_one (cl z) 20 (fun _ => rfl)) hk

theorem To.set {b N : Nat} {w w' : World} {d' : Array (List Int)} (h : To b N w d' w') (i : Nat) (hi : i < d'.size) (z : List Int) (hz : IsId z) : w'.there b (i * 20) 20 ∧ ∃ w'', w'.setCells b (i * 20) (vals (cl z) 20) = w'' ∧ To b N w (d'.setIfInBounds i z) w'' :=
  ⟨h.rw.there i hi, _, rfl, ⟨(h.rw.set i z hz).1, h.fr.trans (h.rw.set i z hz).2 (fun _ _ e => e)⟩⟩

theorem take_set (d : Array (List Int)) (q : Nat) (z : List Int) (hq : q < d.size) : (d.setIfInBounds q z).toList.take (q + 1) = d.toList.take q ++ [z] := by
  rw [take_one _ q (by simpa using hq), sib_get d q q z hq, if_pos rfl]
  congr 1
  rw [Array.toList_setIfInBounds, List.take_set, List.set_eq_of_length_le (by simp; omega)]

set_option maxHeartbeats 4000000 in
set_option maxRecDepth 100000 in
theorem compact_any (b c n : Nat) (d : Array (List Int)) (w : World) (h : Rw w b (c * 20) d) (hn : d.size = n) (hc : n ≤ c) (hlim : n ≤ 100000) :
    Calls Tryd.prog 29 #[sl b n c] w fun e w' => ∃ m d', e = .returned (sl b m c) ∧ d'.size = m ∧ d'.toList = cpt d.toList ∧ To b (c * 20) w d' w' := by
  have HN : Hid (d.size = n) := hn
  have HT : Hid (To b (c * 20) w d w) := To.refl h
  clear h hn
  by_cases h2 : n < 2
  · have e : Hid (cpt d.toList = d.toList) := by
      have hl : d.toList.length = n := by simpa using HN.out
      match hd : d.toList, hl with
      | [], _ => exact rfl
      | [x], _ => exact rfl
      | x :: y :: r, hl => simp at hl; omega
    go_enter Tryd.func29, Tryd.ntmps29
    go_wp2
    go_ret
    exact ⟨n, d, rfl, HN.out, e.out.symm, HT.out⟩
  · go_enter Tryd.func29, Tryd.ntmps29
    go_wp2
    go_loopw [3] (fun vk wr => ∃ k : Nat, vk = .int .i64 ((k : Int) + 1) ∧ k + 1 ≤ n ∧ Hid (cpt (d.toList.take (k + 1)) = d.toList.take (k + 1)) ∧ Hid (To b (c * 20) w d wr)) (fun vk _ => n - (intOf vk).toNat)
    case atStart => exact ⟨0, rfl, by omega, (by
      have : d.toList.take 1 = [d[0]!] := by rw [take_one d 0 (by rw [HN.out]; omega)]; rfl
      rw [this]; exact rfl), HT⟩
    case round =>
      obtain ⟨k, rfl, hkn, HC, HK⟩ := hrel
      clear HT
      by_cases hlt : k + 1 < n
      · have hkz : (k : Int) + 1 < (n : Int) := by omega
        have hkz2 : (k : Int) < (n : Int) := by omega
        have hkn2 : k < n := by omega
        have hwk : IntKind.i64.wrap (k : Int) = k := wraps_i64 _ (by omega) (by omega)
        have H : Hid (∀ W, Below wr.heap.size wr W → (loadVar 23 ⟨b, (k + 1) * 20, none⟩).run Tryd.prog W = .ok (idv d[k + 1]!) W ∧ (loadVar 23 ⟨b, k * 20, none⟩).run Tryd.prog W = .ok (idv d[k]!) W) := fun W hW =>
          ⟨(HK.out.rw.keep hW).load (k + 1) (by rw [HN.out]; omega), (HK.out.rw.keep hW).load k (by rw [HN.out]; omega)⟩
        have he := fun W => eql_ids 23 Tryd.underlying23 (HK.out.rw.ids (k + 1) (by rw [HN.out]; omega)) (HK.out.rw.ids k (by rw [HN.out]; omega)) W
        have HKt := cpt_take d (k + 1) (by omega) (by rw [HN.out]; omega)
        rw [Nat.add_sub_cancel] at HKt
        obtain ⟨x, hx⟩ : ∃ x, d[k + 1]! = x := ⟨_, rfl⟩
        obtain ⟨y, hy⟩ : ∃ y, d[k]! = y := ⟨_, rfl⟩
        rw [hx, hy] at H he HKt
        have HX : Hid (d[k + 1]! = x ∧ d[k]! = y) := ⟨hx, hy⟩
        have HT2 : Hid _ := HKt
        clear HKt hx hy
        obtain ⟨v, hv⟩ : ∃ v, decide (x = y) = v := ⟨_, rfl⟩
        rw [hv] at he
        have HV : Hid (decide (x = y) = v) := hv
        clear hv
        go_wp2_with fail
        refine wp_region_quiet (C := fun W => Below wr.heap.size wr W) (by kernel_rfl) (by kernel_rfl) (Below.refl _ _).drew ?_
        repeat
          refine wpQuiet_step (fun K hK => ?_)
          first
            | (refine q_ixa (by rfl) _ _ rfl b 0 n c (k + 1) ((k + 1) * 20) _ rfl rfl (by omega) hlt (by omega) (hK _ ?_); clear hK K)
            | (refine q_ixa (by rfl) _ _ rfl b 0 n c k (k * 20) _ rfl rfl (by omega) hkn2 (by omega) (hK _ ?_); clear hK K)
            | (refine q_load (by rfl) 23 _ rfl ⟨b, (k + 1) * 20, none⟩ rfl (idv x) (fun W hW => (H.out W hW).1) (hK _ ?_); clear hK K)
            | (refine q_load (by rfl) 23 _ rfl ⟨b, k * 20, none⟩ rfl (idv y) (fun W hW => (H.out W hW).2) (hK _ ?_); clear hK K)
            | (go_simp; refine ⟨_, fun wq hs => rfl, hK _ ?_⟩; clear hK K)
        refine wpQuiet_nil ?_
        intro w1 hB1
        have HB1 : Hid (To b (c * 20) w d w1) := HK.out.keep hB1
        clear H he hB1 HK
        cases v with
        | false =>
          have hne : ¬ y = x := fun e => by have := of_decide_eq_false HV.out; exact this e.symm
          have HC2 : Hid (cpt (d.toList.take (k + 1 + 1)) = d.toList.take (k + 1 + 1)) := by
            rw [HT2.out, if_neg hne, HC.out, ← HX.out.1]
            exact (take_one d (k + 1) (by rw [HN.out]; omega)).symm
          clear HC HT2 HV HX hne
          go_wp2
          go_roundw
          case rel => exact ⟨k + 1, by go_num, by omega, HC2, HB1⟩
          case measure => simp [intOf]; omega
        | true =>
          have hyx : y = x := (of_decide_eq_true HV.out).symm
          have HC2 : Hid (d.toList.take (k + 1) = cpt (d.toList.take (k + 1 + 1))) := by
            rw [HT2.out, if_pos hyx, HC.out]
            exact rfl
          have hcut := fun W => run_cut W b n c (k + 1) (by omega) (by omega)
          rw [show ((k + 1 : Nat) : Int) = (k : Int) + 1 by omega] at hcut
          have HIds : Hid (∀ i, i < n → IsId d[i]!) := fun i hi => HB1.out.rw.ids i (by rw [HN.out]; exact hi)
          clear HC HT2 HV HX hyx hwk
          go_wp2
          go_loopw [3, 5] (fun vk vj w2 => ∃ (q j : Nat) (dk : Array (List Int)), vk = .int .i64 q ∧ vj = .int .i64 ((j : Int) + 1) ∧ k + 1 + j + 1 ≤ n ∧ q ≤ k + 1 + j ∧ Hid (dk.size = n) ∧ Hid (∀ i, k + 1 + j ≤ i → i < n → dk[i]! = d[i]!) ∧ Hid (dk.toList.take q = cpt (d.toList.take (k + 1 + j + 1))) ∧ Hid (To b (c * 20) w dk w2)) (fun _ vj _ => n - (intOf vj).toNat)
          case atStart => exact ⟨k + 1, 0, d, by go_num, rfl, by omega, by omega, HN, (fun i _ _ => rfl), HC2, HB1⟩
          case round =>
            obtain ⟨q, j, dk, rfl, rfl, hj, hq, HS, HO, HP, HT2⟩ := hrel
            clear HB1 HC2 hcut
            by_cases hjl : k + 1 + j + 1 < n
            · have hj2 : (j : Int) + 1 < ((n - (k + 1) : Nat) : Int) := by omega
              have hj1 : j + 1 < n - (k + 1) := by omega
              have hj0 : j < n - (k + 1) := by omega
              have hwj : IntKind.i64.wrap (j : Int) = j := wraps_i64 _ (by omega) (by omega)
              have eA := HO.out (k + 1 + j + 1) (by omega) (by omega)
              have eB := HO.out (k + 1 + j) (by omega) (by omega)
              have H : Hid (∀ W, To b (c * 20) w dk W → (loadVar 23 ⟨b, (k + 1) * 20 + (j + 1) * 20, none⟩).run Tryd.prog W = .ok (idv d[k + 1 + j + 1]!) W ∧ (loadVar 23 ⟨b, (k + 1) * 20 + j * 20, none⟩).run Tryd.prog W = .ok (idv d[k + 1 + j]!) W) := fun W hW => by
                rw [← eA, ← eB]
                exact ⟨hW.rw.loadAt (k + 1 + j + 1) _ (by rw [HS.out]; omega) (by omega), hW.rw.loadAt (k + 1 + j) _ (by rw [HS.out]; omega) (by omega)⟩
              have he := fun W => eql_ids 23 Tryd.underlying23 (HIds.out (k + 1 + j + 1) (by omega)) (HIds.out (k + 1 + j) (by omega)) W
              have hset := fun W (hW : To b (c * 20) w dk W) => hW.set q (by rw [HS.out]; omega) d[k + 1 + j + 1]! (HIds.out (k + 1 + j + 1) (by omega))
              have HKt := cpt_take d (k + 1 + j + 1) (by omega) (by rw [HN.out]; omega)
              rw [Nat.add_sub_cancel] at HKt
              have HTS : Hid ((dk.setIfInBounds q d[k + 1 + j + 1]!).toList.take (q + 1) = dk.toList.take q ++ [d[k + 1 + j + 1]!]) := take_set dk q _ (by rw [HS.out]; omega)
              have HOS : Hid (∀ i, k + 1 + (j + 1) ≤ i → i < n → (dk.setIfInBounds q d[k + 1 + j + 1]!)[i]! = d[i]!) := fun i h1 h2 => by
                rw [sib_get dk q i _ (by rw [HS.out]; exact h2), if_neg (by omega)]
                exact HO.out i (by omega) h2
              have HSS : Hid ((dk.setIfInBounds q d[k + 1 + j + 1]!).size = n) := by rw [Array.size_setIfInBounds]; exact HS
              generalize hdk2 : dk.setIfInBounds q d[k + 1 + j + 1]! = dk2 at *
              generalize d[k + 1 + j + 1]! = x2 at *
              generalize d[k + 1 + j]! = y2 at *
              clear eA eB hdk2
              obtain ⟨v, hv⟩ : ∃ v, decide (x2 = y2) = v := ⟨_, rfl⟩
              rw [hv] at he
              have HV : Hid (decide (x2 = y2) = v) := hv
              have HKT : Hid _ := HKt
              have HST : Hid _ := hset
              clear hv HKt hset
              go_wp2_with fail
              refine wp_region_quiet (C := fun W => To b (c * 20) w dk W) (by kernel_rfl) (by kernel_rfl) HT2.out.drew ?_
              repeat
                refine wpQuiet_step (fun K hK => ?_)
                first
                  | (refine q_ixa (by rfl) _ _ rfl b ((k + 1) * 20) (n - (k + 1)) (c - (k + 1)) (j + 1) ((k + 1) * 20 + (j + 1) * 20) _ rfl rfl (by omega) hj1 rfl (hK _ ?_); clear hK K)
                  | (refine q_ixa (by rfl) _ _ rfl b ((k + 1) * 20) (n - (k + 1)) (c - (k + 1)) j ((k + 1) * 20 + j * 20) _ rfl rfl (by omega) hj0 rfl (hK _ ?_); clear hK K)
                  | (refine q_load (by rfl) 23 _ rfl ⟨b, (k + 1) * 20 + (j + 1) * 20, none⟩ rfl (idv x2) (fun W hW => (H.out W hW).1) (hK _ ?_); clear hK K)
                  | (refine q_load (by rfl) 23 _ rfl ⟨b, (k + 1) * 20 + j * 20, none⟩ rfl (idv y2) (fun W hW => (H.out W hW).2) (hK _ ?_); clear hK K)
                  | (go_simp; refine ⟨_, fun wq hs => rfl, hK _ ?_⟩; clear hK K)
              refine wpQuiet_nil ?_
              intro w3 hT3
              have HT3 : Hid (To b (c * 20) w dk w3) := hT3
              clear he hT3
              cases v with
              | true =>
                have HP2 : Hid (dk.toList.take q = cpt (d.toList.take (k + 1 + (j + 1) + 1))) := by
                  rw [show k + 1 + (j + 1) + 1 = k + 1 + j + 1 + 1 by omega, HKT.out, if_pos (of_decide_eq_true HV.out).symm]
                  exact HP
                have HO2 : Hid (∀ i, k + 1 + (j + 1) ≤ i → i < n → dk[i]! = d[i]!) := fun i h1 h2 => HO.out i (by omega) h2
                clear HV HKT HP HO H HST HTS HOS HSS
                go_wp2
                go_roundw
                case rel => exact ⟨q, j + 1, dk, rfl, by go_num, by omega, by omega, HS, HO2, HP2, HT3⟩
                case measure => simp [intOf]; omega
              | false =>
                have hne : ¬ y2 = x2 := fun e => by have := of_decide_eq_false HV.out; exact this e.symm
                have HP2 : Hid (dk2.toList.take (q + 1) = cpt (d.toList.take (k + 1 + (j + 1) + 1))) := by
                  rw [show k + 1 + (j + 1) + 1 = k + 1 + j + 1 + 1 by omega, HKT.out, if_neg hne, HTS.out, HP.out]
                  exact rfl
                obtain ⟨th, w4, hw4, hT4⟩ := HST.out w3 HT3.out
                have TH : Hid _ := th
                have HW4 : Hid _ := hw4
                have HT4 : Hid _ := hT4
                have l3 : Hid _ := (H.out w3 HT3.out).1
                have hqn : q < n := by omega
                clear hne HV HKT HP HO H HST HTS th hw4 hT4
                go_wp2_with (first
                  | (refine wpList_ixa rfl _ _ rfl b ((k + 1) * 20) (n - (k + 1)) (c - (k + 1)) (j + 1) ((k + 1) * 20 + (j + 1) * 20) _ rfl rfl (by omega) hj1 rfl ?_)
                  | (refine wpList_ixa rfl _ _ rfl b 0 n c q (q * 20) _ rfl rfl rfl hqn (by omega) ?_)
                  | (refine wpList_ldv rfl 23 _ rfl ⟨b, (k + 1) * 20 + (j + 1) * 20, none⟩ rfl (idv x2) l3.out ?_)
                  | (refine wpList_stv rfl _ _ rfl b (q * 20) rfl x2 rfl TH.out w4 HW4.out ?_))
                go_roundw
                case rel => exact ⟨q + 1, j + 1, dk2, by go_num, by go_num, by omega, by omega, HSS, HOS, HP2, HT4⟩
                case measure => simp [intOf]; omega
            · have hjn : k + 1 + j + 1 = n := by omega
              obtain ⟨w3, hcl, hrw3, hfr3⟩ := HT2.out.rw.clear (k := q) HS.out hc (by omega)
              have HA : Hid ((dk.extract 0 q).toList = cpt d.toList) := by
                have e : d.toList.take (k + 1 + j + 1) = d.toList := List.take_of_length_le (by have := HN.out; simp; omega)
                have := HP.out
                rw [e] at this
                rw [toArray_take]
                exact this
              have HZ : Hid ((dk.extract 0 q).size = q) := ext_size dk q (by rw [HS.out]; omega)
              have HT3 : Hid (To b (c * 20) w (dk.extract 0 q) w3) := ⟨hrw3, HT2.out.fr.trans hfr3 (fun _ _ e => e)⟩
              have hcut := fun W => run_cut W b n c q (by omega) (by omega)
              have hfro := fun W => run_front W b n c q (by omega) hc
              generalize dk.extract 0 q = d3 at *
              clear HP HO HS HT2 hrw3 hfr3 HIds
              go_wp2
              go_ret
              exact ⟨q, d3, rfl, HZ.out, HA.out, HT3.out⟩
      · obtain rfl : k + 1 = n := by omega
        have HA : Hid (d.toList = cpt d.toList) := by
          have e : d.toList.take (k + 1) = d.toList := List.take_of_length_le (by have := HN.out; simp; omega)
          have := HC.out
          rw [e] at this
          exact this.symm
        clear HC
        go_wp2
        go_ret
        exact ⟨k + 1, d, rfl, HN.out, HA.out, HK.out⟩

end Go.Proofs.YtmjcikomcnokkaaDoor
