/- CmX, Rtx, XSame, Rtw. -/
import Derived.Test.YtojgablpjdlegabGreatDoorMC08
import Derived.Test.YtojgablpjdlegabGreatDoorMC09
import Derived.Test.YtojgablpjdlegabGreatDoorM10
/- What is written of a commit, of a tag, is read as it was: plain mathematics. -/
namespace Go.Proofs.YtojgablpjdlegabGreatDoor
open Go.RowKit Go.Shelf

theorem par_tb (x : List Int) (h : IsId x) : par (ns ⟨(tb (hx x)).toArray⟩) = (x, 0) := by
  have hb := hx_byt x h.2
  rw [← tb_sv, ns_str (hx x) (fun c hc => (hb c hc).2)]
  unfold par
  rw [if_pos ⟨by rw [hx_len, h.1], fun c hc => (hb c hc).1⟩, pr_hx x h.2]

theorem hex_no10 (x : List Int) (h : IsId x) : ∀ b ∈ tb (hx x), b ≠ 10 := by
  intro b hb e
  unfold tb at hb
  obtain ⟨c, hc, rfl⟩ := List.mem_map.1 hb
  obtain ⟨h1, h2, h3⟩ := hx_byt x h.2 c hc
  have h4 := congrArg UInt8.toNat e
  rw [UInt8.toNat_ofNat'] at h4
  unfold isS at h1
  have : (10 : UInt8).toNat = 10 := rfl
  omega

theorem any_no (z p : UInt8) : ∀ l : List UInt8, Lib.containsAny l [p, z] = false → ∀ b ∈ l, b ≠ z
  | [], _, b, hb => by cases hb
  | a :: l, h, b, hb => by
    have hge := Lib.indexAny_ge [p, z] l
    unfold Lib.containsAny at h
    rw [Lib.indexAny] at h
    by_cases hc : ([p, z].contains a) = true
    · rw [if_pos hc] at h
      simp at h
    · rw [if_neg hc] at h
      rcases List.mem_cons.1 hb with rfl | hb
      · intro e
        subst e
        simp at hc
      · refine any_no z p l ?_ b hb
        unfold Lib.containsAny
        by_cases h1 : (Lib.indexAny l [p, z] == -1) = true
        · have := eq_of_beq h1
          simp [this]
        · rw [if_neg h1] at h
          simp only [decide_eq_false_iff_not] at h ⊢
          simp at h1
          omega

theorem txt_no10 (A : List UInt8) (m : Int) (h : txtB A m = true) : ∀ b ∈ A, b ≠ 10 := by
  unfold txtB at h
  simp only [Bool.and_eq_true, Bool.not_eq_true'] at h
  exact any_no 10 0 A h.2

theorem wl_no10 (k : Int) : ∀ b ∈ wl k, b ≠ 10 := by
  unfold wl wrd
  repeat' split
  all_goals decide

theorem nd_true (e k : Int) : nd true e k = e := by unfold nd; simp

/-- A line of a word, and what is behind it. -/
def ln (word x r : List UInt8) : List UInt8 := word ++ [32] ++ x ++ [10] ++ r

theorem idE_line (word x r : List UInt8) (T : List Int) (hT : IsId T) (hx0 : x = tb (hx T)) : idE word (ln word x r) 0 = 0 := by
  have h10 : ∀ b ∈ x, b ≠ 10 := by rw [hx0]; exact hex_no10 T hT
  unfold idE ln
  rw [lin_line word x r h10, lnF_line word x r h10]
  show nd (decide ((par (ns ⟨x.toArray⟩)).2 = 0)) (nd true 0 2) 2 = 0
  rw [hx0, par_tb T hT, nd_true]
  exact nd_true _ _

theorem msg_line (M : List UInt8) : msL ([10] ++ M) = M ∧ msE ([10] ++ M) 0 = 0 := by
  have h := cut_first 10 [] M (fun b hb => by cases hb)
  have h' : Lib.cut ([10] ++ M) [10] = ([], M, true) := h
  unfold msL msE
  rw [h']
  exact ⟨rfl, rfl⟩

theorem encT_lines (x : List Int) (k : Int) (N G M : List UInt8) : encT x k N G M = ln obw (tb (hx x)) (ln tyw (wl k) (ln taw N (ln tgw G ([10] ++ M)))) := by
  simp [encT, tls, wls, wln, ln, List.append_assoc]

theorem tgg_enc (x : List Int) (k : Int) (N G M : List UInt8) (hx0 : IsId x) (hm : mbT k N G = true) : Tgg (encT x k N G M) 0 x k N G M 0 := by
  have hp : isK k = true ∧ txtB N 100 = true ∧ txtB G 200 = true := by
    unfold mbT at hm
    simp at hm
    exact ⟨hm.1, hm.2.1, hm.2.2⟩
  have hN := txt_no10 N _ hp.2.1
  have hG := txt_no10 G _ hp.2.2
  rw [encT_lines]
  have e1 := lin_line obw (tb (hx x)) (ln tyw (wl k) (ln taw N (ln tgw G ([10] ++ M)))) (hex_no10 x hx0)
  have e2 := lnF_line tyw (wl k) (ln taw N (ln tgw G ([10] ++ M))) (wl_no10 k)
  have e3 := lnF_line taw N (ln tgw G ([10] ++ M)) hN
  have e4 := lnF_line tgw G ([10] ++ M) hG
  refine ⟨⟨ln tyw (wl k) (ln taw N (ln tgw G ([10] ++ M))), 0, wl k, ln taw N (ln tgw G ([10] ++ M)), 0, ln tgw G ([10] ++ M), 0, [10] ++ M, 0, 0, ?_, ?_, idE_line _ _ _ x hx0 rfl, lin_line _ _ _ (wl_no10 k), ?_, ?_, lin_line _ _ _ hN, ?_, lin_line _ _ _ hG, ?_, (msg_line M).1, (msg_line M).2, ?_⟩⟩
  · unfold ln at e1 ⊢
    rw [e1, par_tb x hx0]
  · unfold ln at e1 ⊢
    rw [e1]
  · unfold ln at e2 ⊢
    rw [e2]
    rfl
  · rw [kof_wl k hp.1]
  · unfold ln at e3 ⊢
    rw [e3]
    rfl
  · unfold ln at e4 ⊢
    rw [e4]
    rfl
  · rw [hm]
    rfl

theorem enc_lines (T : List Int) (ds : List (List Int)) (A C M : List UInt8) : enc T ds A C M = ln tre (tb (hx T)) (wls (ds.map pl) ++ ln aut A (ln com C ([10] ++ M))) := by
  simp [enc, wls, wls_app, wln, ln, List.append_assoc]

theorem pl_line (x : List Int) (r : List UInt8) : wln (pl x) ++ r = ln pnt (tb (hx x)) r := by
  simp [wln, pl, ln, List.append_assoc]

theorem ps_pl (rest : List UInt8) (hr : Lib.hasPrefix rest (pnt ++ [32]) = false) : ∀ ds : List (List Int), (∀ x ∈ ds, IsId x) → Ps (wls (ds.map pl) ++ rest) 0 ds rest 0
  | [], _ => .stop rest 0 hr
  | x :: ds, h => by
    have hx0 := h x (by simp)
    have ih := ps_pl rest hr ds (fun y hy => h y (by simp [hy]))
    rw [List.map_cons, wls, List.append_assoc, pl_line]
    have e1 := lin_line pnt (tb (hx x)) (wls (ds.map pl) ++ rest) (hex_no10 x hx0)
    have e2 := idE_line pnt (tb (hx x)) (wls (ds.map pl) ++ rest) x hx0 rfl
    have hp : Lib.hasPrefix (ln pnt (tb (hx x)) (wls (ds.map pl) ++ rest)) (pnt ++ [32]) = true := by
      unfold Lib.hasPrefix ln
      rw [List.isPrefixOf_iff_prefix]
      exact ⟨tb (hx x) ++ [10] ++ (wls (ds.map pl) ++ rest), by simp⟩
    have e3 : lin pnt (ln pnt (tb (hx x)) (wls (ds.map pl) ++ rest)) = (tb (hx x), wls (ds.map pl) ++ rest) := e1
    have h1 := Ps.more (ln pnt (tb (hx x)) (wls (ds.map pl) ++ rest)) 0 ds rest 0 hp (by rw [e3, e2]; exact ih)
    rw [e3, par_tb x hx0] at h1
    exact h1

theorem cmg_enc (T : List Int) (ds : List (List Int)) (A C M : List UInt8) (hT : IsId T) (hds : ∀ x ∈ ds, IsId x) (hm : mb A C ds = true) : Cmg (enc T ds A C M) 0 T ds A C M 0 := by
  obtain ⟨hta, htc, _, _⟩ := mb_parts hm
  have hA := txt_no10 A _ hta
  have hC := txt_no10 C _ htc
  have hnp : Lib.hasPrefix (ln aut A (ln com C ([10] ++ M))) (pnt ++ [32]) = false := by
    unfold Lib.hasPrefix ln
    rfl
  rw [enc_lines]
  obtain ⟨R, hR⟩ : ∃ R, R = ln aut A (ln com C ([10] ++ M)) := ⟨_, rfl⟩
  rw [← hR] at hnp ⊢
  have hps := ps_pl R hnp ds hds
  have e1 : lin tre (ln tre (tb (hx T)) (wls (ds.map pl) ++ R)) = (tb (hx T), wls (ds.map pl) ++ R) := lin_line tre (tb (hx T)) (wls (ds.map pl) ++ R) (hex_no10 T hT)
  have e3 : lin aut R = (A, ln com C ([10] ++ M)) := by rw [hR]; exact lin_line aut A _ hA
  have e4 : lnF aut R = (A, ln com C ([10] ++ M), true) := by rw [hR]; exact lnF_line aut A _ hA
  have e5 : lin com (ln com C ([10] ++ M)) = (C, [10] ++ M) := lin_line com C _ hC
  have e6 : lnF com (ln com C ([10] ++ M)) = (C, [10] ++ M, true) := lnF_line com C _ hC
  refine ⟨⟨wls (ds.map pl) ++ R, 0, R, 0, ln com C ([10] ++ M), 0, [10] ++ M, 0, 0, ?_, ?_, idE_line _ _ _ T hT rfl, hps, ?_, ?_, e3, ?_, e5, ?_, (msg_line M).1, (msg_line M).2, ?_⟩⟩
  · rw [e1, par_tb T hT]
  · rw [e1]
  · simp
  · rw [List.length_append, wls_pl ds hds]
    omega
  · rw [e4]
    rfl
  · rw [e6]
    rfl
  · rw [hm]
    rfl

end Go.Proofs.YtojgablpjdlegabGreatDoor

/- The document's text, line's end. -/
namespace Go.Proofs.YtojgablpjdlegabGreatDoor
open Go.RowKit Go.Shelf

theorem sv_at (l : List UInt8) (i : Nat) (h : i < l.length) (W : World) : (Instr.index 9 (sv l) (.int .i64 (i : Int))).run Tryz.prog W = .ok (.int .u8 ((l[i]).toNat : Int)) W := by
  have hs : i < (⟨l.toArray⟩ : ByteArray).size := by rw [size_sv]; exact h
  have := str_at ⟨l.toArray⟩ i hs W
  rw [this]
  have e : bt (ns ⟨l.toArray⟩) i = ((l[i]).toNat : Int) := by
    rw [bt_get (by rw [ns_len]; exact hs)]
    simp [ns]
  rw [e]

end Go.Proofs.YtojgablpjdlegabGreatDoor

/- Same. -/
namespace Go.Proofs.YtojgablpjdlegabGreatDoor
open Go.RowKit

set_option maxRecDepth 100000 in
set_option maxHeartbeats 2000000 in
theorem same_wide (ao bo : Option Addr) (c c' n : Nat) (d : Array (List Int)) (w : World) (hids : ∀ i, i < n → IsId d[i]!) (hp0 : 0 < n → ∃ b b', ao = some ⟨b, 0, none⟩ ∧ bo = some ⟨b', 0, none⟩ ∧ ∀ W, Below w.heap.size w W → ∀ i, i < n → (loadVar 29 ⟨b, i * 20, none⟩).run Tryz.prog W = .ok (idv d[i]!) W ∧ (loadVar 28 ⟨b', i * 20, none⟩).run Tryz.prog W = .ok (idv d[i]!) W) (hsz : n < 100000) :
    Calls Tryz.prog 8 #[.slice ao n c, .slice bo n c'] w fun e w' => e = .returned (.bool true) ∧ Below w.heap.size w w' := by
  have HPP : Hid (0 < n → ∃ b b', ao = some ⟨b, 0, none⟩ ∧ bo = some ⟨b', 0, none⟩ ∧ ∀ W, Below w.heap.size w W → ∀ i, i < n → (loadVar 29 ⟨b, i * 20, none⟩).run Tryz.prog W = .ok (idv d[i]!) W ∧ (loadVar 28 ⟨b', i * 20, none⟩).run Tryz.prog W = .ok (idv d[i]!) W) := hp0
  have HID : Hid (∀ i, i < n → IsId d[i]!) := hids
  clear hp0 hids
  go_enter Tryz.func8, Tryz.ntmps8
  go_wp2_with fail
  go_loopw [5] (fun s5 wr => ∃ k : Nat, s5 = .int .i64 k ∧ k ≤ n ∧ Hid (Below w.heap.size w wr)) (fun s5 _ => n - (intOf s5).toNat)
  case atStart => exact ⟨0, rfl, Nat.zero_le _, Below.refl _ _⟩
  case round =>
    obtain ⟨k, rfl, hkn, HB⟩ := hrel
    by_cases hlt : k < n
    · have hq : (k : Int) < (n : Int) := by omega
      obtain ⟨b, b', rfl, rfl, hld⟩ := HPP.out (by omega)
      have hid := HID.out k hlt
      have H : Hid (∀ W, Below wr.heap.size wr W → (loadVar 29 ⟨b, k * 20, none⟩).run Tryz.prog W = .ok (idv d[k]!) W ∧ (loadVar 28 ⟨b', k * 20, none⟩).run Tryz.prog W = .ok (idv d[k]!) W) := fun W hW => hld W (HB.out.trans (hW.mono HB.out.size)) k hlt
      have he := fun W => eql_ids 29 Tryz.underlying29 hid hid W
      obtain ⟨x, hx⟩ : ∃ x, d[k]! = x := ⟨_, rfl⟩
      rw [hx] at H he
      have he' : ∀ W, (Op.equalIn 10000 29 (idv x) (idv x)).run Tryz.prog W = .ok true W := fun W => by rw [he W]; simp
      have hwk : IntKind.i64.wrap ((k : Int) + 1) = (k : Int) + 1 := by rw [IntKind.wrap_i64]; omega
      have HL : Hid (k < n) := hlt
      clear hid hld hx he HPP
      go_wp2_with fail
      refine wp_region_quiet (C := fun W => Below wr.heap.size wr W) (by kernel_rfl) (by kernel_rfl) (Below.refl _ _).drew ?_
      repeat
        refine wpQuiet_step (fun K hK => ?_)
        first
          | (refine q_ixb (by rfl) 22 _ _ rfl b 0 n c k (k * 20) _ rfl rfl (fun w => run_ixa33 b 0 n c k _ rfl HL.out w) (by omega) (hK _ ?_); clear hK K)
          | (refine q_ixb (by rfl) 26 _ _ rfl b' 0 n c' k (k * 20) _ rfl rfl (fun w => run_ixa35 b' 0 n c' k _ rfl HL.out w) (by omega) (hK _ ?_); clear hK K)
          | (refine q_load (by rfl) 29 _ rfl ⟨b, k * 20, none⟩ rfl (idv x) (fun W hW => (H.out W hW).1) (hK _ ?_); clear hK K)
          | (refine q_load (by rfl) 28 _ rfl ⟨b', k * 20, none⟩ rfl (idv x) (fun W hW => (H.out W hW).2) (hK _ ?_); clear hK K)
          | (go_simp; refine ⟨_, fun wq hs => rfl, hK _ ?_⟩; clear hK K)
      refine wpQuiet_nil ?_
      intro w2 hB2
      have HB2 : Hid (Below wr.heap.size wr w2) := hB2
      clear hB2
      go_wp2_with fail
      go_roundw
      case rel => exact ⟨k + 1, by simp, HL.out, HB.out.trans (HB2.out.mono HB.out.size)⟩
      case measure => simp [intOf]; have := HL.out; omega
    · obtain rfl : k = n := by omega
      have hq : ¬ (k : Int) < (k : Int) := by omega
      clear HPP
      go_wp2_with fail
      go_ret
      exact ⟨rfl, HB.out⟩

theorem same_yes (B B' : Nat) (v v' : Value) (d : Array (List Int)) (w : World) (h : Nw B w v d) (h' : Dn B' w v' d) (hsz : d.size < 100000) :
    Calls Tryz.prog 8 #[v, v'] w fun e w' => e = .returned (.bool true) ∧ Below w.heap.size w w' := by
  obtain ⟨bo, c', rfl⟩ := h'.shape
  rcases h with ⟨h0, ao, c, rfl⟩ | ⟨h0, b, c, rfl, _, _, hr⟩
  · rw [h0]
    exact same_wide ao bo c c' 0 d w (fun i hi => by omega) (fun h => by omega) (by omega)
  · obtain ⟨b', c2, e, _, _, hx⟩ := h'.row h0
    injection e with e1 e2 e3
    exact same_wide _ bo c c' d.size d w (fun i hi => hr.ids i hi) (fun _ => ⟨b, b', rfl, e1, fun W hW i hi => ⟨(hr.keep hW).load i hi, (hx.keep hW).load i hi⟩⟩) hsz

end Go.Proofs.YtojgablpjdlegabGreatDoor

/- The document's twice. -/
namespace Go.Proofs.YtojgablpjdlegabGreatDoor
open Go.RowKit Go.Shelf

/-- Of the first i none is there twice. -/
def Un (d : Array (List Int)) (i : Nat) : Prop := ∀ a b, b < a → a < i → d[a]! ≠ d[b]!

theorem un_nodup (d : Array (List Int)) (h : Un d d.size) : d.toList.Nodup := by
  unfold List.Nodup
  rw [List.pairwise_iff_getElem]
  intro i j hi hj hij e
  simp only [Array.length_toList] at hi hj
  refine h j i hij hj ?_
  rw [getElem!_pos d j hj, getElem!_pos d i hi]
  simpa using e.symm

theorem un_not (d : Array (List Int)) (a b : Nat) (hba : b < a) (ha : a < d.size) (e : d[a]! = d[b]!) : ¬ d.toList.Nodup := by
  intro h
  unfold List.Nodup at h
  rw [List.pairwise_iff_getElem] at h
  refine h b a (by simp; omega) (by simp; omega) hba ?_
  rw [getElem!_pos d a ha, getElem!_pos d b (by omega)] at e
  simpa using e.symm

end Go.Proofs.YtojgablpjdlegabGreatDoor
