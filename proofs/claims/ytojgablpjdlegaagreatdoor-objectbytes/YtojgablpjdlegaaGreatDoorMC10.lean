/- CmY, CmX, Rtx, XSame, Rtw. -/
import Derived.Test.YtojgablpjdlegaaGreatDoorMC08
import Derived.Test.YtojgablpjdlegaaGreatDoorMC09
import Derived.Test.YtojgablpjdlegaaGreatDoorM10
/- A tag decoded, its edges, whatever the bytes. -/
namespace Go.Proofs.YtojgablpjdlegaaGreatDoor
open Go.RowKit Go.Shelf

/-- What is parsed of a tag. -/
structure Pt (B : Nat) (e : Int) (T : List Int) (K : Int) (N G M : List UInt8) (f : Nat → Value) (w : World) : Prop where
  ok : e = 0 → ∃ ve, f = psf nlv (cf z20 nlv [] [] []) (tf T K N G M) ve ∧ Dp B w ve #[T]
  no : e ≠ 0 → f = ps0

theorem Pt.keep {B : Nat} {e : Int} {T : List Int} {K : Int} {N G M : List UInt8} {f : Nat → Value} {w w' : World} (h : Pt B e T K N G M f w) (hb : Below w.heap.size w w') : Pt B e T K N G M f w' :=
  ⟨fun he => by obtain ⟨ve, h1, h2⟩ := h.ok he; exact ⟨ve, h1, h2.keep hb⟩, h.no⟩

theorem parse_tag (ao : Option Addr) (n c : Nat) (xs : List Int) (T : List Int) (K : Int) (N G M : List UInt8) (e : Int) (w : World) (hg : Gs w) (hr : Rd w ao n c xs) (hn : n ≤ 16384) (hm : Tgg (tb xs) 0 T K N G M e) :
    Calls Tryz.prog 56 #[.int .i64 4, .slice ao n c] w fun ex w' => ∃ f, ex = .returned (.tuple #[row f 50, .int .i64 e]) ∧ (∀ j, (f j).oneCell' = true) ∧ Pt (w.heap.size + 1) e T K N G M f w' ∧ Below w.heap.size w w' := by
  refine (parse_g4 ao n c xs w hg hr hn (fun ve => psf nlv (cf z20 nlv [] [] []) (tf T K N G M) ve) [] e (fun ve w' => ve.oneCell' = true ∧ Dp (w.heap.size + 1) w' ve #[T]) ?_ ?_).mono ?_
  · intro R W hgW hR hrW hbW hs
    refine (tagR R (tb xs) 0 T K N G M e W hgW hR hrW (by rw [tb_len, hr.len]; omega) hm).mono ?_
    rintro ex w' ⟨ve, rfl, h2, h3, h4⟩
    have hve : ve.oneCell' = true := by obtain ⟨_, _, rfl⟩ := h2.shape; rfl
    exact ⟨ve, rfl, fun j => psf_one _ _ _ _ rfl (cf_one _ _ _ _ _ rfl) (tf_one _ _ _ _ _) hve j, h3, h4, hve, h2.low (by omega)⟩
  · rintro ve w1 w2 ⟨hve, h2⟩ hf
    exact ⟨hve, h2.fr hf (fun k hk e => by omega)⟩
  · rintro ex w' ⟨ve, rfl, ⟨hve, h2⟩, hb⟩
    by_cases he : e = 0
    · refine ⟨psf nlv (cf z20 nlv [] [] []) (tf T K N G M) ve, by rw [if_pos he], psf_one _ _ _ _ rfl (cf_one _ _ _ _ _ rfl) (tf_one _ _ _ _ _) hve, ⟨fun _ => ⟨ve, rfl, h2⟩, fun h => absurd he h⟩, hb⟩
    · exact ⟨ps0, by rw [if_neg he], ps0_one, ⟨fun h => absurd h he, fun _ => rfl⟩, hb⟩

theorem psf_tf (T : List Int) (K : Int) (ve : Value) (N G M : List UInt8) : row (fun j => psf nlv (cf z20 nlv [] [] []) (tf T K N G M) ve (25 + j)) 24 = tmv T K N G M := row_congr _ _ _ (fun j hj => by
  show psf nlv (cf z20 nlv [] [] []) (tf T K N G M) ve (25 + j) = tf T K N G M j
  unfold psf
  rw [if_neg (by omega), if_neg (by omega), if_pos (by omega), Nat.add_sub_cancel_left])

/-- What a tag's bytes are decoded to: what they say, or nothing. -/
def dtg (e : Int) (T : List Int) (K : Int) (N G M : List UInt8) : Value := if e = 0 then tmv T K N G M else tmv z20 0 [] [] []

theorem decodeTag_any (ao : Option Addr) (n c : Nat) (xs : List Int) (T : List Int) (K : Int) (N G M : List UInt8) (e : Int) (w : World) (hg : Gs w) (hr : Rd w ao n c xs) (hn : n ≤ 16384) (hm : Tgg (tb xs) 0 T K N G M e) :
    Calls Tryz.prog 25 #[.slice ao n c] w fun ex w' => ex = .returned (.tuple #[dtg e T K N G M, .int .i64 e]) ∧ Below w.heap.size w w' := by
  refine (decodeTag_gen e ao n c w (fun f w' => Pt (w.heap.size + 1) e T K N G M f w') (fun f w1 w2 h hb => h.keep hb) (fun W hW => ?_)).mono ?_
  · refine (parse_tag ao n c xs T K N G M e W (hg.keep hW) (hr.keep hW) hn hm).mono ?_
    rintro ex w' ⟨f, rfl, h1, h2, h3⟩
    exact ⟨f, rfl, h1, ⟨fun he => by obtain ⟨ve, g1, g3⟩ := h2.ok he; exact ⟨ve, g1, g3.low (by have := hW.size; omega)⟩, h2.no⟩, h3⟩
  · rintro ex w' ⟨f, rfl, ⟨w1, hq, hf, hs⟩, hb⟩
    by_cases he : e = 0
    · obtain ⟨ve, rfl, g3⟩ := hq.ok he
      refine ⟨?_, hb⟩
      unfold dtg
      rw [if_pos he, psf_tf]
    · have h0 := hq.no he
      subst h0
      refine ⟨?_, hb⟩
      unfold dtg
      rw [if_neg he]
      show Ending.returned (.tuple #[row (fun j => psf nlv (cf z20 nlv [] [] []) (tf z20 0 [] [] []) nlv (25 + j)) 24, .int .i64 e]) = _
      rw [psf_tf]

theorem edgesTag_any (ao : Option Addr) (n c : Nat) (xs : List Int) (T : List Int) (K : Int) (N G M : List UInt8) (w : World) (hg : Gs w) (hr : Rd w ao n c xs) (hn : n ≤ 16384) (hm : Tgg (tb xs) 0 T K N G M 0) :
    Calls Tryz.prog 30 #[.int .i64 4, .slice ao n c] w fun ex w' => ∃ v r, ex = .returned (.tuple #[v, .int .i64 0]) ∧ Srt #[T] r ∧ Nw w.heap.size w' v r ∧ Below w.heap.size w w' := by
  refine edges_gen 4 ao n c w (fun f w' => Is w' (f 49) #[T]) #[T] (by simp) (fun f w' h => h) ?_
  refine (parse_tag ao n c xs T K N G M 0 w hg hr hn hm).mono ?_
  rintro ex w' ⟨f, rfl, h1, h2, h3⟩
  obtain ⟨ve, rfl, g3⟩ := h2.ok rfl
  exact ⟨_, rfl, h1, g3.is, h3⟩

end Go.Proofs.YtojgablpjdlegaaGreatDoor

/- What is written of a commit, of a tag, is read as it was: plain mathematics. -/
namespace Go.Proofs.YtojgablpjdlegaaGreatDoor
open Go.RowKit Go.Shelf

theorem par_tb (x : List Int) (h : IsId x) : par (ns ⟨(tb (hx x)).toArray⟩) = (x, 0) := by
  have hb := hx_byt x h.2
  rw [← tb_sv, ns_str (hx x) (fun c hc => (hb c hc).2)]
  unfold par
  rw [if_pos ⟨by rw [hx_len, h.1], fun c hc => (hb c hc).1⟩, pr_hx x h.2]

theorem hex_no10 (x : List Int) (h : IsId x) : ∀ b ∈ tb (hx x), b ≠ 10 := by
  intro b hb e
  unfold tb at hb
  obtain ⟨c, hc, rfl⟩ := List.mem_map.1 hb
  obtain ⟨h1, h2, h3⟩ := hx_byt x h.2 c hc
  have h4 := congrArg UInt8.toNat e
  rw [UInt8.toNat_ofNat'] at h4
  unfold isS at h1
  have : (10 : UInt8).toNat = 10 := rfl
  omega

theorem any_no (z p : UInt8) : ∀ l : List UInt8, Lib.containsAny l [p, z] = false → ∀ b ∈ l, b ≠ z
  | [], _, b, hb => by cases hb
  | a :: l, h, b, hb => by
    have hge := Lib.indexAny_ge [p, z] l
    unfold Lib.containsAny at h
    rw [Lib.indexAny] at h
    by_cases hc : ([p, z].contains a) = true
    · rw [if_pos hc] at h
      simp at h
    · rw [if_neg hc] at h
      rcases List.mem_cons.1 hb with rfl | hb
      · intro e
        subst e
        simp at hc
      · refine any_no z p l ?_ b hb
        unfold Lib.containsAny
        by_cases h1 : (Lib.indexAny l [p, z] == -1) = true
        · have := eq_of_beq h1
          simp [this]
        · rw [if_neg h1] at h
          simp only [decide_eq_false_iff_not] at h ⊢
          simp at h1
          omega

theorem txt_no10 (A : List UInt8) (m : Int) (h : txtB A m = true) : ∀ b ∈ A, b ≠ 10 := by
  unfold txtB at h
  simp only [Bool.and_eq_true, Bool.not_eq_true'] at h
  exact any_no 10 0 A h.2

theorem wl_no10 (k : Int) : ∀ b ∈ wl k, b ≠ 10 := by
  unfold wl wrd
  repeat' split
  all_goals decide

theorem nd_true (e k : Int) : nd true e k = e := by unfold nd; simp

/-- A line of a word, and what is behind it. -/
def ln (word x r : List UInt8) : List UInt8 := word ++ [32] ++ x ++ [10] ++ r

theorem idE_line (word x r : List UInt8) (T : List Int) (hT : IsId T) (hx0 : x = tb (hx T)) : idE word (ln word x r) 0 = 0 := by
  have h10 : ∀ b ∈ x, b ≠ 10 := by rw [hx0]; exact hex_no10 T hT
  unfold idE ln
  rw [lin_line word x r h10, lnF_line word x r h10]
  show nd (decide ((par (ns ⟨x.toArray⟩)).2 = 0)) (nd true 0 2) 2 = 0
  rw [hx0, par_tb T hT, nd_true]
  exact nd_true _ _

theorem msg_line (M : List UInt8) : msL ([10] ++ M) = M ∧ msE ([10] ++ M) 0 = 0 := by
  have h := cut_first 10 [] M (fun b hb => by cases hb)
  have h' : Lib.cut ([10] ++ M) [10] = ([], M, true) := h
  unfold msL msE
  rw [h']
  exact ⟨rfl, rfl⟩

theorem encT_lines (x : List Int) (k : Int) (N G M : List UInt8) : encT x k N G M = ln obw (tb (hx x)) (ln tyw (wl k) (ln taw N (ln tgw G ([10] ++ M)))) := by
  simp [encT, tls, wls, wln, ln, List.append_assoc]

theorem tgg_enc (x : List Int) (k : Int) (N G M : List UInt8) (hx0 : IsId x) (hm : mbT k N G = true) : Tgg (encT x k N G M) 0 x k N G M 0 := by
  have hp : isK k = true ∧ txtB N 100 = true ∧ txtB G 200 = true := by
    unfold mbT at hm
    simp at hm
    exact ⟨hm.1, hm.2.1, hm.2.2⟩
  have hN := txt_no10 N _ hp.2.1
  have hG := txt_no10 G _ hp.2.2
  rw [encT_lines]
  have e1 := lin_line obw (tb (hx x)) (ln tyw (wl k) (ln taw N (ln tgw G ([10] ++ M)))) (hex_no10 x hx0)
  have e2 := lnF_line tyw (wl k) (ln taw N (ln tgw G ([10] ++ M))) (wl_no10 k)
  have e3 := lnF_line taw N (ln tgw G ([10] ++ M)) hN
  have e4 := lnF_line tgw G ([10] ++ M) hG
  refine ⟨⟨ln tyw (wl k) (ln taw N (ln tgw G ([10] ++ M))), 0, wl k, ln taw N (ln tgw G ([10] ++ M)), 0, ln tgw G ([10] ++ M), 0, [10] ++ M, 0, 0, ?_, ?_, idE_line _ _ _ x hx0 rfl, lin_line _ _ _ (wl_no10 k), ?_, ?_, lin_line _ _ _ hN, ?_, lin_line _ _ _ hG, ?_, (msg_line M).1, (msg_line M).2, ?_⟩⟩
  · unfold ln at e1 ⊢
    rw [e1, par_tb x hx0]
  · unfold ln at e1 ⊢
    rw [e1]
  · unfold ln at e2 ⊢
    rw [e2]
    rfl
  · rw [kof_wl k hp.1]
  · unfold ln at e3 ⊢
    rw [e3]
    rfl
  · unfold ln at e4 ⊢
    rw [e4]
    rfl
  · rw [hm]
    rfl

theorem enc_lines (T : List Int) (ds : List (List Int)) (A C M : List UInt8) : enc T ds A C M = ln tre (tb (hx T)) (wls (ds.map pl) ++ ln aut A (ln com C ([10] ++ M))) := by
  simp [enc, wls, wls_app, wln, ln, List.append_assoc]

theorem pl_line (x : List Int) (r : List UInt8) : wln (pl x) ++ r = ln pnt (tb (hx x)) r := by
  simp [wln, pl, ln, List.append_assoc]

theorem ps_pl (rest : List UInt8) (hr : Lib.hasPrefix rest (pnt ++ [32]) = false) : ∀ ds : List (List Int), (∀ x ∈ ds, IsId x) → Ps (wls (ds.map pl) ++ rest) 0 ds rest 0
  | [], _ => .stop rest 0 hr
  | x :: ds, h => by
    have hx0 := h x (by simp)
    have ih := ps_pl rest hr ds (fun y hy => h y (by simp [hy]))
    rw [List.map_cons, wls, List.append_assoc, pl_line]
    have e1 := lin_line pnt (tb (hx x)) (wls (ds.map pl) ++ rest) (hex_no10 x hx0)
    have e2 := idE_line pnt (tb (hx x)) (wls (ds.map pl) ++ rest) x hx0 rfl
    have hp : Lib.hasPrefix (ln pnt (tb (hx x)) (wls (ds.map pl) ++ rest)) (pnt ++ [32]) = true := by
      unfold Lib.hasPrefix ln
      rw [List.isPrefixOf_iff_prefix]
      exact ⟨tb (hx x) ++ [10] ++ (wls (ds.map pl) ++ rest), by simp⟩
    have e3 : lin pnt (ln pnt (tb (hx x)) (wls (ds.map pl) ++ rest)) = (tb (hx x), wls (ds.map pl) ++ rest) := e1
    have h1 := Ps.more (ln pnt (tb (hx x)) (wls (ds.map pl) ++ rest)) 0 ds rest 0 hp (by rw [e3, e2]; exact ih)
    rw [e3, par_tb x hx0] at h1
    exact h1

theorem cmg_enc (T : List Int) (ds : List (List Int)) (A C M : List UInt8) (hT : IsId T) (hds : ∀ x ∈ ds, IsId x) (hm : mb A C ds = true) : Cmg (enc T ds A C M) 0 T ds A C M 0 := by
  obtain ⟨hta, htc, _, _⟩ := mb_parts hm
  have hA := txt_no10 A _ hta
  have hC := txt_no10 C _ htc
  have hnp : Lib.hasPrefix (ln aut A (ln com C ([10] ++ M))) (pnt ++ [32]) = false := by
    unfold Lib.hasPrefix ln
    rfl
  rw [enc_lines]
  obtain ⟨R, hR⟩ : ∃ R, R = ln aut A (ln com C ([10] ++ M)) := ⟨_, rfl⟩
  rw [← hR] at hnp ⊢
  have hps := ps_pl R hnp ds hds
  have e1 : lin tre (ln tre (tb (hx T)) (wls (ds.map pl) ++ R)) = (tb (hx T), wls (ds.map pl) ++ R) := lin_line tre (tb (hx T)) (wls (ds.map pl) ++ R) (hex_no10 T hT)
  have e3 : lin aut R = (A, ln com C ([10] ++ M)) := by rw [hR]; exact lin_line aut A _ hA
  have e4 : lnF aut R = (A, ln com C ([10] ++ M), true) := by rw [hR]; exact lnF_line aut A _ hA
  have e5 : lin com (ln com C ([10] ++ M)) = (C, [10] ++ M) := lin_line com C _ hC
  have e6 : lnF com (ln com C ([10] ++ M)) = (C, [10] ++ M, true) := lnF_line com C _ hC
  refine ⟨⟨wls (ds.map pl) ++ R, 0, R, 0, ln com C ([10] ++ M), 0, [10] ++ M, 0, 0, ?_, ?_, idE_line _ _ _ T hT rfl, hps, ?_, ?_, e3, ?_, e5, ?_, (msg_line M).1, (msg_line M).2, ?_⟩⟩
  · rw [e1, par_tb T hT]
  · rw [e1]
  · simp
  · rw [List.length_append, wls_pl ds hds]
    omega
  · rw [e4]
    rfl
  · rw [e6]
    rfl
  · rw [hm]
    rfl

end Go.Proofs.YtojgablpjdlegaaGreatDoor

/- The document's text, line's end. -/
namespace Go.Proofs.YtojgablpjdlegaaGreatDoor
open Go.RowKit Go.Shelf

set_option maxRecDepth 100000 in
set_option maxHeartbeats 2000000 in
theorem nl_any (w : World) : Calls Tryz.prog 79 #[] w fun e w' => e = .returned (sv [10]) ∧ Below w.heap.size w w' := by
  have b1 := new_below w (.cells #[.int .u8 10] 5)
  have HB : Hid (Below w.heap.size w (w.alloc (.cells #[.int .u8 10] 5))) := b1
  have ho : (w.alloc (.cells #[.int .u8 10] 5)).ownsRow w.heap.size 5 1 (.slice (some ⟨w.heap.size, 0, none⟩) 1 1) 1 ([(10 : Int)].map (Value.int .u8)) := World.ownsRow_lit (base := w.heap.size) (e := 5) (size := 1) w #[.int .u8 10] 1 (Nat.le_refl _) (by unfold maxLen; omega) rfl
  obtain ⟨ao, c, he, hrd, _⟩ := own_rd ho (by decide)
  cases he
  have hcv := hrd.str
  have e10 : strOfNums [10] = ⟨#[10]⟩ := rfl
  rw [e10] at hcv
  clear b1 ho hrd
  go_enter Tryz.func79, Tryz.ntmps79
  go_wp2_with fail
  go_ret
  exact ⟨rfl, HB.out⟩

theorem sv_at (l : List UInt8) (i : Nat) (h : i < l.length) (W : World) : (Instr.index 9 (sv l) (.int .i64 (i : Int))).run Tryz.prog W = .ok (.int .u8 ((l[i]).toNat : Int)) W := by
  have hs : i < (⟨l.toArray⟩ : ByteArray).size := by rw [size_sv]; exact h
  have := str_at ⟨l.toArray⟩ i hs W
  rw [this]
  have e : bt (ns ⟨l.toArray⟩) i = ((l[i]).toNat : Int) := by
    rw [bt_get (by rw [ns_len]; exact hs)]
    simp [ns]
  rw [e]

set_option maxRecDepth 100000 in
set_option maxHeartbeats 2000000 in
theorem rtext_any (l : List UInt8) (most : Int) (w : World) (hl : l.length ≤ 1000000) : Calls Tryz.prog 77 #[sv l, .int .i64 most] w fun e w' => e = .returned (.bool (txtB l most)) ∧ w' = w := by
  by_cases h0 : l = []
  · subst h0
    go_enter Tryz.func77, Tryz.ntmps77
    go_wp2
    go_ret
    exact ⟨rfl, rfl⟩
  · by_cases hm : most < (l.length : Int)
    · have e1 : l.isEmpty = false := by simp [h0]
      have e2 : decide (most < (l.length : Int)) = true := by simp [hm]
      have e3 : txtB l most = false := by unfold txtB; rw [e1]; simp; omega
      rw [e3]
      clear e3
      go_enter Tryz.func77, Tryz.ntmps77
      go_wp2
      go_ret
      exact ⟨rfl, rfl⟩
    · have e1 : l.isEmpty = false := by simp [h0]
      have e2 : decide (most < (l.length : Int)) = false := by simp; omega
      have e3 : txtB l most = !Lib.containsAny l [0, 10] := by unfold txtB; rw [e1]; simp; omega
      rw [e3]
      have HL : Hid (l.length ≤ 1000000) := hl
      clear e3 hl h0 hm
      go_enter Tryz.func77, Tryz.ntmps77
      go_wp2_with fail
      go_loopw [5] (fun s5 wr => wr = w ∧ ∃ i : Nat, s5 = .int .i64 (i : Int) ∧ i ≤ l.length ∧ Hid (Lib.NoAny l [0, 10] i)) (fun s5 _ => l.length - (intOf s5).toNat)
      case atStart => exact ⟨rfl, 0, rfl, Nat.zero_le _, Lib.NoAny.zero _ _⟩
      case round =>
        obtain ⟨hwr, i, rfl, hin, HNA⟩ := hrel
        subst hwr
        by_cases hlt : i < l.length
        · have d1 : decide ((i : Int) < (l.length : Int)) = true := by simp; omega
          have hq : (i : Int) < (l.length : Int) := by omega
          have hat := fun W => sv_at l i hlt W
          have hwk : IntKind.i64.wrap ((i : Int) + 1) = (i : Int) + 1 := by have := HL.out; rw [IntKind.wrap_i64]; omega
          have hget : l[i]? = some l[i] := List.getElem?_eq_getElem hlt
          obtain ⟨b, hb⟩ : ∃ b, b = l[i] := ⟨_, rfl⟩
          rw [← hb] at hat hget
          have HG : Hid (l[i]? = some b) := hget
          have HLT : Hid (i < l.length) := hlt
          clear hb hget hlt hin
          by_cases hc : b = 0 ∨ b = 10
          · have HC : Hid (Lib.containsAny l [0, 10] = true) := by
              show Lib.containsAny l [0, 10] = true
              unfold Lib.containsAny
              rw [Lib.indexAny_hit HNA.out HG.out (by rcases hc with rfl | rfl <;> rfl)]
              simp
            rcases hc with rfl | rfl
            · go_wp2_with fail
              go_ret
              exact ⟨by rw [HC.out]; rfl, rfl⟩
            · go_wp2_with fail
              go_ret
              exact ⟨by rw [HC.out]; rfl, rfl⟩
          · have f1 : ((b.toNat : Int) == 0) = false := by
              simp only [beq_eq_false_iff_ne, ne_eq]
              intro e
              exact hc (.inl (UInt8.toNat_inj.1 (by show b.toNat = 0; omega)))
            have f2 : ((b.toNat : Int) == 10) = false := by
              simp only [beq_eq_false_iff_ne, ne_eq]
              intro e
              exact hc (.inr (UInt8.toNat_inj.1 (by show b.toNat = 10; omega)))
            have HN1 : Hid (Lib.NoAny l [0, 10] (i + 1)) := HNA.out.succ HG.out (by simp only [not_or] at hc; simp [hc.1, hc.2])
            clear hc
            go_wp2_with fail
            exact ⟨⟨trivial, i + 1, by simp, HLT.out, HN1⟩, by simp [intOf]; have := HLT.out; omega⟩
        · have d1 : decide ((i : Int) < (l.length : Int)) = false := by simp; omega
          have hq : ¬ (i : Int) < (l.length : Int) := by omega
          have HC : Hid (Lib.containsAny l [0, 10] = false) := by
            show Lib.containsAny l [0, 10] = false
            have h := HNA.out
            rw [show i = l.length by omega] at h
            unfold Lib.containsAny
            rw [Lib.indexAny_none h]
            rfl
          go_wp2_with fail
          go_ret
          exact ⟨by rw [HC.out]; rfl, rfl⟩

end Go.Proofs.YtojgablpjdlegaaGreatDoor

/- Same. -/
namespace Go.Proofs.YtojgablpjdlegaaGreatDoor
open Go.RowKit

set_option maxRecDepth 100000 in
set_option maxHeartbeats 2000000 in
theorem same_wide (ao bo : Option Addr) (c c' n : Nat) (d : Array (List Int)) (w : World) (hids : ∀ i, i < n → IsId d[i]!) (hp0 : 0 < n → ∃ b b', ao = some ⟨b, 0, none⟩ ∧ bo = some ⟨b', 0, none⟩ ∧ ∀ W, Below w.heap.size w W → ∀ i, i < n → (loadVar 27 ⟨b, i * 20, none⟩).run Tryz.prog W = .ok (idv d[i]!) W ∧ (loadVar 26 ⟨b', i * 20, none⟩).run Tryz.prog W = .ok (idv d[i]!) W) (hsz : n < 100000) :
    Calls Tryz.prog 32 #[.slice ao n c, .slice bo n c'] w fun e w' => e = .returned (.bool true) ∧ Below w.heap.size w w' := by
  have HPP : Hid (0 < n → ∃ b b', ao = some ⟨b, 0, none⟩ ∧ bo = some ⟨b', 0, none⟩ ∧ ∀ W, Below w.heap.size w W → ∀ i, i < n → (loadVar 27 ⟨b, i * 20, none⟩).run Tryz.prog W = .ok (idv d[i]!) W ∧ (loadVar 26 ⟨b', i * 20, none⟩).run Tryz.prog W = .ok (idv d[i]!) W) := hp0
  have HID : Hid (∀ i, i < n → IsId d[i]!) := hids
  clear hp0 hids
  go_enter Tryz.func32, Tryz.ntmps32
  go_wp2_with fail
  go_loopw [5] (fun s5 wr => ∃ k : Nat, s5 = .int .i64 k ∧ k ≤ n ∧ Hid (Below w.heap.size w wr)) (fun s5 _ => n - (intOf s5).toNat)
  case atStart => exact ⟨0, rfl, Nat.zero_le _, Below.refl _ _⟩
  case round =>
    obtain ⟨k, rfl, hkn, HB⟩ := hrel
    by_cases hlt : k < n
    · have hq : (k : Int) < (n : Int) := by omega
      obtain ⟨b, b', rfl, rfl, hld⟩ := HPP.out (by omega)
      have hid := HID.out k hlt
      have H : Hid (∀ W, Below wr.heap.size wr W → (loadVar 27 ⟨b, k * 20, none⟩).run Tryz.prog W = .ok (idv d[k]!) W ∧ (loadVar 26 ⟨b', k * 20, none⟩).run Tryz.prog W = .ok (idv d[k]!) W) := fun W hW => hld W (HB.out.trans (hW.mono HB.out.size)) k hlt
      have he := fun W => eql_ids 27 Tryz.underlying27 hid hid W
      obtain ⟨x, hx⟩ : ∃ x, d[k]! = x := ⟨_, rfl⟩
      rw [hx] at H he
      have he' : ∀ W, (Op.equalIn 10000 27 (idv x) (idv x)).run Tryz.prog W = .ok true W := fun W => by rw [he W]; simp
      have hwk : IntKind.i64.wrap ((k : Int) + 1) = (k : Int) + 1 := by rw [IntKind.wrap_i64]; omega
      have HL : Hid (k < n) := hlt
      clear hid hld hx he HPP
      go_wp2_with fail
      refine wp_region_quiet (C := fun W => Below wr.heap.size wr W) (by kernel_rfl) (by kernel_rfl) (Below.refl _ _).drew ?_
      repeat
        refine wpQuiet_step (fun K hK => ?_)
        first
          | (refine q_ixb (by rfl) 45 _ _ rfl b 0 n c k (k * 20) _ rfl rfl (fun w => run_ixa33 b 0 n c k _ rfl HL.out w) (by omega) (hK _ ?_); clear hK K)
          | (refine q_ixb (by rfl) 50 _ _ rfl b' 0 n c' k (k * 20) _ rfl rfl (fun w => run_ixa35 b' 0 n c' k _ rfl HL.out w) (by omega) (hK _ ?_); clear hK K)
          | (refine q_load (by rfl) 27 _ rfl ⟨b, k * 20, none⟩ rfl (idv x) (fun W hW => (H.out W hW).1) (hK _ ?_); clear hK K)
          | (refine q_load (by rfl) 26 _ rfl ⟨b', k * 20, none⟩ rfl (idv x) (fun W hW => (H.out W hW).2) (hK _ ?_); clear hK K)
          | (go_simp; refine ⟨_, fun wq hs => rfl, hK _ ?_⟩; clear hK K)
      refine wpQuiet_nil ?_
      intro w2 hB2
      have HB2 : Hid (Below wr.heap.size wr w2) := hB2
      clear hB2
      go_wp2_with fail
      go_roundw
      case rel => exact ⟨k + 1, by simp, HL.out, HB.out.trans (HB2.out.mono HB.out.size)⟩
      case measure => simp [intOf]; have := HL.out; omega
    · obtain rfl : k = n := by omega
      have hq : ¬ (k : Int) < (k : Int) := by omega
      clear HPP
      go_wp2_with fail
      go_ret
      exact ⟨rfl, HB.out⟩

theorem same_yes (B B' : Nat) (v v' : Value) (d : Array (List Int)) (w : World) (h : Nw B w v d) (h' : Dn B' w v' d) (hsz : d.size < 100000) :
    Calls Tryz.prog 32 #[v, v'] w fun e w' => e = .returned (.bool true) ∧ Below w.heap.size w w' := by
  obtain ⟨bo, c', rfl⟩ := h'.shape
  rcases h with ⟨h0, ao, c, rfl⟩ | ⟨h0, b, c, rfl, _, _, hr⟩
  · rw [h0]
    exact same_wide ao bo c c' 0 d w (fun i hi => by omega) (fun h => by omega) (by omega)
  · obtain ⟨b', c2, e, _, _, hx⟩ := h'.row h0
    injection e with e1 e2 e3
    exact same_wide _ bo c c' d.size d w (fun i hi => hr.ids i hi) (fun _ => ⟨b, b', rfl, e1, fun W hW i hi => ⟨(hr.keep hW).load i hi, (hx.keep hW).load i hi⟩⟩) hsz

end Go.Proofs.YtojgablpjdlegaaGreatDoor

/- The document's twice. -/
namespace Go.Proofs.YtojgablpjdlegaaGreatDoor
open Go.RowKit Go.Shelf

/-- Of the first i none is there twice. -/
def Un (d : Array (List Int)) (i : Nat) : Prop := ∀ a b, b < a → a < i → d[a]! ≠ d[b]!

theorem un_nodup (d : Array (List Int)) (h : Un d d.size) : d.toList.Nodup := by
  unfold List.Nodup
  rw [List.pairwise_iff_getElem]
  intro i j hi hj hij e
  simp only [Array.length_toList] at hi hj
  refine h j i hij hj ?_
  rw [getElem!_pos d j hj, getElem!_pos d i hi]
  simpa using e.symm

theorem un_not (d : Array (List Int)) (a b : Nat) (hba : b < a) (ha : a < d.size) (e : d[a]! = d[b]!) : ¬ d.toList.Nodup := by
  intro h
  unfold List.Nodup at h
  rw [List.pairwise_iff_getElem] at h
  refine h b a (by simp; omega) (by simp; omega) hba ?_
  rw [getElem!_pos d a ha, getElem!_pos d b (by omega)] at e
  simpa using e.symm

set_option maxRecDepth 100000 in
set_option maxHeartbeats 4000000 in
theorem twice_any (B : Nat) (v : Value) (d : Array (List Int)) (w : World) (h : Dn B w v d) (hsz : d.size < 100000) :
    Calls Tryz.prog 76 #[v] w fun e w' => e = .returned (.bool (decide (¬ d.toList.Nodup))) ∧ Below w.heap.size w w' := by
  obtain ⟨ao, c, hv⟩ := h.shape
  obtain ⟨n, hn⟩ : ∃ n, n = d.size := ⟨_, rfl⟩
  rw [← hn] at hv
  subst hv
  have HP : Hid (0 < n → ∃ b, ao = some ⟨b, 0, none⟩ ∧ ∀ V, Below w.heap.size w V → ∀ i, i < n → (loadVar 26 ⟨b, i * 20, none⟩).run Tryz.prog V = .ok (idv d[i]!) V) := fun h0 => by
    obtain ⟨b, c2, e, _, _, hx⟩ := h.row (by omega)
    injection e with e1 e2 e3
    exact ⟨b, e1, fun V hV i hi => (hx.keep hV).load i (by omega)⟩
  have HID : Hid (∀ i, i < n → IsId d[i]!) := fun i hi => h.ids i (by omega)
  have HN : Hid (n = d.size ∧ n < 100000) := ⟨hn, by omega⟩
  obtain ⟨r, hr⟩ : ∃ r, r = decide (¬ d.toList.Nodup) := ⟨_, rfl⟩
  have HRR : Hid (r = decide (¬ d.toList.Nodup)) := hr
  rw [← hr]
  clear h hsz hn hr
  go_enter Tryz.func76, Tryz.ntmps76
  go_wp2_with fail
  go_loopw [3] (fun s3 wr => ∃ i : Nat, s3 = .int .i64 (i : Int) ∧ i ≤ n ∧ Hid (Un d i) ∧ Hid (Below w.heap.size w wr)) (fun s3 _ => n - (intOf s3).toNat)
  case atStart => exact ⟨0, rfl, Nat.zero_le _, fun a b _ h => by omega, Below.refl _ _⟩
  case round =>
    obtain ⟨i, rfl, hin, HU, HB⟩ := hrel
    by_cases hlt : i < n
    · have hq : (i : Int) < (n : Int) := by omega
      have d1 : decide ((i : Int) < (n : Int)) = true := by simp; omega
      have hwk : IntKind.i64.wrap ((i : Int) + 1) = (i : Int) + 1 := by have := HN.out; rw [IntKind.wrap_i64]; omega
      have HLT : Hid (i < n) := hlt
      go_wp2_with fail
      go_loopw [4] (fun s4 wq => ∃ k : Nat, s4 = .int .i64 (k : Int) ∧ k ≤ i ∧ Hid (∀ b, b < k → d[i]! ≠ d[b]!) ∧ Hid (Below w.heap.size w wq)) (fun s4 _ => i - (intOf s4).toNat)
      case atStart => exact ⟨0, rfl, Nat.zero_le _, fun b hb => by omega, HB⟩
      case round =>
        obtain ⟨k, rfl, hki, HK, HBk⟩ := hrel
        by_cases hlk : k < i
        · have hq2 : (k : Int) < (i : Int) := by omega
          have d2 : decide ((k : Int) < (i : Int)) = true := by simp; omega
          have hwk2 : IntKind.i64.wrap ((k : Int) + 1) = (k : Int) + 1 := by have := HN.out; rw [IntKind.wrap_i64]; omega
          obtain ⟨b, rfl, hld⟩ := HP.out (by omega)
          have H : Hid (∀ W, Below wr.heap.size wr W → (loadVar 26 ⟨b, i * 20, none⟩).run Tryz.prog W = .ok (idv d[i]!) W ∧ (loadVar 26 ⟨b, k * 20, none⟩).run Tryz.prog W = .ok (idv d[k]!) W) := fun W hW => ⟨hld W (HBk.out.trans (hW.mono HBk.out.size)) i HLT.out, hld W (HBk.out.trans (hW.mono HBk.out.size)) k (by have := HLT.out; omega)⟩
          have HKN : Hid (k < n) := by show k < n; have := HLT.out; omega
          have HKI : Hid (k < i) := hlk
          have he := fun W => eql_ids 26 Tryz.underlying26 (HID.out i HLT.out) (HID.out k HKN.out) W
          obtain ⟨x, hx⟩ : ∃ x, d[i]! = x := ⟨_, rfl⟩
          obtain ⟨y, hy⟩ : ∃ y, d[k]! = y := ⟨_, rfl⟩
          rw [hx, hy] at H he
          have HX : Hid (d[i]! = x ∧ d[k]! = y) := ⟨hx, hy⟩
          clear hld hx hy hlk hki
          by_cases hxy : x = y
          · have he' : ∀ W, (Op.equalIn 10000 26 (idv x) (idv y)).run Tryz.prog W = .ok true W := fun W => by rw [he W]; simp [hxy]
            have HD : Hid (¬ d.toList.Nodup) := un_not d i k HKI.out (by have h1 := HLT.out; have h2 := HN.out.1; omega) (by rw [HX.out.1, HX.out.2, hxy])
            clear he hxy
            go_wp2_with fail
            refine wp_region_quiet (C := fun W => Below wr.heap.size wr W) (by kernel_rfl) (by kernel_rfl) (Below.refl _ _).drew ?_
            repeat
              refine wpQuiet_step (fun K hK => ?_)
              first
                | (refine q_ixb (by rfl) 50 _ _ rfl b 0 n c i (i * 20) _ rfl rfl (fun w => run_ixa35 b 0 n c i _ rfl HLT.out w) (by omega) (hK _ ?_); clear hK K)
                | (refine q_ixb (by rfl) 50 _ _ rfl b 0 n c k (k * 20) _ rfl rfl (fun w => run_ixa35 b 0 n c k _ rfl HKN.out w) (by omega) (hK _ ?_); clear hK K)
                | (refine q_load (by rfl) 26 _ rfl ⟨b, i * 20, none⟩ rfl (idv x) (fun W hW => (H.out W hW).1) (hK _ ?_); clear hK K)
                | (refine q_load (by rfl) 26 _ rfl ⟨b, k * 20, none⟩ rfl (idv y) (fun W hW => (H.out W hW).2) (hK _ ?_); clear hK K)
                | (go_simp; refine ⟨_, fun wq hs => rfl, hK _ ?_⟩; clear hK K)
            refine wpQuiet_nil ?_
            intro w2 hB2
            have HB2 : Hid (Below wr.heap.size wr w2) := hB2
            clear hB2
            go_wp2_with fail
            go_ret
            exact ⟨by rw [HRR.out, decide_eq_true HD.out]; rfl, HBk.out.trans (HB2.out.mono HBk.out.size)⟩
          · have he' : ∀ W, (Op.equalIn 10000 26 (idv x) (idv y)).run Tryz.prog W = .ok false W := fun W => by rw [he W]; simp [hxy]
            have HD : Hid (∀ b, b < k + 1 → d[i]! ≠ d[b]!) := fun b hb => by
              by_cases e : b = k
              · subst e
                rw [HX.out.1, HX.out.2]
                exact hxy
              · exact HK.out b (by omega)
            clear he hxy
            go_wp2_with fail
            refine wp_region_quiet (C := fun W => Below wr.heap.size wr W) (by kernel_rfl) (by kernel_rfl) (Below.refl _ _).drew ?_
            repeat
              refine wpQuiet_step (fun K hK => ?_)
              first
                | (refine q_ixb (by rfl) 50 _ _ rfl b 0 n c i (i * 20) _ rfl rfl (fun w => run_ixa35 b 0 n c i _ rfl HLT.out w) (by omega) (hK _ ?_); clear hK K)
                | (refine q_ixb (by rfl) 50 _ _ rfl b 0 n c k (k * 20) _ rfl rfl (fun w => run_ixa35 b 0 n c k _ rfl HKN.out w) (by omega) (hK _ ?_); clear hK K)
                | (refine q_load (by rfl) 26 _ rfl ⟨b, i * 20, none⟩ rfl (idv x) (fun W hW => (H.out W hW).1) (hK _ ?_); clear hK K)
                | (refine q_load (by rfl) 26 _ rfl ⟨b, k * 20, none⟩ rfl (idv y) (fun W hW => (H.out W hW).2) (hK _ ?_); clear hK K)
                | (go_simp; refine ⟨_, fun wq hs => rfl, hK _ ?_⟩; clear hK K)
            refine wpQuiet_nil ?_
            intro w2 hB2
            have HB2 : Hid (Below wr.heap.size wr w2) := hB2
            clear hB2
            go_wp2_with fail
            exact ⟨⟨k + 1, by simp, HKI.out, HD, HBk.out.trans (HB2.out.mono HBk.out.size)⟩, by simp [intOf]; have := HKI.out; omega⟩
        · obtain rfl : k = i := by omega
          have hq2 : ¬ (k : Int) < (k : Int) := by omega
          have d2 : decide ((k : Int) < (k : Int)) = false := by simp
          have HU1 : Hid (Un d (k + 1)) := fun a b hba ha => by
            by_cases e : a = k
            · subst e
              exact HK.out b hba
            · exact HU.out a b hba (by omega)
          go_wp2_with fail
          exact ⟨⟨k + 1, by simp, HLT.out, HU1, HBk⟩, by simp [intOf]; have := HLT.out; omega⟩
    · obtain rfl : i = n := by omega
      have hq : ¬ (i : Int) < (i : Int) := by omega
      have d1 : decide ((i : Int) < (i : Int)) = false := by simp
      have HD : Hid (¬ ¬ d.toList.Nodup) := fun h => h (un_nodup d (by rw [← HN.out.1]; exact HU.out))
      go_wp2_with fail
      go_ret
      exact ⟨by rw [HRR.out, decide_eq_false HD.out]; rfl, HB.out⟩

end Go.Proofs.YtojgablpjdlegaaGreatDoor
