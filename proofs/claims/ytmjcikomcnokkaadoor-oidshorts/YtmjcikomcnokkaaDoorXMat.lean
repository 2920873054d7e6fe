/- The document's Match. -/
import Derived.Test.YtmjcikomcnokkaaDoorLCouh
import Derived.Test.YtmjcikomcnokkaaDoorXSet
namespace Go.Proofs.YtmjcikomcnokkaaDoor
open Go.RowKit

theorem wpList_sl9w {ops : Array Oper} {rest : List Oper} {op : Oper} {a : Act} {w : World} {Q : Exit → Act → World → Prop} (hw : Region.wanted op (yielded ops a.tmps) = true) (x y : Operand) (ho : op.op = .slice 9 x none (some y) none) (u t : Value) (hx : a.eval x = u) (hy : a.eval y = t) (v : Value)
    (h : (Instr.sliceAt 9 u none (some t) none).run Tryd.prog w = .ok v w) (hk : wpList Tryd.prog ops Q rest (a.put op.dst v) w) : wpList Tryd.prog ops Q (op :: rest) a w := by
  unfold wpList
  rw [if_pos hw]
  refine .inl ?_
  unfold Oper.wp
  simp only [execOp, ho, hx, hy, Option.map_none, Option.map_some, Sem.run_bind, h, Result.andThen_ok, Sem.run_pure]
  exact hk

theorem ns_inj {s t : ByteArray} (h : ns s = ns t) : s = t := by rw [← str_ns s, h, str_ns t]

theorem pf_str {x : List Int} {P : ByteArray} (h : IsId x) : (strOfNums ((hx x).take P.size) = P) ↔ pf (ns P) x := by
  unfold pf
  rw [ns_len]
  have hns : ns (strOfNums ((hx x).take P.size)) = (hx x).take P.size := ns_str _ (fun c hc => (hx_byt x h.2 c (List.mem_of_mem_take hc)).2)
  constructor
  · intro e
    rw [← hns, e]
  · intro e
    exact ns_inj (by rw [hns, e])

set_option maxRecDepth 100000 in
theorem front_yes (x : List Int) (P : ByteArray) (hx0 : IsId x) (hP : P.size ≤ 40) (hpf : pf (ns P) x) (w : World) :
    Calls Tryd.prog 37 #[.string (strOfNums (hx x)), .string P] w fun e w' => e = .returned (.bool true) ∧ Below w.heap.size w w' := by
  have hsz : (strOfNums (hx x)).size = 40 := by rw [str_size, hx40 hx0]
  have hcut := run_strsl (strOfNums (hx x)) P.size (by rw [hsz]; exact hP) w
  rw [str_take, (pf_str hx0).2 hpf] at hcut
  have g1 : decide ((P.size : Int) ≤ 40) = true := by simp; omega
  have g1' : (P.size : Int) ≤ 40 := by omega
  generalize strOfNums (hx x) = H at *
  clear hpf hP
  go_enter Tryd.func37, Tryd.ntmps37
  go_wp2_with (refine wpList_sl9w (by rfl) _ _ rfl (.string H) (.int .i64 P.size) rfl rfl (.string P) hcut ?_)
  go_ret
  exact ⟨by simp, Below.refl _ _⟩

set_option maxRecDepth 100000 in
theorem front_no (x : List Int) (P : ByteArray) (hx0 : IsId x) (hP : P.size ≤ 40) (hpf : ¬ pf (ns P) x) (w : World) :
    Calls Tryd.prog 37 #[.string (strOfNums (hx x)), .string P] w fun e w' => e = .returned (.bool false) ∧ Below w.heap.size w w' := by
  have hsz : (strOfNums (hx x)).size = 40 := by rw [str_size, hx40 hx0]
  have hcut := run_strsl (strOfNums (hx x)) P.size (by rw [hsz]; exact hP) w
  rw [str_take] at hcut
  have hne : ¬ strOfNums ((hx x).take P.size) = P := fun e => hpf ((pf_str hx0).1 e)
  have g1 : decide ((P.size : Int) ≤ 40) = true := by simp; omega
  have g1' : (P.size : Int) ≤ 40 := by omega
  generalize strOfNums ((hx x).take P.size) = S at *
  generalize strOfNums (hx x) = H at *
  have hne2 : ¬ S.toList = P.toList := fun e => hne (by
    rw [Lib.toList_data, Lib.toList_data] at e
    exact ByteArray.ext (Array.toList_inj.1 e))
  have hne3 : (S.toList == P.toList) = false := by simpa using hne2
  clear hpf hP hne
  go_enter Tryd.func37, Tryd.ntmps37
  go_wp2_with (refine wpList_sl9w (by rfl) _ _ rfl (.string H) (.int .i64 P.size) rfl rfl (.string S) hcut ?_)
  go_ret
  exact ⟨by simp, Below.refl _ _⟩

/-- How many of the first i names begin with p, and the last of them. -/
def Ct (r : Array (List Int)) (p : List Int) (i c : Nat) (y : List Int) : Prop :=
  (c = 0 ∧ ∀ q, q < i → ¬ pf p r[q]!) ∨ (c = 1 ∧ ∃ q, q < i ∧ pf p r[q]! ∧ y = r[q]! ∧ ∀ q', q' < i → pf p r[q']! → q' = q) ∨ (2 ≤ c ∧ ∃ q1 q2, q1 < q2 ∧ q2 < i ∧ pf p r[q1]! ∧ pf p r[q2]!)

theorem ct_zero (r : Array (List Int)) (p y : List Int) : Ct r p 0 0 y := .inl ⟨rfl, fun q hq => by omega⟩

theorem ct_yes {r : Array (List Int)} {p : List Int} {i c : Nat} {y : List Int} (h : Ct r p i c y) (hp : pf p r[i]!) : Ct r p (i + 1) (c + 1) r[i]! := by
  rcases h with ⟨rfl, h⟩ | ⟨rfl, q, h1, h2, h3, h4⟩ | ⟨h0, q1, q2, h1, h2, h3, h4⟩
  · refine .inr (.inl ⟨rfl, i, by omega, hp, rfl, fun q' hq' hp' => ?_⟩)
    by_cases e : q' = i
    · exact e
    · exact absurd hp' (h q' (by omega))
  · exact .inr (.inr ⟨by omega, q, i, h1, by omega, h2, hp⟩)
  · exact .inr (.inr ⟨by omega, q1, q2, h1, by omega, h3, h4⟩)

theorem ct_no {r : Array (List Int)} {p : List Int} {i c : Nat} {y : List Int} (h : Ct r p i c y) (hp : ¬ pf p r[i]!) : Ct r p (i + 1) c y := by
  rcases h with ⟨rfl, h⟩ | ⟨rfl, q, h1, h2, h3, h4⟩ | ⟨h0, q1, q2, h1, h2, h3, h4⟩
  · refine .inl ⟨rfl, fun q hq => ?_⟩
    by_cases e : q = i
    · subst e; exact hp
    · exact h q (by omega)
  · refine .inr (.inl ⟨rfl, q, by omega, h2, h3, fun q' hq' hp' => ?_⟩)
    by_cases e : q' = i
    · subst e; exact absurd hp' hp
    · exact h4 q' (by omega) hp'
  · exact .inr (.inr ⟨h0, q1, q2, h1, by omega, h3, h4⟩)

theorem z_row22 (w : World) : (w.alloc (Obj.cells zcs 22)).rowIs w.heap.size 22 20 (cl z20) := z_row w 22

set_option maxRecDepth 100000 in
set_option maxHeartbeats 4000000 in
theorem xmatch_yes (B : Nat) (v : Value) (r : Array (List Int)) (s : ByteArray) (w : World) (h : Dn B w v r) (hsz : r.size < 100000) (h4 : 4 ≤ s.size) (h40 : s.size ≤ 40) (hS : ∀ c ∈ ns s, isS c) :
    Calls Tryd.prog 25 #[v, .string s] w fun e w' => ∃ x ee, e = .returned (.tuple #[idv x, .int .i64 ee]) ∧ Mt r (ns s) x ee ∧ Below w.heap.size w w' := by
  obtain ⟨ao, c, rfl⟩ := h.shape
  have HP : Hid (0 < r.size → ∃ b, ao = some ⟨b, 0, none⟩ ∧ ∀ W, Below w.heap.size w W → ∀ i, i < r.size → (loadVar 22 ⟨b, i * 20, none⟩).run Tryd.prog W = .ok (idv r[i]!) W) := fun h0 => by
    obtain ⟨b, c', e, _, _, hr⟩ := h.row h0
    injection e with e1 e2 e3
    exact ⟨b, e1, fun W hW i hi => (hr.keep hW).load i hi⟩
  have HI : Hid (∀ i, i < r.size → IsId r[i]!) := h.ids
  obtain ⟨m, hm⟩ : ∃ m, r.size = m := ⟨_, rfl⟩
  have HM : Hid (r.size = m) := hm
  rw [hm] at HP HI hsz ⊢
  have q4 : decide ((s.size : Int) < 4) = false := by simp; omega
  have q40 : decide ((40 : Int) < (s.size : Int)) = false := by simp; omega
  have q4' : ¬ s.size < 4 := by omega
  have q40' : ¬ 40 < s.size := by omega
  have HSs : Hid (∀ i, i < s.size → isS (bt (ns s) i)) := (all_isS (ns s) s.size (ns_len s)).1 hS
  have HBt : Hid (∀ i, i < s.size → 0 ≤ bt (ns s) i ∧ bt (ns s) i < 256) := fun i hi => by
    rw [bt_get (by rw [ns_len]; exact hi)]
    exact ns_byt s _ (List.getElem_mem _)
  have HSz : Hid (s.size ≤ 40) := h40
  have r1 := z_row22 w
  have HB : Hid (Below w.heap.size w (w.alloc (Obj.cells zcs 22))) := new_below _ _
  obtain ⟨w0, hw0⟩ : ∃ w0, w.alloc (Obj.cells zcs 22) = w0 := ⟨_, rfl⟩
  have HW0 : Hid (w.alloc (Obj.cells zcs 22) = w0) := hw0
  rw [hw0] at r1 HB
  have HR1 : Hid (w0.rowIs w.heap.size 22 20 (cl z20)) := r1
  obtain ⟨p, hpe⟩ : ∃ p, ns s = p := ⟨_, rfl⟩
  have HPe : Hid (ns s = p) := hpe
  rw [hpe]
  clear h hm hw0 r1 h4 h40 hS hpe
  go_enter Tryd.func25, Tryd.ntmps25
  go_wp2_with fail
  rw [show w.alloc (Obj.cells #[.int .u8 0, .int .u8 0, .int .u8 0, .int .u8 0, .int .u8 0, .int .u8 0, .int .u8 0, .int .u8 0, .int .u8 0, .int .u8 0, .int .u8 0, .int .u8 0, .int .u8 0, .int .u8 0, .int .u8 0, .int .u8 0, .int .u8 0, .int .u8 0, .int .u8 0, .int .u8 0] 22) = w0 from HW0.out]
  go_loopw [6] (fun s6 wr => ∃ i : Nat, s6 = .int .i64 i ∧ i ≤ s.size ∧ wr = w0) (fun s6 _ => s.size - (intOf s6).toNat)
  case atStart => exact ⟨0, rfl, Nat.zero_le _, rfl⟩
  case round =>
    obtain ⟨i, rfl, hi2, hwr⟩ := hrel
    subst hwr
    by_cases hi : i < s.size
    · have hqi : (i : Int) < (s.size : Int) := by omega
      have hat := fun W => str_at s i hi W
      have hdi := fun W => digit_any (bt (ns s) i) (HBt.out i hi).1 (HBt.out i hi).2 W
      have hisS := HSs.out i hi
      have hdb := dg_b _ hisS
      rw [if_pos hisS] at hdi
      generalize bt (ns s) i = ch at hat hdi hisS hdb
      have g1 : decide (dg ch < 0) = false := by simp; omega
      have g1' : ¬ dg ch < 0 := by omega
      have hwi : IntKind.i64.wrap ((i : Int) + 1) = (i : Int) + 1 := by have := HSz.out; rw [IntKind.wrap_i64]; omega
      have HIi : Hid (i < s.size) := hi
      clear hisS hdb hi2
      go_wp2_with (go_at_call 28; refine (hdi _).mono ?_; rintro e w2 ⟨rfl, hw2⟩; subst w2)
      exact ⟨⟨i + 1, by simp, HIi.out, trivial⟩, by simp [intOf]; have := HIi.out; omega⟩
    · have hqi : ¬ (i : Int) < (s.size : Int) := by omega
      have hza : (wr.alloc (Obj.cells zcs 22)).heap.size = wr.heap.size + 1 := by simp
      have r7 := z_row22 wr
      have b7 : Below wr.heap.size wr (wr.alloc (Obj.cells zcs 22)) := new_below _ _
      obtain ⟨w7, hw7⟩ : ∃ w7, wr.alloc (Obj.cells zcs 22) = w7 := ⟨_, rfl⟩
      have HW7 : Hid (wr.alloc (Obj.cells zcs 22) = w7) := hw7
      rw [hw7] at r7 b7
      have R4 : Hid (w7.rowIs w.heap.size 22 20 (cl z20)) := rowIs_fr (P := fun _ => False) HR1.out (Fr.ofBelow b7) (fun h => h)
      have R7 : Hid (w7.rowIs wr.heap.size 22 20 (cl z20)) := r7
      have B7 : Hid (Below w.heap.size w w7) := HB.out.trans (b7.mono HB.out.size)
      have HT : Hid (w.heap.size < wr.heap.size) := HR1.out.lt
      clear r7 b7 hza hw7 hi hi2 HR1 HSs HBt HW0
      obtain ⟨T, hTe⟩ : ∃ T, wr.heap.size = T := ⟨_, rfl⟩
      go_wp2_with fail
      rw [show wr.alloc (Obj.cells #[.int .u8 0, .int .u8 0, .int .u8 0, .int .u8 0, .int .u8 0, .int .u8 0, .int .u8 0, .int .u8 0, .int .u8 0, .int .u8 0, .int .u8 0, .int .u8 0, .int .u8 0, .int .u8 0, .int .u8 0, .int .u8 0, .int .u8 0, .int .u8 0, .int .u8 0, .int .u8 0] 22) = w7 from HW7.out]
      rw [hTe] at R7 HT
      clear hTe HW7
      go_loopw [8, 9] (fun s8 s9 wq => ∃ (i cc : Nat) (y : List Int), s8 = .int .i64 cc ∧ s9 = .int .i64 i ∧ i ≤ m ∧ cc ≤ i ∧ Hid (Ct r p i cc y) ∧ Hid (wq.rowIs T 22 20 (cl y)) ∧ Hid (wq.rowIs w.heap.size 22 20 (cl z20)) ∧ Hid (Below w.heap.size w wq)) (fun _ s9 _ => m - (intOf s9).toNat)
      case atStart => exact ⟨0, 0, z20, rfl, rfl, Nat.zero_le _, Nat.le_refl _, ct_zero r p z20, R7, R4, B7⟩
      case round =>
        obtain ⟨i, cc, y, rfl, rfl, him, hci, HC, I7, I4, IB⟩ := hrel
        clear R7 R4 B7
        by_cases hi : i < m
        · have hqi : (i : Int) < (m : Int) := by omega
          obtain ⟨b, rfl, hld⟩ := HP.out (by omega)
          have hid := HI.out i hi
          have hwi : IntKind.i64.wrap ((i : Int) + 1) = (i : Int) + 1 := by rw [IntKind.wrap_i64]; omega
          have hwc : IntKind.i64.wrap ((cc : Int) + 1) = (cc : Int) + 1 := by rw [IntKind.wrap_i64]; omega
          have HIi : Hid (i < m ∧ cc ≤ i) := ⟨hi, hci⟩
          have hl0 := hld wr IB.out i hi
          have HLd : Hid (∀ W, Below w.heap.size w W → (loadVar 22 ⟨b, i * 20, none⟩).run Tryd.prog W = .ok (idv r[i]!) W) := fun W hW => hld W hW i hi
          have hhx := rhex_any r[i]! hid wr
          have HCy : Hid (pf p r[i]! → Ct r p (i + 1) (cc + 1) r[i]!) := fun hp => ct_yes HC.out hp
          have HCn : Hid (¬ pf p r[i]! → Ct r p (i + 1) cc y) := fun hp => ct_no HC.out hp
          have hfy := fun W (hp : pf p r[i]!) => front_yes r[i]! s hid HSz.out (by rw [HPe.out]; exact hp) W
          have hfn := fun W (hp : ¬ pf p r[i]!) => front_no r[i]! s hid HSz.out (by rw [HPe.out]; exact hp) W
          have HFy : Hid _ := hfy
          have HFn : Hid _ := hfn
          clear hfy hfn hld
          obtain ⟨x, hx0⟩ : ∃ x, r[i]! = x := ⟨_, rfl⟩
          rw [hx0] at hid hl0 HLd hhx HCy HCn HFy HFn
          clear hx0 hid HC him hci
          by_cases hp : pf p x
          · have hfr := fun W => HFy.out W hp
            have HV := HCy.out hp
            have HV' : Hid _ := HV
            clear HV HFy HFn HCy HCn
            go_wp2_with (first
              | (refine wpList_ldv rfl 22 _ rfl ⟨b, i * 20, none⟩ rfl (idv x) hl0 ?_; clear hl0)
              | (go_at_call 12; refine hhx.mono ?_; rintro e w8 ⟨rfl, b8⟩; have B8 : Hid (Below w.heap.size w w8) := IB.out.trans (b8.mono IB.out.size); have J7 := rowIs_fr (P := fun _ => False) I7.out (Fr.ofBelow b8) (fun h => h); have J4 := rowIs_fr (P := fun _ => False) I4.out (Fr.ofBelow b8) (fun h => h); clear b8 hhx I7 I4 IB)
              | (go_at_call 37; refine (hfr _).mono ?_; rintro e w9 ⟨rfl, b9⟩; have B9 : Hid (Below w.heap.size w w9) := B8.out.trans (b9.mono B8.out.size); have L7 := rowIs_fr (P := fun _ => False) J7 (Fr.ofBelow b9) (fun h => h); have L4 : Hid _ := rowIs_fr (P := fun _ => False) J4 (Fr.ofBelow b9) (fun h => h); have hl9 := HLd.out w9 B9.out; clear b9 J7 J4 B8 hfr)
              | (refine wpList_ldv rfl 22 _ rfl ⟨b, i * 20, none⟩ rfl (idv x) hl9 ?_; clear hl9)
              | (refine wpList_st rfl 22 _ _ rfl T rfl (cl x) rfl L7 size22 (fun j => rfl) ?_; intro w10 r10 f10; have R10 : Hid (w10.rowIs T 22 20 (cl x)) := r10; have F10 : Hid (Fr (fun k => k = T) w9 w10) := f10; clear L7 r10 f10))
            refine ⟨⟨i + 1, cc + 1, x, by simp, by simp, HIi.out.1, by have := HIi.out; omega, HV', R10, rowIs_fr L4.out F10.out (by have := HT.out; omega), B9.out.trans (F10.out.below _ B9.out.size (fun k hk => by have := HT.out; omega))⟩, by simp [intOf]; have := HIi.out; omega⟩
          · have hfr := fun W => HFn.out W hp
            have HV := HCn.out hp
            have HV' : Hid _ := HV
            clear HV HFy HFn HCy HCn
            go_wp2_with (first
              | (refine wpList_ldv rfl 22 _ rfl ⟨b, i * 20, none⟩ rfl (idv x) hl0 ?_; clear hl0)
              | (go_at_call 12; refine hhx.mono ?_; rintro e w8 ⟨rfl, b8⟩; have B8 : Hid (Below w.heap.size w w8) := IB.out.trans (b8.mono IB.out.size); have J7 := rowIs_fr (P := fun _ => False) I7.out (Fr.ofBelow b8) (fun h => h); have J4 := rowIs_fr (P := fun _ => False) I4.out (Fr.ofBelow b8) (fun h => h); clear b8 hhx I7 I4 IB)
              | (go_at_call 37; refine (hfr _).mono ?_; rintro e w9 ⟨rfl, b9⟩; have B9 : Hid (Below w.heap.size w w9) := B8.out.trans (b9.mono B8.out.size); have L7 : Hid _ := rowIs_fr (P := fun _ => False) J7 (Fr.ofBelow b9) (fun h => h); have L4 : Hid _ := rowIs_fr (P := fun _ => False) J4 (Fr.ofBelow b9) (fun h => h); clear b9 J7 J4 B8 hfr))
            refine ⟨⟨i + 1, cc, y, by simp, by simp, HIi.out.1, by have := HIi.out; omega, HV', L7, L4, B9⟩, by simp [intOf]; have := HIi.out; omega⟩
        · obtain rfl : i = m := by omega
          have hqi : ¬ (i : Int) < (i : Int) := by omega
          have hmr := HM.out
          have i4 := I4.out
          have i7 := I7.out
          have HT2 : Hid (w.heap.size ≠ T) := by show w.heap.size ≠ T; have := HT.out; omega
          rcases HC.out with ⟨h0, h1⟩ | ⟨h0, q, h1, h2, h3, h4⟩ | ⟨h0, q1, q2, h1, h2, h3, h4⟩
          · subst h0
            have HM' : Hid (Mt r p z20 6) := .none (fun q hq => h1 q (by omega))
            clear h1 HC hmr hci him i7
            go_wp2_with (refine wpList_st rfl 22 _ _ rfl w.heap.size rfl (cl z20) rfl i4 size22 (fun j => rfl) ?_; intro w6 h6 f6; clear i4)
            refine bodyPost_ret (results_two rfl _ rfl h6 Tryd.underlying22 rfl size22) rfl ⟨z20, 6, rfl, HM'.out, ?_⟩
            exact st_below IB.out f6
          · subst h0
            have HM' : Hid (Mt r p y 0) := by rw [h3]; exact .one q (by omega) h2 (fun q' hq' hp' => h4 q' (by omega) hp')
            clear h1 h2 h3 h4 HC hmr hci him
            go_wp2_with (first
              | (refine wpList_ld0 rfl 22 _ rfl T rfl _ i7 20 (by omega) Tryd.underlying22 rfl size22 ?_; clear i7)
              | (refine wpList_st rfl 22 _ _ rfl w.heap.size rfl (cl y) rfl i4 size22 (fun j => rfl) ?_; intro w6 h6 f6; clear i4))
            refine bodyPost_ret (results_two rfl _ rfl h6 Tryd.underlying22 rfl size22) rfl ⟨y, 0, rfl, HM'.out, ?_⟩
            exact st_below IB.out f6
          · have HM' : Hid (Mt r p z20 9) := .many q1 q2 h1 (by omega) h3 h4
            have g0 : ((cc : Int) == 0) = false := by simp; omega
            have g1 : ((cc : Int) == 1) = false := by simp; omega
            have g0' : ¬ cc = 0 := by omega
            have g1' : ¬ cc = 1 := by omega
            have g1'' : ¬ (cc : Int) = 1 := by omega
            clear h1 h2 h3 h4 HC hmr hci him i7 h0
            go_wp2_with (refine wpList_st rfl 22 _ _ rfl w.heap.size rfl (cl z20) rfl i4 size22 (fun j => rfl) ?_; intro w6 h6 f6; clear i4)
            refine bodyPost_ret (results_two rfl _ rfl h6 Tryd.underlying22 rfl size22) rfl ⟨z20, 9, rfl, HM'.out, ?_⟩
            exact st_below IB.out f6

end Go.Proofs.YtmjcikomcnokkaaDoor
