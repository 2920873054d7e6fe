/- The walk of LimitCodes. -/
import Derived.Test.YtkclaikofdolmaaLWider
import Derived.Test.YtkclaikofdolmaaBack
namespace Go.Proofs.Ytkclaikofdolmaa
open Go.RowKit

theorem hidc {p : Prop} (h : p) : Hid p := h

theorem stepw_of {R : Nat} {v v' : Value} {w w' : World} {N : Int} {q : Nat} {hv : Int} (s : Step R v v' w w') (B : Nat) (r : Raw w R v N q hv) (hB : ∀ k, Of R v k → B ≤ k) : Below B w w' ∧ ∀ k, Of R v' k → B ≤ k := by
  have hlt := r.row.lt
  have hR := hB R (.inl rfl)
  exact ⟨s.below B (by omega) hB, s.from B (by omega) hB⟩

theorem BC_pos (q : Nat → Nat) (u j : Nat) (h : j < u) : 0 < BC q (q j) u := by
  induction u with
  | zero => omega
  | succ u ih =>
    simp only [BC]
    rcases Nat.lt_or_ge j u with h' | h'
    · have := ih h'
      split <;> omega
    · obtain rfl : j = u := by omega
      rw [if_pos rfl]
      have := (BC_bound q (q j) j).1
      omega

theorem counts_ok (q : Nat → Nat) (u m : Nat) (hu : u ≤ 600) (h8 : 8 ≤ m) (h15 : m ≤ 15) : lerr (fun s => BC q s u) 256 m = 0 := by
  unfold lerr
  have hk : okc (fun s => BC q s u) 256 = true := (okc_iff _ _).2 ⟨by omega, fun j _ => by have := BC_bound q j u; exact ⟨by omega, by omega⟩⟩
  rw [if_pos ⟨hk, by omega, by omega⟩, Int.toNat_natCast, if_neg]
  have h1 := sy_le (fun s => BC q s u) 256
  have h2 : 2 ^ 8 ≤ 2 ^ m := Nat.pow_le_pow_right (by decide) h8
  omega

theorem codes_skip (ao : Option Addr) (u c : Nat) (most : Int) (w : World) (h : u = 0 ∨ 600 < u ∨ most < 8 ∨ 15 < most) :
    Calls Try.prog 6 #[.slice ao u c, .int .i64 most] w fun e w' => e = .returned (.bool true) ∧ Below w.heap.size w w' := by
  by_cases h0 : u = 0
  · subst h0
    clear h
    go_enter Try.func6, Try.ntmps6
    go_wp2_with (go_at_call 7; refine (known_any _).mono ?_; rintro e w1 ⟨rfl, hb⟩)
    go_ret
    exact ⟨rfl, hb⟩
  have q0 : ((u : Int) == 0) = false := by simp; omega
  by_cases h1 : 600 < u
  · have d1 : decide ((600 : Int) < (u : Int)) = true := by simp; omega
    clear h h0 h1
    go_enter Try.func6, Try.ntmps6
    go_wp2_with (go_at_call 7; refine (known_any _).mono ?_; rintro e w1 ⟨rfl, hb⟩)
    go_ret
    exact ⟨rfl, hb⟩
  have d1 : decide ((600 : Int) < (u : Int)) = false := by simp; omega
  by_cases h2 : most < 8
  · have d2 : decide (most < 8) = true := by simp; omega
    clear h h0 h1 h2
    go_enter Try.func6, Try.ntmps6
    go_wp2_with (go_at_call 7; refine (known_any _).mono ?_; rintro e w1 ⟨rfl, hb⟩)
    go_ret
    exact ⟨rfl, hb⟩
  have d2 : decide (most < 8) = false := by simp; omega
  have d3 : decide (15 < most) = true := by simp; omega
  clear h h0 h1 h2
  go_enter Try.func6, Try.ntmps6
  go_wp2_with (go_at_call 7; refine (known_any _).mono ?_; rintro e w1 ⟨rfl, hb⟩)
  go_ret
  exact ⟨rfl, hb⟩

set_option maxRecDepth 100000 in
set_option maxHeartbeats 8000000 in
theorem codes_go (ao : Option Addr) (u c m : Nat) (xs : List Int) (w : World) (hr : Rd w ao u c xs) (hu0 : 0 < u) (hu : u ≤ 600) (h8 : 8 ≤ m) (h15 : m ≤ 15) :
    Calls Try.prog 6 #[.slice ao u c, .int .i64 m] w fun e w' => e = .returned (.bool true) ∧ Below w.heap.size w w' := by
  have q0 : ((u : Int) == 0) = false := by simp; omega
  have d1 : decide ((600 : Int) < (u : Int)) = false := by simp; omega
  have d2 : decide ((m : Int) < 8) = false := by simp; omega
  have d3 : decide ((15 : Int) < (m : Int)) = false := by simp; omega
  obtain ⟨q, hq⟩ : ∃ q : Nat → Nat, ∀ j, j < u → xs.getD j 0 = (q j : Int) ∧ q j < 256 := ⟨fun j => (xs.getD j 0).toNat, fun j hj => by
    have hm : xs.getD j 0 ∈ xs := by
      have hl := hr.len
      rw [List.getD_eq_getElem?_getD, List.getElem?_eq_getElem (by omega)]
      exact List.getElem_mem _
    have := hr.byt _ hm
    show xs.getD j 0 = ((xs.getD j 0).toNat : Int) ∧ (xs.getD j 0).toNat < 256
    omega⟩
  have hcell0 : ∀ w', Below w.heap.size w w' → ∃ b off, ao = some ⟨b, off, none⟩ ∧ ∀ j, j < u → w'.cell? ⟨b, off + j, none⟩ = some (.int .u8 (q j : Int)) := fun w' hb => by
    obtain ⟨b, off, e, hc⟩ := (hr.keep hb).plain hu0
    exact ⟨b, off, e, fun j hj => by rw [hc j hj, (hq j hj).1]⟩
  obtain ⟨b0, off0, e0, _⟩ := hcell0 w (Below.refl _ _)
  have HCELL : Hid (∀ w', Below w.heap.size w w' → ∀ j, j < u → w'.cell? ⟨b0, off0 + j, none⟩ = some (.int .u8 (q j : Int))) := fun w' hb j hj => by
    obtain ⟨b, off, e, hc⟩ := hcell0 w' hb
    rw [e0] at e
    cases e
    exact hc j hj
  have hle := hr.le
  have HQ : Hid (∀ j, j < u → q j < 256) := fun j hj => (hq j hj).2
  have HE : Hid (lerr (fun s => BC q s u) 256 m = 0) := counts_ok q u m hu h8 h15
  subst e0
  clear hcell0 hq hr
  obtain ⟨i0, hi, hz0, hz1, hz2⟩ := info_parts Try.info3
  go_enter Try.func6, Try.ntmps6
  go_wp2_with fail
  refine (known_any _).mono ?_
  rintro e w1 ⟨rfl, b1⟩
  have B1 := hidc b1
  clear b1
  have hmk : (Instr.makeSlice 22 (.int .i64 256) (.int .i64 256)).run Try.prog w1 = .ok (.slice (some ⟨w1.heap.size, 0, none⟩) 256 256) (w1.alloc (.cells (madeCells #[.int .i64 0] 256) 3)) := run_make_row (P := Try.prog) 22 3 i0 (.int .i64 0) Try.underlying22 hi hz0 hz1 rfl .i64 .i64 256 (by rw [hz2]; omega) (by omega) w1
  have R0 : Hid ((w1.alloc (.cells (madeCells #[.int .i64 0] 256) 3)).rowIs w1.heap.size 3 256 (fun s => .int .i64 (BC q s 0))) := (made_row w1 256).congr (fun j _ => rfl)
  have B2 := hidc (B1.out.alloc B1.out.size (.cells (madeCells #[.int .i64 0] 256) 3))
  have HCb : Hid (w.heap.size ≤ w1.heap.size) := B1.out.size
  go_wp2_with fail
  obtain ⟨Cb, hCb⟩ : ∃ Cb, Cb = w1.heap.size := ⟨_, rfl⟩
  rw [← hCb] at R0 HCb ⊢
  clear hCb hmk hi hz0 hz1 hz2 B1
  go_loopw [6] (fun iv wr => ∃ i : Nat, iv = .int .i64 i ∧ i ≤ u ∧ Hid (wr.rowIs Cb 3 256 (fun s => .int .i64 (BC q s i))) ∧ Hid (Below w.heap.size w wr)) (fun iv _ => u - (intOf iv).toNat)
  case atStart => exact ⟨0, rfl, by omega, R0, B2⟩
  case round =>
    clear R0 B2
    obtain ⟨i, rfl, hi, RC, BB⟩ := hrel
    by_cases hlt : i < u
    · have ci := HCELL.out wr BB.out i hlt
      have hqi := HQ.out i hlt
      have cq := RC.out.cell (i := q i) hqi
      have zq := RC.out.frozen (q i)
      have hbc := BC_bound q (q i) i
      have R1 : Hid ((wr.setCell ⟨Cb, q i, none⟩ (.int .i64 (BC q (q i) i + 1))).rowIs Cb 3 256 (fun s => .int .i64 (BC q s (i + 1)))) := (RC.out.set (q i) _).congr (fun j _ => by
        simp only [BC]
        by_cases e : j = q i
        · subst e; rw [if_pos rfl, if_pos rfl]
        · rw [if_neg e, if_neg (fun h => e h.symm), Int.add_zero])
      have Bn := hidc (BB.out.setCell (p := ⟨Cb, q i, none⟩) HCb.out (.int .i64 (BC q (q i) i + 1)))
      generalize BC q (q i) i = y at *
      obtain ⟨s, hs⟩ : ∃ s, s = q i := ⟨_, rfl⟩
      rw [← hs] at ci hqi cq zq R1 Bn
      clear hs RC BB
      go_wp2
      go_roundw
      case rel => exact ⟨i + 1, by go_num, by omega, R1, Bn⟩
      case measure => simp [intOf]; omega
    · obtain rfl : i = u := by omega
      clear hlt
      obtain ⟨D, hD⟩ : ∃ D : Nat → Int, D = fun s => BC q s i := ⟨_, rfl⟩
      rw [← hD] at HE
      have HD := hidc hD
      have hDb : Hid (∀ j, j < 256 → 0 ≤ D j ∧ D j ≤ 16777216) := fun j _ => by rw [hD]; have := BC_bound q j i; show 0 ≤ BC q j i ∧ BC q j i ≤ 16777216; omega
      have RC2 : Hid (wr.rowIs Cb 3 256 (fun s => .int .i64 (D s))) := by rw [hD]; exact RC.out
      clear RC hD
      go_wp2_with fail
      refine (lens_yes _ 256 256 D m wr (Ri.row RC2.out) HE.out).mono ?_
      rintro e w2 ⟨B, L, rfl, hr, gd, hB, b2⟩
      rw [Int.toNat_natCast] at gd
      have GD := hidc gd
      have RL : Hid (Ri w2 (some ⟨B, 0, none⟩) 256 256 L) := Ri.row hr
      have RC3 := hidc (RC2.out.of_block (b2.block Cb RC2.out.lt))
      have B2 := hidc (BB.out.trans (b2.mono BB.out.size))
      clear hr gd hB b2 RC2 BB
      go_wp2_with fail
      refine (least_yes _ 256 256 D m w2 (Ri.row RC3.out) HE.out).mono ?_
      rw [Int.toNat_natCast]
      rintro e w3 ⟨rfl, b3⟩
      have RL3 := hidc (RL.out.keep b3)
      have RC4 := hidc (RC3.out.of_block (b3.block Cb RC3.out.lt))
      have B3 := hidc (B2.out.trans (b3.mono B2.out.size))
      have HV : Hid (CS L D 256 = lc D 256 m) := GD.out.cost
      generalize lc D 256 m = V at *
      clear b3 RL RC3 B2
      go_wp2_with fail
      refine (new_yes _ 256 256 L true w3 RL3.out (GD.out.nw h15 (by omega))).mono ?_
      rintro e w4 ⟨R, K, rfl, cod, b4⟩
      have CD := hidc cod
      have RC5 := hidc (RC4.out.of_block (b4.block Cb RC4.out.lt))
      have B4 := hidc (B3.out.trans (b4.mono B3.out.size))
      clear cod b4 RL3 RC4 B3
      go_wp2_with fail
      refine (cost_any R K L D 256 _ 256 w4 CD.out (Ri.row RC5.out) hDb.out).mono ?_
      rw [HV.out]
      rintro e w5 ⟨rfl, hw5⟩
      have b5 : Below w4.heap.size w4 w5 := by rw [hw5]; exact (Below.refl _ _).drew
      have CD5 := hidc (CD.out.keep (b5.mono CD.out.kw))
      have B5 := hidc (B4.out.trans (b5.mono B4.out.size))
      clear hw5 b5 CD RC5 B4
      go_wp2_with fail
      refine (newW_any w5).mono ?_
      rintro e w6 ⟨Q, rfl, hW, hQ, b6⟩
      have CD6 := hidc (CD5.out.keep (b6.mono CD5.out.kw))
      have B6 := hidc (B5.out.trans (b6.mono B5.out.size))
      have HKQ : Hid (K ≤ Q ∧ w.heap.size ≤ Q) := ⟨by rw [← hQ]; exact CD5.out.kw, by rw [← hQ]; exact B5.out.size⟩
      have W6 := hidc hW
      have O6 : Hid (∀ k, Of Q (.slice none 0 0) k → Q ≤ k) := by
        rintro k (rfl | hk)
        · exact Nat.le_refl _
        · cases hk
      have HLm := hidc (GD.out.lm h15)
      have GOOD : Hid (Good L 256 q i) := fun j hj => by
        have h1 := HQ.out j hj
        refine ⟨h1, ?_⟩
        have h2 := GD.out.pos (q j) h1 (by rw [HD.out]; exact BC_pos q i j hj)
        omega
      have HFit : Hid (Fits L 256) := (er_zero L 256 (GD.out.er h15 (by omega))).2.2
      have hV : V = (BL L q i : Int) := by rw [← HV.out, HD.out]; exact CS_is L 256 q i GOOD.out
      subst hV
      have hbl := BL_le L 256 q i HLm.out GOOD.out
      clear hW hQ b6 CD5 B5 HV HD hDb HE GD
      go_wp2_with fail
      go_loopw [14] (fun iv wr => ∃ (t : Nat) (v : Value), iv = .int .i64 t ∧ t ≤ i ∧ Hid (IsW wr Q v (BN L 256 q t) (BL L q t)) ∧ Hid (Cod wr R K L 256) ∧ Hid (∀ k, Of Q v k → Q ≤ k) ∧ Hid (Below w.heap.size w wr)) (fun iv _ => i - (intOf iv).toNat)
      case atStart => exact ⟨0, _, rfl, by omega, W6, CD6, O6, B6⟩
      case round =>
        clear W6 CD6 O6 B6
        obtain ⟨t, v, rfl, ht, WW, CC, OO, BB2⟩ := hrel
        by_cases hlt : t < i
        · have ci := HCELL.out _ BB2.out t hlt
          have hqi := HQ.out t hlt
          have hg := GOOD.out t hlt
          obtain ⟨x, hx⟩ := Int.eq_ofNat_of_zero_le (show 0 ≤ L (q t) by omega)
          have hx15 : x ≤ 15 := by have := (HLm.out (q t) hqi).2; omega
          have hblt := BL_mono L q t i (by omega)
          have hyes := cput_yes R K L 256 Q v (BN L 256 q t) (BL L q t) (q t) x _ CC.out WW.out (fun k hk => Nat.le_trans HKQ.out.1 (OO.out k hk)) hqi hx (by omega) (by omega)
          have HE1 : Hid (BN L 256 q (t + 1) = BN L 256 q t + 2 ^ BL L q t * T (cd L 256 (q t)) x) := by show _ = _; simp only [BN]; rw [hx, Int.toNat_natCast]
          have HE2 : Hid (BL L q (t + 1) = BL L q t + x) := by show _ = _; simp only [BL]; rw [hx, Int.toNat_natCast]
          obtain ⟨s, hs⟩ : ∃ s, s = q t := ⟨_, rfl⟩
          rw [← hs] at ci hqi hyes HE1
          clear hs hx hg
          go_wp2_with fail
          refine hyes.mono ?_
          rintro e w7 ⟨rfl, v7, hw7, s7⟩
          have st := stepw_of s7 Q WW.out.raw OO.out
          have W7 : Hid (IsW w7 Q v7 (BN L 256 q (t + 1)) (BL L q (t + 1))) := by rw [HE1.out, HE2.out]; exact hw7
          have C7 := hidc (CC.out.keep (st.1.mono HKQ.out.1))
          have O7 := hidc st.2
          have B7 := hidc (BB2.out.trans (st.1.mono HKQ.out.2))
          clear hw7 s7 st hyes WW CC OO BB2 HE1 HE2
          go_wp2_with fail
          go_roundw
          case rel => exact ⟨t + 1, v7, by go_num, by omega, W7, C7, O7, B7⟩
          case measure => simp [intOf]; omega
        · obtain rfl : t = i := by omega
          clear hlt
          have hlen := len_any Q v (BN L 256 q t) (BL L q t) _ WW.out (by omega)
          go_wp2_with fail
          refine hlen.mono ?_
          rintro e w7 ⟨rfl, hw7⟩
          have b7 : Below wr.heap.size wr w7 := by rw [hw7]; exact (Below.refl _ _).drew
          have W7 := hidc (WW.out.keep b7)
          have C7 := hidc (CC.out.keep (b7.mono CC.out.kw))
          have B7 := hidc (BB2.out.trans (b7.mono BB2.out.size))
          clear hw7 b7 hlen WW CC OO BB2
          obtain ⟨mb, hmb⟩ : ∃ mb, mb = (BL L q t + 7) / 8 := ⟨_, rfl⟩
          have hml : BL L q t ≤ 8 * mb := by omega
          have hm600 : mb ≤ 2000 := by omega
          go_wp2_with fail
          refine (done_any Q v (BN L 256 q t) (BL L q t) w7 W7.out (by omega)).mono ?_
          rintro e w8 ⟨v8, rfl, o8, b8⟩
          obtain ⟨fo, fc, rfl, r8, _⟩ := own_rd o8 (by8_byt _ _)
          have B8 := hidc (B7.out.trans (b8.mono B7.out.size))
          have C8 := hidc (C7.out.keep (b8.mono C7.out.kw))
          rw [← hmb] at r8
          have R8 := hidc r8
          simp only [← hmb]
          clear o8 b8 W7 hmb B7 C7 r8
          go_wp2_with fail
          refine (newR_any fo mb fc (BN L 256 q t) w8 R8.out (by omega)).mono ?_
          rintro e w9 ⟨P, ro, rc, rfl, hR9, hP, _, b9⟩
          have B9 := hidc (B8.out.trans (b9.mono B8.out.size))
          have C9 := hidc (C8.out.keep (b9.mono C8.out.kw))
          have HKP : Hid (K ≤ P ∧ w.heap.size ≤ P) := ⟨by have := C8.out.kw; omega, by have := B8.out.size; omega⟩
          have R9 := hidc hR9
          clear hR9 hP b9 B8 C8 R8
          go_wp2_with fail
          go_loopw [16, 17, 18] (fun iv _ _ wr => ∃ j : Nat, iv = .int .i64 j ∧ j ≤ t ∧ Hid (IsR wr P ro mb rc (BN L 256 q t) (BL L q j)) ∧ Hid (Cod wr R K L 256) ∧ Hid (Below w.heap.size w wr)) (fun iv _ _ _ => t - (intOf iv).toNat)
          case atStart => exact ⟨0, rfl, by omega, R9, C9, B9⟩
          case round =>
            clear R9 C9 B9
            obtain ⟨j, rfl, hj, R10, C10, B10⟩ := hrel
            by_cases hju : j < t
            · obtain ⟨hqn, hq0⟩ := GOOD.out j hju
              obtain ⟨x, hx⟩ := Int.eq_ofNat_of_zero_le (show 0 ≤ L (q j) by omega)
              have hx15 : x ≤ 15 := by have := (HLm.out (q j) hqn).2; omega
              have hnx := next_any R K L 256 P ro mb rc (BN L 256 q t) (BL L q j) _ C10.out R10.out HKP.out.1
              go_wp2_with fail
              refine hnx.mono ?_
              rintro e w11 ⟨s', g', p', rfl, hN, hR11, f11⟩
              obtain ⟨rfl, rfl, rfl⟩ := BN_next L 256 q j t x mb s' g' p' HFit.out hju hx (by omega) hx15 hqn hml hN
              have C11 := hidc (C10.out.keep (f11.below K C10.out.kw (fun i hi e => by have := HKP.out.1; omega)))
              have B11 := hidc (B10.out.trans (f11.below _ B10.out.size (fun i hi e => by have := HKP.out.2; omega)))
              have R11 := hidc hR11
              have cj := HCELL.out w11 B11.out j hju
              obtain ⟨s, hs⟩ : ∃ s, s = q j := ⟨_, rfl⟩
              rw [← hs] at cj hqn ⊢
              clear hs hN hR11 f11 hx hq0 hnx R10 C10 B10
              go_wp2_with fail
              go_roundw
              case rel => exact ⟨j + 1, by go_num, by omega, R11, C11, B11⟩
              case measure => simp [intOf]; omega
            · clear R10 C10
              go_wp2_with fail
              go_ret
              exact ⟨rfl, B10.out⟩

theorem codes_any (ao : Option Addr) (u c : Nat) (most : Int) (xs : List Int) (w : World) (h : Rd w ao u c xs) :
    Calls Try.prog 6 #[.slice ao u c, .int .i64 most] w fun e w' => e = .returned (.bool true) ∧ Below w.heap.size w w' := by
  by_cases hs : u = 0 ∨ 600 < u ∨ most < 8 ∨ 15 < most
  · exact codes_skip ao u c most w hs
  · obtain ⟨m, rfl⟩ : ∃ m : Nat, most = m := ⟨most.toNat, by omega⟩
    exact codes_go ao u c m xs w h (by omega) (by omega) (by omega) (by omega)

end Go.Proofs.Ytkclaikofdolmaa
