/- The walk of HuffBack. -/
import Derived.Test.YtjipohcacimkmaaWKnown
import Derived.Test.YtjipohcacimkmaaBack
namespace Go.Proofs.Ytjipohcacimkmaa
open Go.RowKit

theorem of_nil {R B : Nat} (h : B ≤ R) : ∀ k, Of R (.slice none 0 0) k → B ≤ k := by
  rintro k (rfl | hk)
  · exact h
  · cases hk

theorem step_of {R : Nat} {v v' : Value} {w w' : World} {N : Int} {q : Nat} {hv : Int} (s : Step R v v' w w') (B : Nat) (r : Raw w R v N q hv) (hB : ∀ k, Of R v k → B ≤ k) : Below B w w' ∧ ∀ k, Of R v' k → B ≤ k := by
  have hlt := r.row.lt
  have hR := hB R (.inl rfl)
  exact ⟨s.below B (by omega) hB, s.from B (by omega) hB⟩

/-- A code, a writer, counts, and what was put, side by side. -/
structure BS (w : World) (R K : Nat) (L : Nat → Int) (n Q D Cb : Nat) (v : Value) (N : Int) (len : Nat) (Dc : Nat → Int) (pv : Value) (u : Nat) (xs : List Value) (wr : World) : Prop where
  cod : Cod wr R K L n
  wri : IsW wr Q v N len
  cnt : wr.rowIs Cb 3 n (fun j => .int .i64 (Dc j))
  put : wr.ownsRow D 3 1 pv u xs
  oQ : ∀ k, Of Q v k → D ≤ k
  sC : ∀ k, Of Q v k → k ≠ Cb
  sP : ∀ k, Of Q v k → pv.ownBlock ≠ some k
  cP : pv.ownBlock ≠ some Cb
  cD : D ≤ Cb
  kD : K ≤ D
  wD : w.heap.size ≤ D
  bel : Below w.heap.size w wr

section
variable {w : World} {R K : Nat} {L : Nat → Int} {n Q D Cb : Nat} {v : Value} {N : Int} {len : Nat} {Dc : Nat → Int} {pv : Value} {u : Nat} {xs : List Value} {wr : World}

theorem BS.step1 (h : BS w R K L n Q D Cb v N len Dc pv u xs wr) {v' : Value} {w' : World} {N' : Int} {len' : Nat} (s : Step Q v v' wr w') (hw : IsW w' Q v' N' len') : BS w R K L n Q D Cb v' N' len' Dc pv u xs w' := by
  obtain ⟨sb, so⟩ := step_of s D h.wri.raw h.oQ
  refine ⟨h.cod.keep (sb.mono h.kD), hw, rowIs_fr h.cnt s.fr (fun hk => h.sC Cb hk rfl), ownsRow_fr h.put s.fr (fun k hk hq => h.sP k hq hk), so, ?_, ?_, h.cP, h.cD, h.kD, h.wD, h.bel.trans (sb.mono h.wD)⟩
  · exact s.apart (fun k => k = Cb) (fun k hk => by rw [hk]; exact h.cnt.lt) (fun k hk => h.sC k hk)
  · exact s.apart (fun k => pv.ownBlock = some k) (fun k hk => (h.put.lt k hk).2) (fun k hk => h.sP k hk)

theorem BS.step2 (h : BS w R K L n Q D Cb v N len Dc pv u xs wr) {o : Obj} {w' : World} {g c u' : Nat} {ys : List Value} (hg : (wr.alloc o).grownBy w' pv.ownBlock) (ho : w'.ownsRow D 3 1 (.slice (some ⟨g, 0, none⟩) u' c) u' ys) (hl : pv.ownBlock = some g ∨ g = wr.heap.size + 1) :
    BS w R K L n Q D Cb v N len Dc (.slice (some ⟨g, 0, none⟩) u' c) u' ys w' := by
  have f : Fr (fun k => pv.ownBlock = some k) wr w' := ((Fr.refl _ wr).alloc o).grown hg (fun k _ hk => hk)
  have sb : Below D wr w' := f.below D (Nat.le_trans h.cD (Nat.le_of_lt h.cnt.lt)) (fun i hi hk => by have := (h.put.lt i hk).1; omega)
  refine ⟨h.cod.keep (sb.mono h.kD), h.wri.fr f (fun k hk => h.sP k hk), rowIs_fr h.cnt f h.cP, ho, h.oQ, h.sC, ?_, ?_, h.cD, h.kD, h.wD, h.bel.trans (sb.mono h.wD)⟩
  · intro k hk e
    have e' : g = k := by simpa [Value.ownBlock] using e
    subst e'
    rcases hl with h1 | h1
    · exact h.sP g hk h1
    · have := h.wri.raw.lt g hk
      omega
  · intro e
    have e' : g = Cb := by simpa [Value.ownBlock] using e
    subst e'
    rcases hl with h1 | h1
    · exact h.cP h1
    · have := h.cnt.lt
      omega

theorem BS.step3 (h : BS w R K L n Q D Cb v N len Dc pv u xs wr) (s : Nat) (z : Int) : BS w R K L n Q D Cb v N len (fun j => if j = s then z else Dc j) pv u xs (wr.setCell ⟨Cb, s, none⟩ (.int .i64 z)) := by
  have f : Fr (fun k => k = Cb) wr (wr.setCell ⟨Cb, s, none⟩ (.int .i64 z)) := (Fr.refl (fun k => k = Cb) wr).setCell rfl _
  have sb : Below D wr (wr.setCell ⟨Cb, s, none⟩ (.int .i64 z)) := f.below D (Nat.le_trans h.cD (Nat.le_of_lt h.cnt.lt)) (fun i hi hk => by have := h.cD; omega)
  refine ⟨h.cod.keep (sb.mono h.kD), h.wri.fr f (fun k hk => h.sC k hk), (h.cnt.set s _).congr (fun j _ => ?_), ownsRow_fr h.put f (fun k hk e => h.cP (by rw [hk, e])), h.oQ, h.sC, h.sP, h.cP, h.cD, h.kD, h.wD, h.bel.trans (sb.mono h.wD)⟩
  by_cases e : j = s
  · rw [if_pos e, if_pos e]
  · rw [if_neg e, if_neg e]

end

theorem back_skip (ao so : Option Addr) (n c m d : Nat) (w : World) (h : 400 < n ∨ 300 < m) :
    Calls Try.prog 5 #[.slice ao n c, .slice so m d] w fun e w' => e = .returned (.bool true) ∧ Below w.heap.size w w' := by
  by_cases h1 : 400 < n
  · have d1 : decide ((400 : Int) < (n : Int)) = true := by simp; omega
    clear h h1
    go_enter Try.func5, Try.ntmps5
    go_wp2_with (go_at_call 9; refine (known_any _).mono ?_; rintro e w1 ⟨rfl, hb⟩)
    go_ret
    exact ⟨rfl, hb⟩
  · have d1 : decide ((400 : Int) < (n : Int)) = false := by simp; omega
    have d2 : decide ((300 : Int) < (m : Int)) = true := by simp; omega
    clear h h1
    go_enter Try.func5, Try.ntmps5
    go_wp2_with (go_at_call 9; refine (known_any _).mono ?_; rintro e w1 ⟨rfl, hb⟩)
    go_ret
    exact ⟨rfl, hb⟩

theorem back_none (ao so : Option Addr) (n c m d : Nat) (L : Nat → Int) (w : World) (hn : n ≤ 400) (hm : m ≤ 300) (hl : Ri w ao n c L) (he : nw L n true ≠ 0) :
    Calls Try.prog 5 #[.slice ao n c, .slice so m d] w fun e w' => e = .returned (.bool true) ∧ Below w.heap.size w w' := by
  have d1 : decide ((400 : Int) < (n : Int)) = false := by simp; omega
  have d2 : decide ((300 : Int) < (m : Int)) = false := by simp; omega
  have q1 : (nw L n true == 0) = false := by simp [he]
  go_enter Try.func5, Try.ntmps5
  go_wp2_with (go_at_call 9; refine (known_any _).mono ?_; rintro e w1 ⟨rfl, b1⟩)
  refine (new_no ao n c L true w1 (hl.keep b1) he).mono ?_
  rintro e w2 ⟨rfl, b2⟩
  have B2 := b1.trans (b2.mono b1.size)
  clear hl b1 b2
  generalize nw L n true = x at *
  go_wp2_with fail
  go_ret
  exact ⟨rfl, B2⟩

theorem dnb (w : World) (q : Nat) : Below w.heap.size w (w.drewN q) := ⟨rfl, rfl, rfl, Nat.le_refl _, fun _ _ => rfl⟩

theorem ext_list (q : Nat → Nat) (u s : Nat) : vals (fun j => Value.int .i64 (q j : Int)) u ++ [.int .i64 (s : Int)] = vals (fun j => Value.int .i64 (ext q u s j : Int)) (u + 1) := by
  unfold vals
  rw [List.range_succ, List.map_append]
  congr 1
  · exact List.map_congr_left (fun j hj => by rw [ext_old q u s j (by simpa using hj)])
  · simp [ext]

set_option maxRecDepth 100000 in
set_option maxHeartbeats 8000000 in
theorem back_go (ao so : Option Addr) (n c m d : Nat) (L S : Nat → Int) (w : World) (hn : n ≤ 400) (hm : m ≤ 300) (hl : Ri w ao n c L) (hs : Ri w so m d S) (he : nw L n true = 0) :
    Calls Try.prog 5 #[.slice ao n c, .slice so m d] w fun e w' => e = .returned (.bool true) ∧ Below w.heap.size w w' := by
  obtain ⟨i0, hi, hz0, hz1, hz2⟩ := info_parts Try.info3
  have d1 : decide ((400 : Int) < (n : Int)) = false := by simp; omega
  have d2 : decide ((300 : Int) < (m : Int)) = false := by simp; omega
  obtain ⟨h288, hL, hf⟩ := er_zero L n (nw_zero L n true he).1
  have HL : Hid (∀ j, j < n → Lm (L j)) := hL
  have HF : Hid (Fits L n) := hf
  have HRl : Hid (Ri w ao n c L) := hl
  have HRs : Hid (Ri w so m d S) := hs
  go_enter Try.func5, Try.ntmps5
  go_wp2_with (go_at_call 9; refine (known_any _).mono ?_; rintro e w1 ⟨rfl, b1⟩)
  refine (new_yes ao n c L true w1 (hl.keep b1) he).mono ?_
  rintro e w2 ⟨R, K, rfl, hC, b2⟩
  have B2 := b1.trans (b2.mono b1.size)
  clear b1 b2 hl hs he hL hf
  go_wp2_with fail
  refine (newW_any w2).mono ?_
  rintro e w3 ⟨Q, rfl, hW, hQ, b3⟩
  have B3 := B2.trans (b3.mono B2.size)
  have hC3 := hC.keep (b3.mono hC.kw)
  obtain ⟨D, hD⟩ : ∃ D, D = w2.heap.size := ⟨_, rfl⟩
  have bA : Below w3.heap.size w3 (w3.alloc (.cells (madeCells #[Value.int .i64 0] n) 3)) := (Below.refl _ _).alloc (Nat.le_refl _) _
  have hS : BS w R K L n Q D w3.heap.size (.slice none 0 0) 0 0 (fun _ => 0) (.slice none 0 0) 0 [] (w3.alloc (.cells (madeCells #[Value.int .i64 0] n) 3)) := by
    have hQlt := hW.raw.row.lt
    refine ⟨hC3.keep (bA.mono hC3.kw), hW.keep bA, made_row w3 n, World.ownsRow_nil _ _ _ _, of_nil (by omega), ?_, ?_, (by intro e; cases e), by have := b3.size; omega, by rw [hD]; exact hC.kw, by rw [hD]; exact B2.size, B3.trans (bA.mono B3.size)⟩
    · rintro k (rfl | hk)
      · omega
      · cases hk
    · intro k _ e
      cases e
  have hL0 : BL L (fun _ => 0) 0 = 0 := rfl
  clear hW hQ b3 hC hC3 B2 bA hD B3
  go_wp2_with (at_make; refine wpList_make_row _ rfl _ _ 22 rfl 3 i0 (.int .i64 0) Try.underlying22 hi hz0 hz1 rfl .i64 .i64 n rfl rfl (by rw [hz2]; omega) (by omega) ?_)
  generalize (w3.alloc (.cells (madeCells #[Value.int .i64 0] n) 3)) = W4 at *
  generalize w3.heap.size = Cb at *
  go_loopw [9, 10, 11, 12] (fun pv iv _ _ wr => ∃ (t u : Nat) (v : Value) (q : Nat → Nat), t ≤ m ∧ u ≤ t ∧ iv = .int .i64 t ∧ Good L n q u ∧ BS w R K L n Q D Cb v (BN L n q u) (BL L q u) (fun s => BC q s u) pv u (vals (fun j => Value.int .i64 (q j : Int)) u) wr) (fun _ iv _ _ _ => m - (intOf iv).toNat)
  case atStart => exact ⟨0, 0, _, fun _ => 0, by omega, by omega, rfl, fun j hj => by omega, hS⟩
  case round =>
    obtain ⟨t, u, v, q, ht, hut, rfl, hgood, hb⟩ := hrel
    clear hS hL0
    have hbl := BL_le L n q u HL.out hgood
    by_cases htm : t < m
    · obtain ⟨b, off, rfl, _⟩ := HRs.out.plain (by omega)
      have cs := ((HRs.out.keep hb.bel).plain (by omega))
      obtain ⟨b', off', e', hcell⟩ := cs
      cases e'
      have ct := hcell t htm
      clear hcell
      by_cases hneg : S t < 0
      · have q1 : decide (0 ≤ S t) = false := by simp; omega
        have hno := cput_no R K L n (.pointer (some ⟨Q, 0, none⟩)) (S t) wr hb.cod (.inl hneg)
        clear hneg
        go_wp2_with (go_at_call 23; refine hno.mono ?_; rintro e w5 ⟨rfl, hw⟩; subst w5)
        go_roundw
        case rel => exact ⟨t + 1, u, v, q, by omega, by omega, by go_num, hgood, hb⟩
        case measure => simp [intOf]; omega
      by_cases hbig : (n : Int) ≤ S t
      · have q1 : decide (0 ≤ S t) = true := by simp; omega
        have q2 : decide (S t < (n : Int)) = false := by simp; omega
        have hno := cput_no R K L n (.pointer (some ⟨Q, 0, none⟩)) (S t) wr hb.cod (.inr (.inl hbig))
        clear hneg hbig
        go_wp2_with (go_at_call 23; refine hno.mono ?_; rintro e w5 ⟨rfl, hw⟩; subst w5)
        go_roundw
        case rel => exact ⟨t + 1, u, v, q, by omega, by omega, by go_num, hgood, hb⟩
        case measure => simp [intOf]; omega
      · obtain ⟨s, hs⟩ := Int.eq_ofNat_of_zero_le (show 0 ≤ S t by omega)
        have hsn : s < n := by omega
        rw [hs] at ct
        clear hneg hbig hs
        obtain ⟨lb, loff, rfl, hlcell⟩ := (HRl.out.keep hb.bel).plain (by omega)
        have cl := hlcell s hsn
        clear hlcell
        obtain ⟨x, hx⟩ := Int.eq_ofNat_of_zero_le (HL.out s hsn).1
        have hx15 : x ≤ 15 := by have := (HL.out s hsn).2; omega
        rw [hx] at cl
        by_cases hx0 : x = 0
        · have hno := cput_no R K L n (.pointer (some ⟨Q, 0, none⟩)) (s : Int) wr hb.cod (.inr (.inr ⟨by omega, by omega, by rw [Int.toNat_natCast, hx, hx0]; rfl⟩))
          subst hx0
          clear hx
          go_wp2_with (go_at_call 23; refine hno.mono ?_; rintro e w5 ⟨rfl, hw⟩; subst w5)
          go_roundw
          case rel => exact ⟨t + 1, u, v, q, by omega, by omega, by go_num, hgood, hb⟩
          case measure => simp [intOf]; omega
        · have hyes := cput_yes R K L n Q v (BN L n q u) (BL L q u) s x wr hb.cod hb.wri (fun k hk => Nat.le_trans hb.kD (hb.oQ k hk)) hsn hx (by omega) (by omega)
          have q3 : decide ((0 : Int) < (x : Int)) = true := by simp; omega
          have hxp : 0 < x := by omega
          have q4 : decide (0 < x) = true := decide_eq_true hxp
          have hgood2 := hgood.ext s hsn (by omega)
          have HE1 : Hid (BN L n (ext q u s) (u + 1) = BN L n q u + 2 ^ BL L q u * T (cd L n s) x) := BN_ext L n q u s x hx
          have HE2 : Hid (BL L (ext q u s) (u + 1) = BL L q u + x) := BL_ext L q u s x hx
          clear hx
          go_wp2_with fail
          refine hyes.mono ?_
          rintro e w5 ⟨rfl, v5, hw5, s5⟩
          have hb5 := hb.step1 s5 hw5
          have bc := BC_bound q s u
          clear hyes hw5 s5 hb ct cl
          go_wp2_with (first
            | (at_builtin; refine wpList_append_lies _ rfl _ _ 22 rfl D 3 i0 (.int .i64 0) 1 8 Try.underlying22 hi hz0 hz1 hz2 rfl (by decide) u9 u _ rfl (hb5.put.alloc _) ⟨w5.heap.size, 0, none⟩ 1 1 [_] rfl rfl (cell_one_new _ _ _) (by intro u hu; simp at hu; subst hu; rfl) (by omega) (by unfold maxLen; omega) (by omega) (by have := hb5.cnt.lt; have := hb5.cD; simp; omega) _ rfl ?_; intro g c6 w6 o6 g6 l6 s6; have hb6 := hb5.step2 g6 o6 (by simpa using l6); have cc := hb6.cnt.cell (i := s) hsn; have fc := hb6.cnt.frozen s))
          have hb7 := hb6.step3 s (BC q s u + 1)
          rw [ext_list, ← HE1.out, ← HE2.out] at hb7
          have HB7 : Hid (BS w R K L n Q D Cb v5 (BN L n (ext q u s) (u + 1)) (BL L (ext q u s) (u + 1)) (fun s' => BC (ext q u s) s' (u + 1)) (.slice (some ⟨g, 0, none⟩) (u + 1) c6) (u + 1) (vals (fun j => Value.int .i64 (ext q u s j : Int)) (u + 1)) (w6.setCell ⟨Cb, s, none⟩ (.int .i64 (BC q s u + 1)))) := by
            have e : (fun s' => BC (ext q u s) s' (u + 1)) = (fun j => if j = s then BC q s u + 1 else BC q j u) := funext (fun s' => BC_ext q u s s')
            rw [e]
            exact hb7
          clear hb5 hb6 hb7 o6 g6 l6 s6 cc fc
          go_roundw
          case rel => exact ⟨t + 1, u + 1, v5, ext q u s, by omega, by omega, by go_num, hgood2, HB7.out⟩
          case measure => simp [intOf]; omega
    · obtain rfl : t = m := by omega
      clear htm
      obtain ⟨po, pc, rfl, rp, hpo⟩ : ∃ po pc, u9 = .slice po u pc ∧ Ri wr po u pc (fun j => (q j : Int)) ∧ (∀ ad, po = some ad → ad.block < wr.heap.size) := by
        obtain ⟨po, pc, e1, e2, e3⟩ := own_ri (L := fun j => (q j : Int)) hb.put
        exact ⟨po, pc, e1, e2, fun ad had => (hb.put.lt ad.block (e3 ad had).1).2⟩
      have hcs := CS_is L n q u hgood
      have rc := Ri.row hb.cnt
      have hDb : ∀ j, j < n → 0 ≤ BC q j u ∧ BC q j u ≤ 1000000 := fun j _ => by have := BC_bound q j u; omega
      have hlen := len_any Q v (BN L n q u) (BL L q u) wr hb.wri (by omega)
      have hc1 := cost_any R K L (fun s => BC q s u) n _ n wr.drew (hb.cod.keep (Below.refl _ _).drew) rc.drew hDb
      have hc2 := cost_any R K L (fun s => BC q s u) n _ n wr.drew.drew (hb.cod.keep ((Below.refl _ _).drew).drew) rc.drew.drew hDb
      have hc3 := xcost_any L (fun s => BC q s u) n ao _ c n wr.drew.drew.drew (((HRl.out.keep hb.bel).drew).drew).drew rc.drew.drew.drew h288 HL.out hDb
      rw [hcs] at hc1 hc2 hc3
      clear hcs rc hDb
      go_wp2_with (first
        | (go_at_call 24; refine hlen.mono ?_; rintro e w5 ⟨rfl, hw⟩; subst w5)
        | (go_at_call 25; refine hc1.mono ?_; rintro e w5 ⟨rfl, hw⟩; subst w5)
        | (go_at_call 25; refine hc2.mono ?_; rintro e w5 ⟨rfl, hw⟩; subst w5)
        | (go_at_call 26; refine hc3.mono ?_; rintro e w5 ⟨rfl, mm, hw⟩))
      have hD5 := dnb wr (1 + (1 + (1 + mm)))
      have hw5 := hb.wri.keep hD5
      have hC5 := hb.cod.keep (hD5.mono hb.cod.kw)
      have rp5 := rp.keep hD5
      have B5 := hb.bel.trans (hD5.mono hb.bel.size)
      have hpo5 : ∀ ad, po = some ad → ad.block < (wr.drewN (1 + (1 + (1 + mm)))).heap.size := hpo
      clear hD5 hb rp hpo hlen hc1 hc2 hc3 hw hi hz0 hz1 hz2 HRs HRl
      generalize wr.drewN (1 + (1 + (1 + mm))) = W5 at *
      obtain ⟨mb, hmb⟩ : ∃ mb, mb = (BL L q u + 7) / 8 := ⟨_, rfl⟩
      have hml : BL L q u ≤ 8 * mb := by omega
      have hm600 : mb ≤ 600 := by omega
      refine (done_any Q v (BN L n q u) (BL L q u) W5 hw5 (by omega)).mono ?_
      rintro e w6 ⟨v6, rfl, o6, b6⟩
      obtain ⟨fo, fc, rfl, r6, _⟩ := own_rd o6 (by8_byt _ _)
      have B6 := B5.trans (b6.mono B5.size)
      have hC6 := hC5.keep (b6.mono hC5.kw)
      have rp6 := rp5.keep b6
      have hpo6 : ∀ ad, po = some ad → ad.block < w6.heap.size := fun ad had => by have := hpo5 ad had; have := b6.size; omega
      rw [← hmb] at r6
      simp only [← hmb]
      clear o6 b6 hw5 hmb B5 hC5 rp5 hpo5
      go_wp2_with fail
      refine (newR_any fo mb fc (BN L n q u) w6 r6 (by omega)).mono ?_
      rintro e w7 ⟨P, ro, rc, rfl, hR7, hP, _, b7⟩
      have B7 := B6.trans (b7.mono B6.size)
      have hC7 := hC6.keep (b7.mono hC6.kw)
      have rp7 := rp6.keep b7
      have hKP : K ≤ P := by have := hC6.kw; omega
      have hwP : w.heap.size ≤ P := by have := B6.size; omega
      have hpP : ∀ ad, po = some ad → 0 < u → ad.block ≠ P := fun ad had _ => by have := hpo6 ad had; omega
      clear r6 b7 hP B6 hC6 rp6 hpo6
      have HPP : Hid (∀ ad, po = some ad → 0 < u → ad.block ≠ P) := hpP
      have HGo : Hid (Good L n q u) := hgood
      clear hpP hgood
      go_wp2_with fail
      go_loopw [14, 15, 16] (fun iv _ _ wr => ∃ j : Nat, j ≤ u ∧ iv = .int .i64 j ∧ IsR wr P ro mb rc (BN L n q u) (BL L q j) ∧ Cod wr R K L n ∧ Ri wr po u pc (fun j => (q j : Int)) ∧ Below w.heap.size w wr) (fun iv _ _ _ => u - (intOf iv).toNat)
      case atStart => exact ⟨0, by omega, rfl, hR7, hC7, rp7, B7⟩
      case round =>
        obtain ⟨j, hj, rfl, hR8, hC8, rp8, B8⟩ := hrel
        clear hR7 hC7 rp7 B7
        by_cases hju : j < u
        · obtain ⟨hqn, hq0⟩ := HGo.out j hju
          obtain ⟨x, hx⟩ := Int.eq_ofNat_of_zero_le (HL.out (q j) hqn).1
          have hx15 : x ≤ 15 := by have := (HL.out (q j) hqn).2; omega
          go_wp2_with fail
          refine (next_any R K L n P ro mb rc (BN L n q u) (BL L q j) _ hC8 hR8 hKP).mono ?_
          rintro e w9 ⟨s', g', p', rfl, hN, hR9, f9⟩
          obtain ⟨rfl, rfl, rfl⟩ := BN_next L n q j u x mb s' g' p' HF.out hju hx (by omega) hx15 hqn hml hN
          have hC9 := hC8.keep (f9.below K hC8.kw (fun i hi e => by omega))
          have B9 := B8.trans (f9.below _ B8.size (fun i hi e => by omega))
          have rp9 := rp8.fr f9 HPP.out
          obtain ⟨pb, poff, rfl, hpc⟩ := rp9.plain (by omega)
          have cp := hpc j hju
          clear hpc hN hR8 hC8 rp8 B8 f9 hx hq0
          go_wp2_with fail
          go_roundw
          case rel => exact ⟨j + 1, by omega, by go_num, hR9, hC9, rp9, B9⟩
          case measure => simp [intOf]; omega
        · clear hR8 hC8 rp8
          go_wp2_with fail
          go_ret
          exact ⟨rfl, B8⟩

end Go.Proofs.Ytjipohcacimkmaa
