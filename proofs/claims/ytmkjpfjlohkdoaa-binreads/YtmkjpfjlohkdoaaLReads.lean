/- The walk of BinReads. -/
import Derived.Test.YtmkjpfjlohkdoaaWKnown
import Derived.Test.YtmkjpfjlohkdoaaWPre
import Derived.Test.YtmkjpfjlohkdoaaRNum
import Derived.Deep.QuietTactic
import Derived.BigQuiet
import Derived.Deep.RegionWith
import Derived.Deep.DeepCutAuto
namespace Go.Proofs.Ytmkjpfjlohkdoaa
open Go.RowKit

theorem drewN_keep (w : World) (q : Nat) : Below w.heap.size w (w.drewN q) := ⟨rfl, rfl, rfl, Nat.le_refl _, fun _ _ => rfl⟩

/-- How many are left. -/
def lf (n p : Nat) (er : Int) : Int := if er = 0 then (n : Int) - p else 0

theorem left_q {w : World} {R : Nat} {ao : Option Addr} {n c : Nat} {xs : List Int} {p : Nat} {er : Int} (h : IsR w R ao n c xs p er) (q : Nat) :
    Calls Try.prog 16 #[.pointer (some ⟨R, 0, none⟩)] (w.drewN q) fun e w' => e = .returned (.int .i64 (lf n p er)) ∧ ∃ m, w' = w.drewN m := by
  have hq := h.keep (drewN_keep w q)
  by_cases he : er = 0
  · subst he
    refine (left_ok R ao n c xs p _ hq).mono fun e w' ⟨h1, h2⟩ => ⟨?_, q + 1, ?_⟩
    · rw [h1, lf, if_pos rfl]
    · rw [h2]; rfl
  · refine (left_bad R ao n c xs p er _ hq he).mono fun e w' ⟨h1, h2⟩ => ⟨?_, q, h2⟩
    rw [h1, lf, if_neg he]

theorem rleft_q {w : World} {R : Nat} {ao : Option Addr} {n c : Nat} {xs : List Int} {p : Nat} {er : Int} (h : IsR w R ao n c xs p er) (q : Nat) :
    Calls Try.prog 17 #[.pointer (some ⟨R, 0, none⟩)] (w.drewN q) fun e w' => e = .returned (.int .i64 (lf n p er)) ∧ ∃ m, w' = w.drewN m := by
  have hq := h.keep (drewN_keep w q)
  by_cases he : er = 0
  · subst he
    refine (rleft_ok R ao n c xs p _ hq).mono fun e w' ⟨h1, h2⟩ => ⟨?_, q + 1, ?_⟩
    · rw [h1, lf, if_pos rfl]
    · rw [h2]; rfl
  · refine (rleft_bad R ao n c xs p er _ hq he).mono fun e w' ⟨h1, h2⟩ => ⟨?_, q, h2⟩
    rw [h1, lf, if_neg he]

theorem at_q {w : World} {R : Nat} {ao : Option Addr} {n c : Nat} {xs : List Int} {p : Nat} {er : Int} (h : IsR w R ao n c xs p er) (q : Nat) :
    Calls Try.prog 18 #[.pointer (some ⟨R, 0, none⟩)] (w.drewN q) fun e w' => e = .returned (.int .i64 p) ∧ ∃ m, w' = w.drewN m :=
  (at_any R ao n c xs p er _ (h.keep (drewN_keep w q))).mono fun _ _ ⟨h1, h2⟩ => ⟨h1, q, h2⟩

theorem err_q {w : World} {R : Nat} {ao : Option Addr} {n c : Nat} {xs : List Int} {p : Nat} {er : Int} (h : IsR w R ao n c xs p er) (q : Nat) :
    Calls Try.prog 19 #[.pointer (some ⟨R, 0, none⟩)] (w.drewN q) fun e w' => e = .returned (.int .i64 er) ∧ ∃ m, w' = w.drewN m :=
  (err_any R ao n c xs p er _ (h.keep (drewN_keep w q))).mono fun _ _ ⟨h1, h2⟩ => ⟨h1, q, h2⟩

theorem reads_skip (ao lo : Option Addr) (n c k d : Nat) (w : World) (h : 2000 < n ∨ 200 < k) :
    Calls Try.prog 3 #[.slice ao n c, .slice lo k d] w fun e w' => e = .returned (.bool true) ∧ Below w.heap.size w w' := by
  by_cases h1 : 2000 < n
  · clear h
    go_enter Try.func3, Try.ntmps3
    go_wp2_with (go_at_call 7; refine (known_any _).mono ?_; rintro e w1 ⟨rfl, hb⟩)
    go_ret
    exact ⟨rfl, hb⟩
  · have h2 : 200 < k := by omega
    clear h
    go_enter Try.func3, Try.ntmps3
    go_wp2_with (go_at_call 7; refine (known_any _).mono ?_; rintro e w1 ⟨rfl, hb⟩)
    go_ret
    exact ⟨rfl, hb⟩

set_option maxRecDepth 100000 in
set_option maxHeartbeats 8000000 in
theorem reads_go (ao lo : Option Addr) (n c k d : Nat) (xs : List Int) (O M : Nat → Int) (w : World) (hn : n ≤ 2000) (hk : k ≤ 200) (hr : Rd w ao n c xs)
    (hcell : ∀ j, j < k → ∃ b off, lo = some ⟨b, off, none⟩ ∧ w.cell? ⟨b, off + j * 2, none⟩ = some (.int .i64 (O j)) ∧ w.cell? ⟨b, off + j * 2 + 1, none⟩ = some (.int .i64 (M j))) :
    Calls Try.prog 3 #[.slice ao n c, .slice lo k d] w fun e w' => e = .returned (.bool true) ∧ Below w.heap.size w w' := by
  have hd1 : decide ((2000 : Int) < (n : Int)) = false := by simp; omega
  have hd2 : decide ((200 : Int) < (k : Int)) = false := by simp; omega
  go_enter Try.func3, Try.ntmps3
  go_wp2_with (go_at_call 7; refine (known_any _).mono ?_; rintro e w1 ⟨rfl, hb⟩)
  refine (new_any ao n c xs w1 (hr.keep hb) (by omega)).mono ?_
  rintro e w2 ⟨R, ro, rc, rfl, hR, hRl, hfr, b2⟩
  have hRw : w.heap.size ≤ R := Nat.le_trans hb.size hRl
  have B2 := hb.trans (b2.mono hb.size)
  have hr2 := hr.keep B2
  have hRX : R < w2.heap.size := hR.lt
  have hXw : w.heap.size ≤ w2.heap.size := B2.size
  have sRX : ∀ ad, ro = some ad → 0 < n → ad.block ≠ w2.heap.size := by
    intro ad had h0 e
    have hc := World.block_lt_of_cell? w2 _ (hR.rd.cells ad had 0 h0)
    have hbk : (ad.add 0).block = ad.block := by unfold Addr.add; split <;> rfl
    omega
  have sX : ∀ ad, ao = some ad → 0 < n → ad.block < w.heap.size := by
    intro ad had h0
    have hc := World.block_lt_of_cell? w _ (hr.cells ad had 0 h0)
    have hbk : (ad.add 0).block = ad.block := by unfold Addr.add; split <;> rfl
    omega
  have sXR : ∀ ad, ao = some ad → 0 < n → ad.block ≠ R := fun ad h1 h2 e => by have := sX ad h1 h2; omega
  have sXX : ∀ ad, ao = some ad → 0 < n → ad.block ≠ w2.heap.size := fun ad h1 h2 e => by have := sX ad h1 h2; omega
  have hbA : Below w2.heap.size w2 (w2.alloc (Obj.cells #[Value.slice ao n c, Value.int IntKind.i64 0, Value.int IntKind.i64 0] 29)) := (Below.refl _ _).alloc (Nat.le_refl _) _
  have hR3 := hR.keep hbA
  have hX3 : IsR (w2.alloc (Obj.cells #[Value.slice ao n c, Value.int IntKind.i64 0, Value.int IntKind.i64 0] 29)) w2.heap.size ao n c xs 0 0 :=
    ⟨by simp, by simp, by simp, by simp, by simp, hr2.keep hbA, sXX, by omega, by omega⟩
  have B3 : Below w.heap.size w (w2.alloc (Obj.cells #[Value.slice ao n c, Value.int IntKind.i64 0, Value.int IntKind.i64 0] 29)) := B2.trans (hbA.mono hXw)
  clear hb b2 hRl hfr hR hr2 B2 hbA sX hr
  go_wp2_with fail
  generalize w2.heap.size = X at *
  go_loopw [7, 8, 9] (fun i _ _ wr => ∃ (t p : Nat) (er : Int), t ≤ k ∧ i = .int .i64 t ∧ IsR wr R ro n rc xs p er ∧ IsR wr X ao n c xs p er ∧ Below w.heap.size w wr)
    (fun i _ _ _ => k - (intOf i).toNat)
  case atStart => exact ⟨0, 0, 0, by omega, rfl, hR3, hX3, B3⟩
  case round =>
    obtain ⟨t, p, er, ht, rfl, hRr, hXr, hB⟩ := hrel
    clear hR3 hX3 B3
    by_cases htk : t < k
    · obtain ⟨b, off, rfl, hc0, hc1⟩ := hcell t htk
      have hO : wr.cell? ⟨b, off + t * 2, none⟩ = some (.int .i64 (O t)) := by
        rw [hB.cell (World.block_lt_of_cell? w _ hc0)]; exact hc0
      have hM : wr.cell? ⟨b, off + t * 2 + 1, none⟩ = some (.int .i64 (M t)) := by
        rw [hB.cell (World.block_lt_of_cell? w _ hc1)]; exact hc1
      clear hcell
      generalize O t = op at *
      generalize M t = nn at *
      by_cases e1 : op = 1
      · subst e1
        go_wp2_with fail
        refine (u8_any R ro n rc xs p er wr hRr).mono ?_
        rintro e w3 ⟨rfl, hR4, hg4⟩
        have hX4 := hXr.other hg4 (by omega) sXR
        have B4 := hB.trans (grown_below hg4 hRw hB.size)
        clear hRr hXr hB hg4
        go_wp2_with fail
        refine (rnumber_any X ao n c xs p er 1 w3 hX4 (by omega)).mono ?_
        rintro e w4 ⟨rfl, hX5, hg5⟩
        rw [nr_small xs hR4.rd.byt p er 1 (by omega)] at hX5 ⊢
        have hR5 := hR4.other hg5 (by omega) sRX
        have B5 := B4.trans (grown_below hg5 hXw B4.size)
        clear hR4 hX4 B4 hg5
        simp only [show ((1 : Nat) : Int) = 1 from rfl] at hX5 ⊢
        generalize num 0 (tk xs p er 1).fst = v at *
        generalize (tk xs p er 1).2.1 = p' at *
        generalize (tk xs p er 1).2.2 = er' at *
        have x1 := hX5.pos
        have x2 := hX5.err
        go_wp2_with fail
        go_quiet (first | (go_at_call 16; exact left_q hR5 _) | (go_at_call 17; exact rleft_q hX5 _) | (go_at_call 18; exact at_q hR5 _) | (go_at_call 19; exact err_q hR5 _))
        have R6 := hR5.keep (drewN_keep w4 nq)
        have X6 := hX5.keep (drewN_keep w4 nq)
        have B6 := B5.trans ((drewN_keep w4 nq).mono B5.size)
        clear hR5 hX5 B5 x1 x2
        go_wp2
        go_roundw
        case rel => exact ⟨t + 1, p', er', by omega, by go_num, R6, X6, B6⟩
        case measure => simp [intOf]; omega
      have q1 : (op == 1) = false := by simp [e1]
      by_cases e2 : op = 2
      · subst e2
        go_wp2_with fail
        refine (u16_any R ro n rc xs p er wr hRr).mono ?_
        rintro e w3 ⟨rfl, hR4, hg4⟩
        have hX4 := hXr.other hg4 (by omega) sXR
        have B4 := hB.trans (grown_below hg4 hRw hB.size)
        clear hRr hXr hB hg4
        go_wp2_with fail
        refine (rnumber_any X ao n c xs p er 2 w3 hX4 (by omega)).mono ?_
        rintro e w4 ⟨rfl, hX5, hg5⟩
        rw [nr_small xs hR4.rd.byt p er 2 (by omega)] at hX5 ⊢
        have hR5 := hR4.other hg5 (by omega) sRX
        have B5 := B4.trans (grown_below hg5 hXw B4.size)
        clear hR4 hX4 B4 hg5
        simp only [show ((2 : Nat) : Int) = 2 from rfl] at hX5 ⊢
        generalize num 0 (tk xs p er 2).fst = v at *
        generalize (tk xs p er 2).2.1 = p' at *
        generalize (tk xs p er 2).2.2 = er' at *
        have x1 := hX5.pos
        have x2 := hX5.err
        go_wp2_with fail
        go_quiet (first | (go_at_call 16; exact left_q hR5 _) | (go_at_call 17; exact rleft_q hX5 _) | (go_at_call 18; exact at_q hR5 _) | (go_at_call 19; exact err_q hR5 _))
        have R6 := hR5.keep (drewN_keep w4 nq)
        have X6 := hX5.keep (drewN_keep w4 nq)
        have B6 := B5.trans ((drewN_keep w4 nq).mono B5.size)
        clear hR5 hX5 B5 x1 x2
        go_wp2
        go_roundw
        case rel => exact ⟨t + 1, p', er', by omega, by go_num, R6, X6, B6⟩
        case measure => simp [intOf]; omega
      have q2 : (op == 2) = false := by simp [e2]
      by_cases e4 : op = 4
      · subst e4
        go_wp2_with fail
        refine (u32_any R ro n rc xs p er wr hRr).mono ?_
        rintro e w3 ⟨rfl, hR4, hg4⟩
        have hX4 := hXr.other hg4 (by omega) sXR
        have B4 := hB.trans (grown_below hg4 hRw hB.size)
        clear hRr hXr hB hg4
        go_wp2_with fail
        refine (rnumber_any X ao n c xs p er 4 w3 hX4 (by omega)).mono ?_
        rintro e w4 ⟨rfl, hX5, hg5⟩
        rw [nr_small xs hR4.rd.byt p er 4 (by omega)] at hX5 ⊢
        have hR5 := hR4.other hg5 (by omega) sRX
        have B5 := B4.trans (grown_below hg5 hXw B4.size)
        clear hR4 hX4 B4 hg5
        simp only [show ((4 : Nat) : Int) = 4 from rfl] at hX5 ⊢
        generalize num 0 (tk xs p er 4).fst = v at *
        generalize (tk xs p er 4).2.1 = p' at *
        generalize (tk xs p er 4).2.2 = er' at *
        have x1 := hX5.pos
        have x2 := hX5.err
        go_wp2_with fail
        go_quiet (first | (go_at_call 16; exact left_q hR5 _) | (go_at_call 17; exact rleft_q hX5 _) | (go_at_call 18; exact at_q hR5 _) | (go_at_call 19; exact err_q hR5 _))
        have R6 := hR5.keep (drewN_keep w4 nq)
        have X6 := hX5.keep (drewN_keep w4 nq)
        have B6 := B5.trans ((drewN_keep w4 nq).mono B5.size)
        clear hR5 hX5 B5 x1 x2
        go_wp2
        go_roundw
        case rel => exact ⟨t + 1, p', er', by omega, by go_num, R6, X6, B6⟩
        case measure => simp [intOf]; omega
      have q4 : (op == 4) = false := by simp [e4]
      by_cases e8 : op = 8
      · subst e8
        go_wp2_with fail
        refine (u64_any R ro n rc xs p er wr hRr).mono ?_
        rintro e w3 ⟨rfl, hR4, hg4⟩
        have hX4 := hXr.other hg4 (by omega) sXR
        have B4 := hB.trans (grown_below hg4 hRw hB.size)
        clear hRr hXr hB hg4
        go_wp2_with fail
        refine (rnumber_any X ao n c xs p er 8 w3 hX4 (by omega)).mono ?_
        rintro e w4 ⟨rfl, hX5, hg5⟩
        rw [show nr xs p er ((8 : Nat) : Int) = u64r xs p er from rfl] at hX5 ⊢
        have hR5 := hR4.other hg5 (by omega) sRX
        have B5 := B4.trans (grown_below hg5 hXw B4.size)
        clear hR4 hX4 B4 hg5
        generalize (u64r xs p er).1 = v at *
        generalize (u64r xs p er).2.1 = p' at *
        generalize (u64r xs p er).2.2 = er' at *
        have x1 := hX5.pos
        have x2 := hX5.err
        go_wp2_with fail
        go_quiet (first | (go_at_call 16; exact left_q hR5 _) | (go_at_call 17; exact rleft_q hX5 _) | (go_at_call 18; exact at_q hR5 _) | (go_at_call 19; exact err_q hR5 _))
        have R6 := hR5.keep (drewN_keep w4 nq)
        have X6 := hX5.keep (drewN_keep w4 nq)
        have B6 := B5.trans ((drewN_keep w4 nq).mono B5.size)
        clear hR5 hX5 B5 x1 x2
        go_wp2
        go_roundw
        case rel => exact ⟨t + 1, p', er', by omega, by go_num, R6, X6, B6⟩
        case measure => simp [intOf]; omega
      have q8 : (op == 8) = false := by simp [e8]
      clear e1 e2 e4 e8
      have hMd : ∀ w' : World, Below w.heap.size w w' → w'.cell? ⟨b, off + t * 2 + 1, none⟩ = some (.int .i64 nn) := fun w' h' => by
        rw [h'.cell (World.block_lt_of_cell? w _ hc1)]; exact hc1
      have HM : Hid (∀ w' : World, Below w.heap.size w w' → w'.cell? ⟨b, off + t * 2 + 1, none⟩ = some (.int .i64 nn)) := hMd
      have hXlt := hXr.lt
      clear hMd hc0 hc1
      go_upto_region 13 with fail
      go_cut [52] (fun cc wx => cc = .bool false ∧ IsR wx R ro n rc xs (tk xs p er nn).2.1 (tk xs p er nn).2.2 ∧ IsR wx X ao n c xs (tk xs p er nn).2.1 (tk xs p er nn).2.2 ∧ Below w.heap.size w wx)
      case first =>
        go_region_with (first
          | (go_at_call 14; refine (bytes_any R ro n rc xs p er nn wr.drew hRr.drew).mono ?_; rintro e w3 ⟨a3, k3, c3, rfl, d3, f3, hR3, hg3⟩; have hX3 := hXr.drew.other hg3 (by omega) sXR; have B3 := hB.drew.trans (grown_below hg3 hRw hB.size); have m3 := HM.out w3 B3; have s3 := d3.str)
          | (go_at_call 15; refine (rbytes_any X ao n c xs p er nn w3 hX3).mono ?_; rintro e w4 ⟨a4, k4, c4, rfl, d4, hX4, hg4⟩; have hR4 := hR3.other hg4 (by omega) sRX; have B4 := B3.trans (grown_below hg4 hXw B3.size); have m4 := HM.out w4 B4; have s4 := d4.str; have s3' := (d3.other hg4 (fun ad had _ => by have := f3 ad had; simp at this; omega)).str))
        all_goals
          go_wp2_with fail
          go_meet
          exact ⟨by simp, hR4, hX4, B4⟩
      case rest =>
        obtain ⟨rfl, hR5, hX5, B5⟩ := hcut
        generalize (tk xs p er nn).2.1 = p' at *
        generalize (tk xs p er nn).2.2 = er' at *
        have x1 := hX5.pos
        have x2 := hX5.err
        go_wp2_with fail
        go_quiet (first | (go_at_call 16; exact left_q hR5 _) | (go_at_call 17; exact rleft_q hX5 _) | (go_at_call 18; exact at_q hR5 _) | (go_at_call 19; exact err_q hR5 _))
        have R6 := hR5.keep (drewN_keep wc nq)
        have X6 := hX5.keep (drewN_keep wc nq)
        have B6 := B5.trans ((drewN_keep wc nq).mono B5.size)
        clear hR5 hX5 B5 x1 x2
        go_wp2
        go_roundw
        case rel => exact ⟨t + 1, p', er', by omega, by go_num, R6, X6, B6⟩
        case measure => simp [intOf]; omega
    · go_wp2
      go_ret
      exact ⟨rfl, hB⟩

end Go.Proofs.Ytmkjpfjlohkdoaa
