/- NewWriter, Put. -/
import Derived.Test.YtkclaikofdolmaaWRaw
import Derived.Deep.RegionWith
import Derived.Deep.DeepCutAuto
namespace Go.Proofs.Ytkclaikofdolmaa
open Go.RowKit

theorem u64_wrap (n : Int) : IntKind.u64.wrap n = n % 18446744073709551616 := by simp [IntKind.wrap, IntKind.bits, IntKind.signed]

theorem newW_any (w : World) : Calls Try.prog 19 #[] w fun e w' => ∃ R, e = .returned (.pointer (some ⟨R, 0, none⟩)) ∧ IsW w' R (.slice none 0 0) 0 0 ∧ w.heap.size = R ∧ Below w.heap.size w w' := by
  go_enter Try.func19, Try.ntmps19
  go_wp2
  go_ret
  have hb : Below w.heap.size w (w.alloc (Obj.cells #[Value.slice none 0 0, Value.int IntKind.u64 0, Value.int IntKind.i64 0] 73)) := (Below.refl _ _).alloc (Nat.le_refl _) _
  refine ⟨w.heap.size, rfl, ⟨⟨?_, World.ownsRow_nil _ _ _ _, by simp [Value.ownBlock]⟩, by omega, by simp⟩, rfl, hb⟩
  exact World.rowIs_alloc w _ 73 _ (fun i hi => by
    simp at hi
    rcases i with _ | _ | _ | i <;> first | rfl | omega)

theorem put_no (R : Nat) (x n : Int) (w : World) (hn : n < 0 ∨ 24 < n) :
    Calls Try.prog 52 #[.pointer (some ⟨R, 0, none⟩), .int .i64 x, .int .i64 n] w fun e w' => e = .returned (.tuple #[]) ∧ w' = w := by
  go_enter Try.func52, Try.ntmps52
  go_wp2_with (go_at_call 54; refine (mayBe_no n w hn).mono ?_; rintro e w1 ⟨rfl, rfl⟩)
  refine bodyPost_ret (results_none rfl _ _ _) rfl ?_
  exact ⟨rfl, rfl⟩

set_option maxRecDepth 100000 in
set_option maxHeartbeats 1000000 in
theorem put_raw (R : Nat) (v : Value) (N x : Int) (q hb n : Nat) (w : World) (h : Raw w R v N q hb) (h0 : 0 ≤ N) (h1 : N < 2 ^ (8 * q + hb)) (hn : n ≤ 24) (hh : hb < 8) (hl : q ≤ 1000000000) :
    Calls Try.prog 52 #[.pointer (some ⟨R, 0, none⟩), .int .i64 x, .int .i64 n] w fun e w' => e = .returned (.tuple #[]) ∧ ∃ v' q' hb', Raw w' R v' (N + 2 ^ (8 * q + hb) * (x % 2 ^ n)) q' (hb' : Nat) ∧ Fr (Of R v) w w' ∧
      8 * q' + hb' = 8 * q + hb + n ∧ hb' < 8 ∧ (v'.ownBlock = v.ownBlock ∨ ∀ k, v'.ownBlock = some k → w.heap.size ≤ k) := by
  have c1 := h.row.cell (i := 1) (by omega)
  have c2 := h.row.cell (i := 2) (by omega)
  have f1 := h.row.frozen 1
  have f2 := h.row.frozen 2
  simp only [wcells] at c1 c2
  have x0 : 0 ≤ IntKind.u64.wrap x := by rw [u64_wrap]; omega
  have x1 : IntKind.u64.wrap x < 18446744073709551616 := by rw [u64_wrap]; omega
  have e0 : IntKind.u64.wrap x % 2 ^ n = x % 2 ^ n := by rw [u64_wrap]; exact mod_mod x n 64 (by omega)
  obtain ⟨M, hM⟩ : ∃ M, M = N + 2 ^ (8 * q + hb) * (x % 2 ^ n) := ⟨_, rfl⟩
  obtain ⟨wd, hwd⟩ : ∃ wd, wd = N / 2 ^ (8 * q) := ⟨_, rfl⟩
  obtain ⟨wd', hwd'⟩ : ∃ wd, wd = M / 2 ^ (8 * q) := ⟨_, rfl⟩
  have E : bits .or .u64 wd (IntKind.u64.wrap (IntKind.u64.wrap x % 2 ^ n * 2 ^ hb)) = wd' := by
    rw [e0, u64_put hb n wd _ (by rw [hwd]; exact div_nn _ _ h0) (by rw [hwd]; exact div_lt _ _ _ h1) (mod_nn _ _) (mod_lt _ _) (by omega), hwd', hM, put_div _ _ _ _ (by omega), hwd]
    congr 3
    omega
  have hby : by8 M q = by8 N q := by rw [hM]; exact by8_put _ _ _ _ (by omega)
  rw [← hwd] at c1
  rw [← hM]
  have S1 := h.set1 M hby
  rw [← hwd'] at S1
  have HW : Hid (wd' = M / 2 ^ (8 * q)) := hwd'
  clear hM hwd hwd' e0 hby h0 h1
  go_enter Try.func52, Try.ntmps52
  go_upto_region 1 with (go_at_call 54; refine (mayBe_yes n w hn).mono ?_; rintro e w1 ⟨rfl, hw⟩; subst w1)
  go_cut [] (fun wx => wx = (w.setCell ⟨R, 1, none⟩ (.int .u64 wd')).drew)
  case first =>
    go_region_with ((go_at_call 56; refine (lowest_any (IntKind.u64.wrap x) n _ hn x0 x1).mono ?_; rintro e w1 ⟨rfl, hw⟩; subst w1))
    all_goals
      go_wp2_with fail
      go_meet
      rfl
  case rest =>
    subst hcut
    have S2 := S1.set2 ((hb : Int) + n)
    have F2 : Fr (Of R v) w ((w.setCell ⟨R, 1, none⟩ (.int .u64 wd')).setCell ⟨R, 2, none⟩ (.int .i64 ((hb : Int) + n))).drew := (((Fr.refl _ w).setCell (.inl rfl) _).setCell (.inl rfl) _).drew
    clear E x0 x1 S1 h
    go_wp2_with fail
    go_loopw [] (fun wr => ∃ (v' : Value) (q' hb' : Nat), Raw wr R v' M q' hb' ∧ Fr (Of R v) w wr ∧ 8 * q' + hb' = 8 * q + hb + n ∧ (v'.ownBlock = v.ownBlock ∨ ∀ k, v'.ownBlock = some k → w.heap.size ≤ k))
      (fun wr => (intOf ((wr.cell? ⟨R, 2, none⟩).getD (.int .i64 0))).toNat)
    case atStart => exact ⟨v, q, hb + n, by simpa using S2.fr (Fr.refl (fun _ => False) _).drew (fun _ _ h => h), F2, by omega, .inl rfl⟩
    case round =>
      obtain ⟨v', q', hb', r, fr, hsum, hv⟩ := hrel
      clear f1 f2 c1 c2 S2 F2 HW
      have c0 := r.row.cell (i := 0) (by omega)
      have c1 := r.row.cell (i := 1) (by omega)
      have c2 := r.row.cell (i := 2) (by omega)
      have f0 := r.row.frozen 0
      have f1 := r.row.frozen 1
      have f2 := r.row.frozen 2
      simp only [wcells] at c0 c1 c2
      obtain ⟨wd2, hwd2⟩ : ∃ wd, wd = M / 2 ^ (8 * q') := ⟨_, rfl⟩
      rw [← hwd2] at c1
      have rr : wr.rowIs R 73 3 (wcells v' wd2 hb') := by rw [hwd2]; exact r.row
      have HW : Hid (wd2 = M / 2 ^ (8 * q')) := hwd2
      clear hwd2
      by_cases h8 : 8 ≤ hb'
      · obtain ⟨i0, hi, hz0, hz1, hz2⟩ := info_parts Try.info5
        have own1 : (wr.drew.alloc (Obj.cells #[Value.int .u8 (wd2 % 256)] 5)).ownsRow 0 5 1 v' q' ((by8 M q').map (Value.int .u8)) := ownsRow_fr r.own (((Fr.refl (fun _ => False) _).drew).alloc _) (fun _ _ h => h)
        have new1 := cell_one_new wr.drew (Value.int .u8 (wd2 % 256)) 5
        have hA : (wr.alloc (Obj.cells #[Value.int .u8 (IntKind.u8.wrap wd2)] 5)).cell? ⟨R, 0, none⟩ = some v' := (((Below.refl _ wr).alloc (Nat.le_refl _) _).cell (p := ⟨R, 0, none⟩) rr.lt).trans c0
        go_upto_region 5 with fail
        go_cut [] from 33 to 65 (fun wx => ∃ v'' : Value, wx.rowIs R 73 3 (wcells v'' wd2 hb') ∧ wx.ownsRow 0 5 1 v'' (q' + 1) ((by8 M q' ++ [wd2 % 256]).map (Value.int .u8)) ∧ v''.ownBlock ≠ some R ∧ Fr (Of R v) w wx ∧
          (v''.ownBlock = v.ownBlock ∨ ∀ k, v''.ownBlock = some k → w.heap.size ≤ k))
        case first =>
          go_region_law (refine step_append_lies (wr.drew.alloc (Obj.cells #[Value.int .u8 (wd2 % 256)] 5)) (by rfl) (.tmp 49) (.tmp 55) 41 (by rfl) 0 5 i0 (.int .u8 0) 1 1 Try.underlying41 hi hz0 hz1 hz2 rfl (by decide) v' q' _ (by rfl) own1 ⟨wr.heap.size, 0, none⟩ 1 1 [Value.int .u8 (wd2 % 256)] (by rfl) rfl new1 (by intro u hu; simp at hu; subst hu; rfl) (by omega) (by unfold maxLen; omega) (by omega) (by omega) (wr.heap.size + 1) (by simp) ?_; intro g5 c5 w5 o5 g5r l5 s5; have k0 := (row_after rr r.sep g5r).cell (i := 0) (by omega); have k1 := (row_after rr r.sep g5r).frozen 0; simp only [wcells] at k0)
          all_goals
            have pd := pushed rr r.sep fr hv o5 g5r l5
            clear k0 k1 o5 g5r s5 own1 new1
            go_wp2_with fail
            go_meet
            refine ⟨_, pd.1.congr (fun i hi => by rcases i with _ | _ | _ | i <;> first | rfl | omega), by simpa using pd.2.1, fun e => pd.2.2.1 (by simpa [Value.ownBlock] using e), pd.2.2.2.1, ?_⟩
            rcases pd.2.2.2.2 with e | e
            · exact .inl e
            · exact .inr (fun k hk => by cases hk; exact e)
        case rest =>
          obtain ⟨v'', r2, own2, sep2, fr2, hv2⟩ := hcut
          clear c0 c1 c2 f0 f1 f2 own1 new1 hA
          have c1 := r2.cell (i := 1) (by omega)
          have c2 := r2.cell (i := 2) (by omega)
          have f1 := r2.frozen 1
          have f2 := r2.frozen 2
          simp only [wcells] at c1 c2
          have raw2 : Raw ((wc.setCell ⟨R, 1, none⟩ (.int .u64 (wd2 / 256))).setCell ⟨R, 2, none⟩ (.int .i64 ((hb' : Int) - 8))) R v'' M (q' + 1) ((hb' - 8 : Nat) : Int) := by
            refine ⟨?_, ?_, sep2⟩
            · refine ((r2.set 1 _).set 2 _).congr (fun i hi => ?_)
              have e1 : M / 2 ^ (8 * (q' + 1)) = wd2 / 256 := by rw [HW.out]; exact (div_div M (8 * q') 8).symm
              have e2 : ((hb' - 8 : Nat) : Int) = (hb' : Int) - 8 := by omega
              rcases i with _ | _ | _ | i
              · rfl
              · simp [wcells, e1]
              · simp [wcells, e2]
              · omega
            · rw [by8_succ, ← HW.out]
              exact ownsRow_fr own2 (((Fr.refl (fun k => k = R) wc).setCell rfl _).setCell rfl _) (fun k hk e => sep2 (by rw [hk, e]))
          have frr : Fr (Of R v) w ((wc.setCell ⟨R, 1, none⟩ (.int .u64 (wd2 / 256))).setCell ⟨R, 2, none⟩ (.int .i64 ((hb' : Int) - 8))) := (fr2.setCell (.inl rfl) _).setCell (.inl rfl) _
          have m1 := raw2.row.cell (i := 2) (by omega)
          have m0 := r.row.cell (i := 2) (by omega)
          simp only [wcells] at m0 m1
          have M0 : Hid (wr.cell? ⟨R, 2, none⟩ = some (.int .i64 (hb' : Int))) := m0
          have M1 : Hid (((wc.setCell ⟨R, 1, none⟩ (.int .u64 (wd2 / 256))).setCell ⟨R, 2, none⟩ (.int .i64 ((hb' : Int) - 8))).cell? ⟨R, 2, none⟩ = some (.int .i64 ((hb' - 8 : Nat) : Int))) := m1
          clear r2 own2 sep2 fr2 r rr fr hv m0 m1
          go_wp2
          go_roundw
          case rel => exact ⟨v'', q' + 1, hb' - 8, raw2, frr, by omega, hv2⟩
          case measure => rw [M0.out, M1.out]; simp [intOf]; omega
      · go_wp2
        go_end0
        exact ⟨rfl, v', q', hb', r, fr, hsum, by omega, hv⟩

end Go.Proofs.Ytkclaikofdolmaa
