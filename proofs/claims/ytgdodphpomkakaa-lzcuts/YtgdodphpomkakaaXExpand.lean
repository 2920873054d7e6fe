/- The document's Expand. -/
import Derived.Test.YtgdodphpomkakaaXCheck
import Derived.Test.YtgdodphpomkakaaWPut
namespace Go.Proofs.Ytgdodphpomkakaa
open Go.RowKit

theorem Tk.held {w : World} {ao : Option Addr} {n : Nat} {ts : List Tok} (h : Tk w ao n ts) (j : Nat) (hj : j < n) : ∃ b off, ao = some ⟨b, off, none⟩ ∧ ∀ W, Below w.heap.size w W →
    W.cell? ⟨b, off + j * 3, none⟩ = some (.int .u8 (ts.getD j tz).1) ∧ W.cell? ⟨b, off + j * 3 + 1, none⟩ = some (.int .i64 (ts.getD j tz).2.1) ∧ W.cell? ⟨b, off + j * 3 + 2, none⟩ = some (.int .i64 (ts.getD j tz).2.2) := by
  obtain ⟨b, off, e, h0, h1, h2⟩ := h.cells j hj
  refine ⟨b, off, e, fun W hb => ⟨?_, ?_, ?_⟩⟩
  · rw [hb.cell (World.block_lt_of_cell? w _ h0)]; exact h0
  · rw [hb.cell (World.block_lt_of_cell? w _ h1)]; exact h1
  · rw [hb.cell (World.block_lt_of_cell? w _ h2)]; exact h2

set_option maxRecDepth 100000 in
set_option maxHeartbeats 4000000 in
theorem xexpand_any (ao : Option Addr) (n c : Nat) (ts : List Tok) (most : Int) (w : World) (h : Tk w ao n ts) (hn : n ≤ 1000000) (htot : tot ts ≤ 1000000) (hm0 : -9223372036854775808 ≤ most) (hm1 : most < 9223372036854775808) :
    Calls Try.prog 10 #[.slice ao n c, .int .i64 most] w fun e w' => ∃ v g os, e = .returned (.tuple #[v, .int .i64 g]) ∧ Ex ts most g os ∧ w'.ownsRow w.heap.size 5 1 v os.length (os.map (Value.int .u8)) ∧ Below w.heap.size w w' := by
  obtain ⟨i0, hi, hz0, hz1, hz2⟩ := info_parts Try.info5
  have hlen := h.len
  have hck := xcheck_any ao n c ts w h hn
  have HT : Hid (Tk w ao n ts) := h
  clear h
  go_enter Try.func10, Try.ntmps10
  go_wp2_with fail
  refine hck.mono ?_
  rintro e w1 ⟨g, rfl, hg, hb1⟩
  rcases hg with ⟨rfl, hok⟩ | ⟨rfl, hno⟩
  · have HO : Hid (Ok ts n) := hok
    have HB1 : Hid (Below w.heap.size w w1) := hb1
    clear hck hok hb1
    go_wp2
    go_loopw [6, 7] (fun o i wr => ∃ k : Nat, k ≤ n ∧ i = .int .i64 k ∧ (k = 0 ∨ ((tot (ts.take k) : Nat) : Int) ≤ most) ∧ Hid (wr.ownsRow w.heap.size 5 1 o (tot (ts.take k)) ((mks (ts.take k)).map (Value.int .u8))) ∧ Hid (Below w.heap.size w wr)) (fun _ i _ => n - (intOf i).toNat)
    case atStart => exact ⟨0, by omega, rfl, .inl rfl, World.ownsRow_nil _ _ _ _, HB1⟩
    case round =>
      obtain ⟨k, hk, rfl, hkm, hown, hb⟩ := hrel
      clear HB1
      by_cases hlt : k < n
      · obtain ⟨b, off, rfl, hcs⟩ := HT.out.held k hlt
        have e1 := tot_take ts k (by omega)
        have e2 := mks_take ts k (by omega)
        have m1 := tot_le ts (k + 1)
        have hxb : ∀ x ∈ mks (ts.take k), 0 ≤ x ∧ x < 256 := mks_byt _ (fun t ht => HT.out.byt t (List.mem_of_mem_take ht))
        have hkt : okT (tot (ts.take k)) (ts.getD k tz) := HO.out k hlt
        have hzero : k = 0 → tot (ts.take k) = 0 := by rintro rfl; rfl
        have hxl : (mks (ts.take k)).length = tot (ts.take k) := mks_len ts k (by omega) (HO.out.mono (by omega))
        obtain ⟨h0, h1, h2⟩ := hcs wr hb.out
        have HCS : Hid (∀ W, Below w.heap.size w W → W.cell? ⟨b, off + k * 3 + 2, none⟩ = some (.int .i64 (ts.getD k tz).2.2)) := fun W hW => (hcs W hW).2.2
        clear hcs
        obtain ⟨T, hT⟩ : ∃ T, T = tot (ts.take k) := ⟨_, rfl⟩
        obtain ⟨xs, hxs⟩ : ∃ xs, xs = mks (ts.take k) := ⟨_, rfl⟩
        rw [← hT] at e1 hkt hkm hzero hxl
        rw [← hxs] at e2 hxb hxl
        have OW : Hid (wr.ownsRow w.heap.size 5 1 u6 T (xs.map (Value.int .u8))) := by rw [hT, hxs]; exact hown
        have HE1 : Hid (tot (ts.take (k + 1)) = T + sz (ts.getD k tz)) := e1
        have HE2 : Hid (mks (ts.take (k + 1)) = mk1 xs (ts.getD k tz)) := e2
        have HXB : Hid (∀ x ∈ xs, 0 ≤ x ∧ x < 256) := hxb
        have HXL : Hid (xs.length = T) := hxl
        have hT9 : T + sz (ts.getD k tz) ≤ tot ts := by omega
        have hpos := hkt.pos
        clear hT hxs e1 e2 hxb hxl hown m1
        generalize ts.getD k tz = t at *
        have HLong : Hid (most < (T : Int) + sz t → Ex ts most 5 []) := fun hh => .inr (.inl ⟨by rw [hlen]; exact HO.out, by omega, rfl, rfl⟩)
        obtain ⟨ya, yc, rfl⟩ : ∃ ya yc, u6 = .slice ya T yc := by
          obtain ⟨ya, yc, e, _⟩ := own_rd OW.out HXB.out
          exact ⟨ya, yc, e⟩
        by_cases hL : isL t
        · have hs : sz t = 1 := sz_L hL
          have HM : Hid (mk1 xs t = xs ++ [t.1]) := mk1_L hL xs
          rw [hs] at HE1 HLong hT9
          obtain ⟨l, m, d⟩ := t
          obtain ⟨rfl, rfl⟩ : m = 0 ∧ d = 0 := hL
          clear hkt hpos hs
          by_cases big : most < (T : Int) + ((1 : Nat) : Int)
          · have HX : Hid (Ex ts most 5 []) := HLong.out big
            by_cases hneg : most < 0
            · have hk0 : k = 0 := by omega
              have hT0 : T = 0 := hzero hk0
              have q1 : IntKind.i64.wrap (most - (T : Int)) = most := by rw [IntKind.wrap_i64]; omega
              have q2 : most < 1 := by omega
              clear HE1 HE2 hzero hkm OW HM big HLong hk0
              subst hT0
              go_wp2
              go_ret2
              exact ⟨_, 5, rfl, [], HX.out, World.ownsRow_nil _ _ _ _, hb.out⟩
            · have q1 : IntKind.i64.wrap (most - (T : Int)) = most - T := by rw [IntKind.wrap_i64]; omega
              have q2 : most - (T : Int) < 1 := by omega
              clear HE1 HE2 hzero hkm OW HM big HLong
              go_wp2
              go_ret2
              exact ⟨_, 5, rfl, [], HX.out, World.ownsRow_nil _ _ _ _, hb.out⟩
          · have q0 : ¬ most < 0 := by omega
            have q1 : IntKind.i64.wrap (most - (T : Int)) = most - T := by rw [IntKind.wrap_i64]; omega
            have q2 : ¬ most - (T : Int) < 1 := by omega
            have hk2 : Hid (((tot (ts.take (k + 1)) : Nat) : Int) ≤ most) := by have := HE1.out; show ((tot (ts.take (k + 1)) : Nat) : Int) ≤ most; omega
            have hT8 : T ≤ 1000000 := by omega
            clear hzero hkm HLong big
            go_wp2_with (at_builtin; refine wpList_append_own _ rfl _ _ 26 rfl w.heap.size 5 i0 (.int .u8 0) 1 1 Try.underlying26 hi hz0 hz1 hz2 rfl (by decide) (.slice ya T yc) T _ rfl (OW.out.alloc _) ⟨wr.heap.size, 0, none⟩ 1 1 [.int .u8 l] rfl rfl (cell_one_new _ _ _) (by intro u hu; simp at hu; subst hu; rfl) (by unfold maxLen; omega) (by omega) (by have := hb.out.size; simp; omega) ?_; intro v2 w2 o2 g2 n2)
            have O2 : Hid (w2.ownsRow w.heap.size 5 1 v2 (tot (ts.take (k + 1))) ((mks (ts.take (k + 1))).map (Value.int .u8))) := by
              show World.ownsRow _ _ _ _ _ _ _
              rw [HE1.out, HE2.out, HM.out, List.map_append]
              exact o2
            have B2 : Hid (Below w.heap.size w w2) := (hb.out.alloc hb.out.size _).grown g2 (by have := hb.out.size; simp; omega) (fun q hq => (OW.out.lt q hq).1)
            clear o2 g2 n2 OW hb HE1 HE2 HM h0 h1 h2
            go_roundw
            case rel => exact ⟨k + 1, by omega, by go_num, .inr hk2.out, O2, B2⟩
            case measure => simp [intOf]; omega
        · have hC : isC t (min T 32768) := by
            rcases hkt with hh | hh
            · exact absurd hh hL
            · exact hh
          have HM : Hid (mk1 xs t = cps t.2.1.toNat t.2.2.toNat xs) := mk1_C hL xs
          have HS : ((sz t : Nat) : Int) = t.2.1 := sz_C hC
          obtain ⟨_, c1, c2, c3, c4⟩ := hC
          obtain ⟨l, m, d⟩ := t
          simp only at c1 c2 c3 c4 HS h0 h1 h2
          obtain ⟨M, rfl⟩ : ∃ M : Nat, m = M := ⟨m.toNat, by omega⟩
          obtain ⟨D, rfl⟩ : ∃ D : Nat, d = D := ⟨d.toNat, by omega⟩
          have hs : sz (l, (M : Int), (D : Int)) = M := Int.ofNat.inj HS
          rw [hs] at HE1 HLong hT9
          have HM' : Hid (mk1 xs (l, (M : Int), (D : Int)) = cps M D xs) := by have := HM.out; simp at this; exact this
          have hD : 1 ≤ D ∧ D ≤ T := by omega
          have hM : 3 ≤ M ∧ M ≤ 258 := by omega
          have pz : ((M : Int) == 0) = false := by simp; omega
          have pz' : (M == 0) = false := by simp; omega
          have pz2 : M ≠ 0 := by omega
          clear hkt hpos HM HS c1 c2 c3 c4 hL hs
          by_cases big : most < (T : Int) + (M : Int)
          · have HX : Hid (Ex ts most 5 []) := HLong.out big
            by_cases hneg : most < 0
            · have hk0 : k = 0 := by omega
              have hT0 : T = 0 := hzero hk0
              exfalso
              omega
            · have q1 : IntKind.i64.wrap (most - (T : Int)) = most - T := by rw [IntKind.wrap_i64]; omega
              have q2 : most - (T : Int) < M := by omega
              clear HE1 HE2 hzero hkm OW HM' big HLong
              go_wp2
              go_ret2
              exact ⟨_, 5, rfl, [], HX.out, World.ownsRow_nil _ _ _ _, hb.out⟩
          · have q0 : ¬ most < 0 := by omega
            have q1 : IntKind.i64.wrap (most - (T : Int)) = most - T := by rw [IntKind.wrap_i64]; omega
            have q2 : ¬ most - (T : Int) < M := by omega
            have hk2 : Hid (((tot (ts.take (k + 1)) : Nat) : Int) ≤ most) := by have := HE1.out; show ((tot (ts.take (k + 1)) : Nat) : Int) ≤ most; omega
            have hT8 : T + M ≤ 1000000 := by omega
            clear hzero hkm HLong big
            have hk1 : k + 1 ≤ n := by omega
            go_wp2
            clear pz pz' pz2 q0 q1 q2
            go_loopw [6, 9] (fun o qv wq => ∃ q : Nat, q ≤ M ∧ qv = .int .i64 q ∧ Hid (wq.ownsRow w.heap.size 5 1 o (T + q) ((cps q D xs).map (Value.int .u8))) ∧ Hid (Below w.heap.size w wq)) (fun _ qv _ => M - (intOf qv).toNat)
            case atStart => exact ⟨0, by omega, rfl, OW, hb⟩
            case round =>
              obtain ⟨q, hq, rfl, ok, hbq⟩ := hrel
              clear OW hb h0 h1 h2
              by_cases hql : q < M
              · have h2 := HCS.out wr hbq.out
                obtain ⟨ys, hys⟩ : ∃ ys, ys = cps q D xs := ⟨_, rfl⟩
                have hyl : ys.length = T + q := by rw [hys, cps_len, HXL.out]
                have hcons : cps (q + 1) D xs = ys ++ [ys.getD (T + q - D) 0] := by rw [← hyl, hys]; rfl
                have hyb : ∀ x ∈ ys, 0 ≤ x ∧ x < 256 := by rw [hys]; exact cps_byt _ _ _ HXB.out
                have ok' : wr.ownsRow w.heap.size 5 1 u6 (T + q) (ys.map (Value.int .u8)) := by rw [hys]; exact ok.out
                have HB : Hid (∀ q, u6.ownBlock = some q → w.heap.size ≤ q) := fun q hq => (ok'.lt q hq).1
                obtain ⟨za, zc, rfl, hrd, _⟩ := own_rd ok' hyb
                obtain ⟨g, og, rfl, hcell⟩ := hrd.plain (by omega)
                have hj := hcell (T + q - D) (by omega)
                obtain ⟨x, hx⟩ : ∃ x, x = ys.getD (T + q - D) 0 := ⟨_, rfl⟩
                rw [← hx] at hj hcons
                obtain ⟨j, hjj⟩ : ∃ j, j = T + q - D := ⟨_, rfl⟩
                rw [← hjj] at hj
                have q1 : ((T + q : Nat) : Int) - D = j := by omega
                have q1' : (T : Int) + q - D = j := by omega
                have q2 : IntKind.i64.wrap (j : Int) = j := wraps_i64 _ (by omega) (by omega)
                have q3 : j < T + q := by omega
                have q4 : (j : Int) < T + q := by omega
                have HC : Hid (cps (q + 1) D xs = ys ++ [x]) := hcons
                clear hys hcons hx hjj hcell hrd hyl hyb ok
                go_wp2_with (at_builtin; refine wpList_append_own _ rfl _ _ 26 rfl w.heap.size 5 i0 (.int .u8 0) 1 1 Try.underlying26 hi hz0 hz1 hz2 rfl (by decide) (.slice (some ⟨g, og, none⟩) (T + q) zc) (T + q) _ rfl (ok'.alloc _) ⟨wr.heap.size, 0, none⟩ 1 1 [.int .u8 x] rfl rfl (cell_one_new _ _ _) (by intro u hu; simp at hu; subst hu; rfl) (by unfold maxLen; omega) (by omega) (by have := hbq.out.size; simp; omega) ?_; intro v5 w5 o5 gr5 n5)
                have O5 : Hid (w5.ownsRow w.heap.size 5 1 v5 (T + (q + 1)) ((cps (q + 1) D xs).map (Value.int .u8))) := by
                  show World.ownsRow _ _ _ _ _ _ _
                  rw [HC.out, List.map_append]
                  exact o5
                have K5 : Hid (Below w.heap.size w w5) := (hbq.out.alloc hbq.out.size _).grown gr5 (by have := hbq.out.size; simp; omega) HB.out
                clear o5 gr5 n5 ok' hj HC hbq h2 HB
                go_roundw
                case rel => exact ⟨q + 1, by omega, by go_num, O5, K5⟩
                case measure => simp [intOf]; omega
              · obtain rfl : q = M := by omega
                have O2 : Hid (wr.ownsRow w.heap.size 5 1 u6 (tot (ts.take (k + 1))) ((mks (ts.take (k + 1))).map (Value.int .u8))) := by
                  show World.ownsRow _ _ _ _ _ _ _
                  rw [HE1.out, HE2.out, HM'.out]
                  exact ok.out
                clear ok HE1 HE2 HM'
                go_wp2
                go_roundw
                case rel => exact ⟨k + 1, hk1, by go_num, .inr hk2.out, O2, hbq⟩
                case measure => simp [intOf]; omega
      · obtain rfl : k = n := by omega
        have e := HT.out.all
        rw [e] at hown hkm
        have hmks := mks_all ts (by rw [hlen]; exact HO.out)
        by_cases hneg : most < 0
        · have HX : Hid (Ex ts most 5 []) := .inr (.inl ⟨by rw [hlen]; exact HO.out, by omega, rfl, rfl⟩)
          clear hkm
          go_wp2
          go_ret2
          exact ⟨_, 5, [], rfl, HX.out, World.ownsRow_nil _ _ _ _, hb.out⟩
        · have hle : Hid (((tot ts : Nat) : Int) ≤ most) := by
            show ((tot ts : Nat) : Int) ≤ most
            rcases hkm with h' | h'
            · have : ts = [] := List.eq_nil_of_length_eq_zero (by omega)
              rw [this, tot_nil]
              omega
            · exact h'
          clear hkm
          go_wp2
          go_ret2
          refine ⟨_, 0, rfl, mks ts, .inr (.inr ⟨by rw [hlen]; exact HO.out, hle.out, rfl, rfl⟩), ?_, hb.out⟩
          rw [hmks]
          exact hown.out
  · have HB1 : Hid (Below w.heap.size w w1) := hb1
    clear hb1
    go_wp2
    go_ret2
    exact ⟨_, 2, [], rfl, .inl ⟨by rw [hlen]; exact hno, rfl, rfl⟩, World.ownsRow_nil _ _ _ _, HB1.out⟩

end Go.Proofs.Ytgdodphpomkakaa
