/- Expand. -/
import Derived.Test.YtgdodphpomkakaaWTotal
import Derived.Test.YtgdodphpomkakaaWPut
namespace Go.Proofs.Ytgdodphpomkakaa
open Go.RowKit

set_option maxRecDepth 100000 in
set_option maxHeartbeats 1000000 in
theorem expand_any (ao : Option Addr) (n c : Nat) (ts : List Tok) (most : Int) (w : World) (h : Tk w ao n ts) (hn : n ≤ 3100) :
    Calls Try.prog 9 #[.slice ao n c, .int .i64 most] w fun e w' => ∃ v g os, e = .returned (.tuple #[v, .int .i64 g]) ∧ Ex ts most g os ∧ w'.ownsRow w.heap.size 5 1 v os.length (os.map (Value.int .u8)) ∧ Below w.heap.size w w' := by
  obtain ⟨i0, hi, hz0, hz1, hz2⟩ := info_parts Try.info5
  have hlen := h.len
  have hck := check_any ao n c ts w h (by omega)
  have htm := tot_max ts
  have HT : Hid (Tk w ao n ts) := h
  clear h
  go_enter Try.func9, Try.ntmps9
  go_wp2_with fail
  refine hck.mono ?_
  rintro e w1 ⟨g, rfl, hg, hb1⟩
  rcases hg with ⟨rfl, hok⟩ | ⟨rfl, hno⟩
  · have ht := total_any ao n c ts w1 (HT.out.keep hb1) (by omega)
    have HO : Hid (Ok ts n) := hok
    clear hck hok
    go_wp2_with fail
    refine ht.mono ?_
    rintro e w2 ⟨rfl, hb2⟩
    have B2 : Below w.heap.size w w2 := hb1.trans (hb2.mono hb1.size)
    obtain ⟨T, hT⟩ : ∃ T, T = tot ts := ⟨_, rfl⟩
    have HTT : Hid (T = tot ts) := hT
    rw [← hT]
    rw [← hT] at htm
    clear hT ht hb1 hb2
    by_cases hm : most < T
    · have HB2 : Hid (Below w.heap.size w w2) := B2
      clear B2
      go_wp2
      go_ret2
      exact ⟨_, 5, [], rfl, .inr (.inl ⟨by rw [hlen]; exact HO.out, by rw [← HTT.out]; exact hm, rfl, rfl⟩), World.ownsRow_nil _ _ _ _, HB2.out⟩
    · have HB2 : Hid (Below w.heap.size w w2) := B2
      have hw2 := B2.size
      clear B2
      go_wp2_with (at_make; refine wpList_make_own _ rfl _ _ 26 rfl w.heap.size 5 i0 (.int .u8 0) 1 Try.underlying26 hi hz0 hz1 _ _ _ T rfl rfl (by omega) (by rw [hz2]; omega) (by unfold maxLen; omega) hw2 ?_; intro w3 hown3 hgrow3)
      have B3 : Hid (Below w.heap.size w w3) := HB2.out.grown hgrow3 hw2 (fun q hq => by cases hq)
      have O3 : Hid (w3.ownsRow w.heap.size 5 1 (.slice (some ⟨w2.heap.size, 0, none⟩) 0 T) 0 []) := hown3
      clear hown3 hgrow3 HB2 hw2
      go_loopw [8, 25] (fun o i wr => ∃ k : Nat, k ≤ n ∧ i = .int .i64 k ∧ Hid (wr.ownsRow w.heap.size 5 1 o (tot (ts.take k)) ((mks (ts.take k)).map (Value.int .u8))) ∧ Hid (Below w.heap.size w wr)) (fun _ i _ => n - (intOf i).toNat)
      case atStart => exact ⟨0, by omega, rfl, O3.out, B3⟩
      case round =>
        obtain ⟨k, hk, rfl, hown, hb⟩ := hrel
        clear O3 B3
        by_cases hlt : k < n
        · have hcs := (HT.out.keep hb.out).cells k hlt
          have e1 := tot_take ts k (by omega)
          have e2 := mks_take ts k (by omega)
          have m1 := tot_take_max ts k
          have hxb : ∀ x ∈ mks (ts.take k), 0 ≤ x ∧ x < 256 := mks_byt _ (fun t ht => HT.out.byt t (List.mem_of_mem_take ht))
          have hkt : okT (tot (ts.take k)) (ts.getD k tz) := HO.out k hlt
          have hput := fun W (hW : w.heap.size ≤ W.heap.size) (ho : W.ownsRow w.heap.size 5 1 u8 (tot (ts.take k)) ((mks (ts.take k)).map (Value.int .u8))) => put_any w.heap.size (ts.getD k tz) u8 (mks (ts.take k)) (tot (ts.take k)) W ho hxb hkt hW (by omega)
          have HO8 : Hid (wr.ownsRow w.heap.size 5 1 u8 (tot (ts.take k)) ((mks (ts.take k)).map (Value.int .u8))) := hown
          rw [← e1, ← e2] at hput
          clear hxb hkt m1 e1 e2 hown
          obtain ⟨b, off, rfl, h0, h1, h2⟩ := hcs
          generalize ts.getD k tz = t at *
          obtain ⟨l, m, d⟩ := t
          go_wp2_with (go_at_call 17; refine (hput _ (by have := hb.out.size; simp; omega) (HO8.out.alloc _)).mono ?_; rintro e w4 ⟨v4, rfl, o4, b4⟩)
          have O4 : Hid (w4.ownsRow w.heap.size 5 1 v4 (tot (ts.take (k + 1))) ((mks (ts.take (k + 1))).map (Value.int .u8))) := o4
          have B4 : Hid (Below w.heap.size w w4) := (hb.out.alloc hb.out.size _).trans b4
          clear o4 b4 hput HO8 h0 h1 h2 hb
          go_roundw
          case rel => exact ⟨k + 1, by omega, by go_num, O4, B4⟩
          case measure => simp [intOf]; omega
        · obtain rfl : k = n := by omega
          have e := HT.out.all
          rw [e] at hown
          go_wp2
          go_ret2
          refine ⟨_, 0, mks ts, rfl, .inr (.inr ⟨by rw [hlen]; exact HO.out, by rw [← HTT.out]; omega, rfl, rfl⟩), ?_, hb.out⟩
          rw [mks_all ts (by rw [hlen]; exact HO.out)]
          exact hown.out
  · have HB1 : Hid (Below w.heap.size w w1) := hb1
    clear hb1
    go_wp2
    go_ret2
    exact ⟨_, 2, [], rfl, .inl ⟨by rw [hlen]; exact hno, rfl, rfl⟩, World.ownsRow_nil _ _ _ _, HB1.out⟩

end Go.Proofs.Ytgdodphpomkakaa
