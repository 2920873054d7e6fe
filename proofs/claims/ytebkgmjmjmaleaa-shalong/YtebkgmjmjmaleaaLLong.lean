/- The walk of ShaLong, by the document's Sum. -/
import Derived.Test.YtebkgmjmjmaleaaLBytes
namespace Go.Proofs.Ytebkgmjmjmaleaa
open Go.RowKit

theorem fill_row (c : Int) (k : Nat) {w : World} {b N : Nat} (h : w.rowIs b 5 N (fun j => if j < k then .int .u8 c else .int .u8 0)) : (w.setCell ⟨b, k, none⟩ (.int .u8 c)).rowIs b 5 N (fun j => if j < k + 1 then .int .u8 c else .int .u8 0) :=
  (h.set k _).congr (fun i _ => by
    by_cases e : i = k
    · subst e; simp
    · simp only [e, if_false]
      by_cases h : i < k
      · simp [h, show i < k + 1 by omega]
      · simp [h, show ¬ i < k + 1 by omega])

theorem full_rd {w : World} {b N : Nat} (c : Int) (hc : 0 ≤ c ∧ c < 256) (h : w.rowIs b 5 N (fun j => if j < N then .int .u8 c else .int .u8 0)) : Rd w (some ⟨b, 0, none⟩) N N (List.replicate N c) :=
  Rd.ofRow (h.congr (fun i hi => by simp [hi, List.getD])) (by simp) (by intro x hx; rw [List.eq_of_mem_replicate hx]; exact hc)

set_option maxHeartbeats 1000000 in
theorem long_skip (n cut c : Int) (w : World) (h : n < 0 ∨ 4000 < n ∨ cut < 0 ∨ n < cut) :
    Calls Try.prog 5 #[.int .i64 n, .int .i64 cut, .int .u8 c] w fun e w' => e = .returned (.bool true) ∧ Below w.heap.size w w' := by
  by_cases h1 : n < 0
  · clear h
    go_enter Try.func5, Try.ntmps5
    go_wp2_with (go_at_call 7; refine (known_any _).mono ?_; rintro e w1 ⟨rfl, hb⟩)
    go_ret
    exact ⟨rfl, hb⟩
  by_cases h2 : 4000 < n
  · clear h
    go_enter Try.func5, Try.ntmps5
    go_wp2_with (go_at_call 7; refine (known_any _).mono ?_; rintro e w1 ⟨rfl, hb⟩)
    go_ret
    exact ⟨rfl, hb⟩
  by_cases h3 : cut < 0
  · clear h
    go_enter Try.func5, Try.ntmps5
    go_wp2_with (go_at_call 7; refine (known_any _).mono ?_; rintro e w1 ⟨rfl, hb⟩)
    go_ret
    exact ⟨rfl, hb⟩
  · have h4 : n < cut := by omega
    clear h
    go_enter Try.func5, Try.ntmps5
    go_wp2_with (go_at_call 7; refine (known_any _).mono ?_; rintro e w1 ⟨rfl, hb⟩)
    go_ret
    exact ⟨rfl, hb⟩

set_option maxRecDepth 100000 in
set_option maxHeartbeats 4000000 in
theorem long_go (HS : Hid RefSum) (N K : Nat) (c : Int) (w : World) (hN : N ≤ 4000) (hK : K ≤ N) (hc : 0 ≤ c ∧ c < 256) :
    Calls Try.prog 5 #[.int .i64 (N : Int), .int .i64 (K : Int), .int .u8 c] w fun e w' => e = .returned (.bool true) ∧ Below w.heap.size w w' := by
  obtain ⟨i0, hi, hz0, hz1, hz2⟩ := info_parts Try.info5
  have d1 : decide ((N : Int) < 0) = false := by simp
  have d2 : decide ((4000 : Int) < (N : Int)) = false := by simp; omega
  have d3 : decide ((K : Int) < 0) = false := by simp
  have d4 : decide (N < K) = false := by simp; omega
  have heq := sv_eql (List.replicate N c)
  go_enter Try.func5, Try.ntmps5
  go_wp2_with (first
    | (go_at_call 7; refine (known_any _).mono ?_; rintro e w1 ⟨rfl, b1⟩)
    | (at_make; refine wpList_make_full _ rfl _ _ 22 rfl 0 5 i0 (.int .u8 0) 1 Try.underlying22 hi hz0 hz1 _ _ _ _ N rfl rfl rfl rfl (by rw [hz2]; omega) (by unfold maxLen; omega) (Nat.zero_le _) ?_; intro w2 hown hgrow))
  have r2 : w2.rowIs w1.heap.size 5 N (fun j => if j < 0 then .int .u8 c else .int .u8 0) := (made_rowIs rfl hown).congr (fun j _ => by simp)
  have b2 : Below w.heap.size w w2 := b1.grown hgrow b1.size (fun k hk => by cases hk)
  obtain ⟨G, hG⟩ : ∃ G, G = w1.heap.size := ⟨_, rfl⟩
  have HG : Hid (w.heap.size ≤ G) := by rw [hG]; exact b1.size
  rw [← hG] at r2 ⊢
  clear hown hgrow hG b1
  go_wp2_with fail
  go_loopw [8] (fun i wr => ∃ k : Nat, i = .int .i64 (k : Int) ∧ k ≤ N ∧ wr.rowIs G 5 N (fun j => if j < k then .int .u8 c else .int .u8 0) ∧ Below w.heap.size w wr) (fun i _ => (N - intOf i).toNat)
  case atStart => exact ⟨0, rfl, by omega, r2, b2⟩
  case round =>
    clear r2 b2
    obtain ⟨k, rfl, hk, r, hb⟩ := hrel
    by_cases hlt : k < N
    · have ct := r.cell hlt
      have ft := r.frozen k
      have h3 := fill_row c k r
      have hb' : Below w.heap.size w (wr.setCell ⟨G, k, none⟩ (.int .u8 c)) := hb.setCell HG.out _
      have hlt' : (k : Int) < N := by omega
      clear r hb
      go_wp2_with fail
      exact ⟨⟨k + 1, rfl, by omega, h3, hb'⟩, by simp [intOf]; omega⟩
    · have hlt' : ¬ (k : Int) < N := by omega
      have hrd0 : Rd wr (some ⟨G, 0, none⟩) N N (List.replicate N c) := full_rd c hc (by rw [show k = N by omega] at r; exact r)
      obtain ⟨ys, hys⟩ : ∃ ys, ys = List.replicate N c := ⟨_, rfl⟩
      rw [← hys] at hrd0 heq
      have HL : Hid (ys.length = N ∧ Rd wr (some ⟨G, 0, none⟩) N N ys ∧ G < wr.heap.size) := ⟨hrd0.len, hrd0, r.lt⟩
      have HB : Hid (Below w.heap.size w wr) := hb
      clear hrd0 hys r hb hlt hk
      go_wp2_with fail
      refine (newH_any _).mono ?_
      rintro e w2 ⟨rfl, h2, b2⟩
      obtain ⟨R, hR⟩ : ∃ R, R = wr.heap.size := ⟨_, rfl⟩
      rw [← hR] at h2 ⊢
      have HR : Hid (R = wr.heap.size) := hR
      have H2 : Hid (IsH w2 R [] ∧ Below wr.heap.size wr w2) := ⟨h2, b2⟩
      clear h2 b2 hR
      have hrd := HL.out.2.1.keep H2.out.2
      go_wp2_with (first | (refine wpList_sub rfl _ _ _ rfl hrd 0 K (by omega) rfl (.inr ⟨rfl, rfl⟩) (.inl (by rw [Nat.zero_add]; rfl)) ?_; intro ao' c' hr' hs'; clear hrd))
      refine (write_any R ao' K c' [] ((ys.drop 0).take K) _ H2.out.1 hr' (fun ad had _ e => by obtain ⟨a0, h0, h1⟩ := hs' ad had; cases h0; change ad.block = G at h1; have := HL.out.2.2; have := HR.out; omega) (by have := HL.out.1; simp; omega)).mono ?_
      rintro e w3 ⟨rfl, h3, f3⟩
      rw [List.drop_zero, List.nil_append] at h3
      have H3 : Hid (IsH w3 R (ys.take K) ∧ Below wr.heap.size wr w3) := ⟨h3, H2.out.2.trans (f3.below _ H2.out.2.size (fun i hi e => by have := HR.out; omega))⟩
      clear h3 f3 hr' hs' H2
      have hrd := HL.out.2.1.keep H3.out.2
      go_wp2_with (first | (refine wpList_sub rfl _ _ _ rfl hrd K (N - K) (by omega) rfl (.inl rfl) (.inr ⟨rfl, by omega⟩) ?_; intro ao' c' hr' hs'; clear hrd))
      refine (write_any R ao' (N - K) c' (ys.take K) ((ys.drop K).take (N - K)) _ H3.out.1 hr' (fun ad had _ e => by obtain ⟨a0, h0, h1⟩ := hs' ad had; cases h0; change ad.block = G at h1; have := HL.out.2.2; have := HR.out; omega) (by have := HL.out.1; simp; omega)).mono ?_
      rintro e w4 ⟨rfl, h4, f4⟩
      have hj : (ys.drop K).take (N - K) = ys.drop K := List.take_of_length_le (by have := HL.out.1; simp; omega)
      rw [hj, half_join] at h4
      have H4 : Hid (IsH w4 R ys ∧ Below wr.heap.size wr w4) := ⟨h4, H3.out.2.trans (f4.below _ H3.out.2.size (fun i hi e => by have := HR.out; omega))⟩
      clear h4 f4 hr' hs' H3 hj
      go_wp2_with fail
      refine (hsum_any R ys _ H4.out.1 (by have := HL.out.1; omega)).mono ?_
      rintro e w5 ⟨rfl, b5⟩
      have B5 : Hid (Below wr.heap.size wr w5) := H4.out.2.trans (b5.mono H4.out.2.size)
      clear b5 H4
      rw [sv_agg]
      go_wp2_with fail
      refine (sum_any _ N N ys _ (HL.out.2.1.keep B5.out) (by have := HL.out.1; omega)).mono ?_
      rintro e w6 ⟨rfl, b6⟩
      have B6 : Hid (Below wr.heap.size wr w6) := B5.out.trans (b6.mono B5.out.size)
      clear b6 B5
      rw [sv_agg]
      go_wp2_with fail
      refine (sum_any _ N N ys _ (HL.out.2.1.keep B6.out) (by have := HL.out.1; omega)).mono ?_
      rintro e w7 ⟨rfl, b7⟩
      have B7 : Hid (Below wr.heap.size wr w7) := B6.out.trans (b7.mono B6.out.size)
      clear b7 B6
      rw [sv_agg]
      go_wp2_with fail
      refine (HS.out _ N N ys _ (HL.out.2.1.keep B7.out) (by omega)).mono ?_
      rintro e w8 ⟨rfl, b8⟩
      have B8 : Hid (Below wr.heap.size wr w8) := B7.out.trans (b8.mono B7.out.size)
      clear b8 B7
      rw [sv_agg]
      go_wp2_with fail
      go_ret
      exact ⟨rfl, HB.out.trans (B8.out.mono HB.out.size)⟩

theorem long_any (HS : Hid RefSum) (n cut c : Int) (w : World) (hc : 0 ≤ c ∧ c < 256) :
    Calls Try.prog 5 #[.int .i64 n, .int .i64 cut, .int .u8 c] w fun e w' => e = .returned (.bool true) ∧ Below w.heap.size w w' := by
  by_cases h : n < 0 ∨ 4000 < n ∨ cut < 0 ∨ n < cut
  · exact long_skip n cut c w h
  · obtain ⟨N, rfl⟩ : ∃ N : Nat, n = N := ⟨n.toNat, by omega⟩
    obtain ⟨K, rfl⟩ : ∃ K : Nat, cut = K := ⟨cut.toNat, by omega⟩
    exact long_go HS N K c w (by omega) (by omega) hc

end Go.Proofs.Ytebkgmjmjmaleaa
