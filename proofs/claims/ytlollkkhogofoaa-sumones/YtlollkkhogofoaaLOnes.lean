/- The walk of SumOnes. -/
import Derived.Test.YtlollkkhogofoaaWSums
namespace Go.Proofs.Ytlollkkhogofoaa
open Go.RowKit

theorem fill_row (c : Int) (k : Nat) {w : World} {b N : Nat} (h : w.rowIs b 5 N (fun j => if j < k then .int .u8 c else .int .u8 0)) : (w.setCell ⟨b, k, none⟩ (.int .u8 c)).rowIs b 5 N (fun j => if j < k + 1 then .int .u8 c else .int .u8 0) :=
  (h.set k _).congr (fun i _ => by
    by_cases e : i = k
    · subst e; simp
    · simp only [e, if_false]
      by_cases h : i < k
      · simp [h, show i < k + 1 by omega]
      · simp [h, show ¬ i < k + 1 by omega])

theorem full_rd {w : World} {b N : Nat} (c : Int) (hc : 0 ≤ c ∧ c < 256) (h : w.rowIs b 5 N (fun j => if j < N then .int .u8 c else .int .u8 0)) : Rd w (some ⟨b, 0, none⟩) N N (List.replicate N c) :=
  Rd.ofRow (h.congr (fun i hi => by simp [hi, List.getD])) (by simp) (by intro x hx; rw [List.eq_of_mem_replicate hx]; exact hc)

/-- A byte so many times. -/
theorem pl_ones (c : Int) (N : Nat) : (pl 1 0 (List.replicate N c)).1 = 1 + N * c ∧ 2 * (pl 1 0 (List.replicate N c)).2 = 2 * N + c * (N * (N + 1)) := by
  induction N with
  | zero => simp [pl]
  | succ N ih =>
    rw [List.replicate_succ', pl_snoc]
    obtain ⟨i1, i2⟩ := ih
    have e1 : ((N + 1 : Nat) : Int) = (N : Int) + 1 := by omega
    rw [e1]
    refine ⟨by simp only [i1]; rw [Int.add_mul]; omega, ?_⟩
    have e2 : c * (((N : Int) + 1) * ((N : Int) + 1 + 1)) = c * ((N : Int) * (N + 1)) + 2 * (N * c) + 2 * c := by
      generalize (N : Int) = m
      have e : (m + 1) * (m + 1 + 1) = m * (m + 1) + 2 * m + 2 := by rw [Int.add_mul m 1 (m + 1 + 1), Int.mul_add m (m + 1) 1, Int.one_mul, Int.mul_one]; omega
      have f : c * (2 * m) = 2 * (m * c) := by rw [Int.mul_left_comm, Int.mul_comm c m]
      rw [e, Int.mul_add, Int.mul_add, f]
      omega
    simp only [i1]
    rw [e2]
    omega

theorem AL_ones (c : Int) (N : Nat) : AL (List.replicate N c) = ad ((1 + N * c) % 65521) ((N + c * ((N : Int) * (N + 1) / 2)) % 65521) := by
  obtain ⟨h1, h2⟩ := pl_ones c N
  unfold AL MD
  have hev : ∃ q, (N : Int) * (N + 1) = 2 * q := by
    rcases Int.emod_two_eq (N : Int) with h | h
    · exact ⟨(N : Int) / 2 * (N + 1), by rw [← Int.mul_assoc]; congr 1; omega⟩
    · exact ⟨(N : Int) * ((N + 1) / 2), by rw [Int.mul_left_comm]; congr 1; omega⟩
  obtain ⟨q, hq⟩ := hev
  have e3 : (N : Int) * (N + 1) / 2 = q := by omega
  have e4 : c * (2 * q) = 2 * (c * q) := Int.mul_left_comm _ _ _
  rw [h1, e3]
  rw [hq, e4] at h2
  rw [show (pl 1 0 (List.replicate N c)).2 = N + c * q by omega]

theorem ones_skip (c n : Int) (w : World) (h : n < 0 ∨ 6000 < n) :
    Calls Try.prog 7 #[.int .u8 c, .int .i64 n] w fun e w' => e = .returned (.bool true) ∧ Below w.heap.size w w' := by
  by_cases h1 : n < 0
  · have d1 : decide (n < 0) = true := by simp; omega
    clear h
    go_enter Try.func7, Try.ntmps7
    go_wp2_with (go_at_call 8; refine (known_any _).mono ?_; rintro e w1 ⟨rfl, hb⟩)
    go_ret
    exact ⟨rfl, hb⟩
  · have d1 : decide (n < 0) = false := by simp; omega
    have d2 : decide (6000 < n) = true := by simp; omega
    clear h
    go_enter Try.func7, Try.ntmps7
    go_wp2_with (go_at_call 8; refine (known_any _).mono ?_; rintro e w1 ⟨rfl, hb⟩)
    go_ret
    exact ⟨rfl, hb⟩

set_option maxRecDepth 100000 in
set_option maxHeartbeats 4000000 in
theorem ones_go (N : Nat) (c : Int) (w : World) (hN : N ≤ 6000) (hc : 0 ≤ c ∧ c < 256) :
    Calls Try.prog 7 #[.int .u8 c, .int .i64 (N : Int)] w fun e w' => e = .returned (.bool true) ∧ Below w.heap.size w w' := by
  obtain ⟨i0, hi, hz0, hz1, hz2⟩ := info_parts Try.info5
  have d1 : decide ((N : Int) < 0) = false := by simp
  have d2 : decide ((6000 : Int) < (N : Int)) = false := by simp; omega
  have HA : Hid (AL (List.replicate N c) = ad ((1 + N * c) % 65521) ((N + c * ((N : Int) * (N + 1) / 2)) % 65521)) := AL_ones c N
  have p1 : 0 ≤ (N : Int) * c ∧ (N : Int) * c ≤ 6000 * 255 := ⟨Int.mul_nonneg (by omega) hc.1, Int.mul_le_mul (by omega) (by omega) hc.1 (by omega)⟩
  have p2 : 0 ≤ (N : Int) * ((N : Int) + 1) ∧ (N : Int) * ((N : Int) + 1) ≤ 6000 * 6001 := ⟨Int.mul_nonneg (by omega) (by omega), Int.mul_le_mul (by omega) (by omega) (by omega) (by omega)⟩
  obtain ⟨P1, hP1⟩ : ∃ P, (N : Int) * c = P := ⟨_, rfl⟩
  obtain ⟨P2, hP2⟩ : ∃ P, (N : Int) * ((N : Int) + 1) = P := ⟨_, rfl⟩
  rw [hP1] at p1 HA
  rw [hP2] at p2 HA
  have p3 : 0 ≤ c * (P2 / 2) ∧ c * (P2 / 2) ≤ 255 * 18003000 := ⟨Int.mul_nonneg hc.1 (by omega), Int.mul_le_mul (by omega) (by omega) (by omega) (by omega)⟩
  obtain ⟨P3, hP3⟩ : ∃ P, c * (P2 / 2) = P := ⟨_, rfl⟩
  rw [hP3] at p3 HA
  go_enter Try.func7, Try.ntmps7
  go_wp2_with (first
    | (go_at_call 8; refine (known_any _).mono ?_; rintro e w1 ⟨rfl, b1⟩)
    | (at_make; refine wpList_make_full _ rfl _ _ 22 rfl 0 5 i0 (.int .u8 0) 1 Try.underlying22 hi hz0 hz1 _ _ _ _ N rfl rfl rfl rfl (by rw [hz2]; omega) (by unfold maxLen; omega) (Nat.zero_le _) ?_; intro w2 hown hgrow))
  have r2 : w2.rowIs w1.heap.size 5 N (fun j => if j < 0 then .int .u8 c else .int .u8 0) := (made_rowIs rfl hown).congr (fun j _ => by simp)
  have b2 : Below w.heap.size w w2 := b1.grown hgrow b1.size (fun k hk => by cases hk)
  obtain ⟨G, hG⟩ : ∃ G, G = w1.heap.size := ⟨_, rfl⟩
  have HG : Hid (w.heap.size ≤ G) := by rw [hG]; exact b1.size
  rw [← hG] at r2 ⊢
  clear hown hgrow hG b1
  go_wp2_with fail
  go_loopw [6] (fun i wr => ∃ k : Nat, i = .int .i64 (k : Int) ∧ k ≤ N ∧ wr.rowIs G 5 N (fun j => if j < k then .int .u8 c else .int .u8 0) ∧ Below w.heap.size w wr) (fun i _ => (N - intOf i).toNat)
  case atStart => exact ⟨0, rfl, by omega, r2, b2⟩
  case round =>
    clear r2 b2
    obtain ⟨k, rfl, hk, r, hb⟩ := hrel
    by_cases hlt : k < N
    · have ct := r.cell hlt
      have ft := r.frozen k
      have h3 := fill_row c k r
      have hb' : Below w.heap.size w (wr.setCell ⟨G, k, none⟩ (.int .u8 c)) := hb.setCell HG.out _
      have hlt' : (k : Int) < N := by omega
      clear r hb
      go_wp2_with fail
      exact ⟨⟨k + 1, rfl, by omega, h3, hb'⟩, by simp [intOf]; omega⟩
    · have hlt' : ¬ (k : Int) < N := by omega
      have hrd0 : Rd wr (some ⟨G, 0, none⟩) N N (List.replicate N c) := full_rd c hc (by rw [show k = N by omega] at r; exact r)
      obtain ⟨ys, hys⟩ : ∃ ys, ys = List.replicate N c := ⟨_, rfl⟩
      rw [← hys] at hrd0 HA
      have HL : Hid (Rd wr (some ⟨G, 0, none⟩) N N ys ∧ Below w.heap.size w wr) := ⟨hrd0, hb⟩
      clear hrd0 hys r hb hlt hk
      obtain ⟨S1, hS1⟩ : ∃ S, (1 + P1) % 65521 = S := ⟨_, rfl⟩
      obtain ⟨S2, hS2⟩ : ∃ S, ((N : Int) + P3) % 65521 = S := ⟨_, rfl⟩
      rw [hS1, hS2] at HA
      have q1 : 0 ≤ S1 ∧ S1 < 65521 := by omega
      have q2 : 0 ≤ S2 ∧ S2 < 65521 := by omega
      have hor : bits .or .i64 (S2 * 65536) S1 = ad S1 S2 := by
        have := bits_join .i64 63 (by decide) wraps_i64 16 (S2 * 65536) S1 (by omega) (by omega) (by omega) q1.1 (by omega) (by omega)
        rw [this]
        rfl
      have qa : 0 ≤ ad S1 S2 ∧ ad S1 S2 < 4294967296 := by unfold ad; omega
      obtain ⟨A, hA⟩ : ∃ A, A = ad S1 S2 := ⟨_, rfl⟩
      rw [← hA] at HA hor qa
      clear hA
      go_wp2_with fail
      refine (adlR _ N N ys _ HL.out.1 (by omega)).mono ?_
      rintro e wq ⟨rfl, hw⟩
      subst hw
      rw [HA.out]
      go_wp2_with fail
      refine (crcR _ N N ys _ HL.out.1 (by omega)).mono ?_
      rintro e w3 ⟨rfl, b3⟩
      have H3 : Hid (Rd w3 (some ⟨G, 0, none⟩) N N ys ∧ Below w.heap.size w w3) := ⟨HL.out.1.keep b3, HL.out.2.trans (b3.mono HL.out.2.size)⟩
      clear b3 HL
      go_wp2_with fail
      refine (rcrcR _ N N ys _ H3.out.1 (by omega)).mono ?_
      rintro e wq ⟨rfl, hw⟩
      subst hw
      go_wp2_with fail
      go_ret
      exact ⟨rfl, H3.out.2⟩

theorem ones_any (c n : Int) (w : World) (hc : 0 ≤ c ∧ c < 256) :
    Calls Try.prog 7 #[.int .u8 c, .int .i64 n] w fun e w' => e = .returned (.bool true) ∧ Below w.heap.size w w' := by
  by_cases h : n < 0 ∨ 6000 < n
  · exact ones_skip c n w h
  · obtain ⟨N, rfl⟩ : ∃ N : Nat, n = N := ⟨n.toNat, by omega⟩
    exact ones_go N c w (by omega) hc

end Go.Proofs.Ytlollkkhogofoaa
