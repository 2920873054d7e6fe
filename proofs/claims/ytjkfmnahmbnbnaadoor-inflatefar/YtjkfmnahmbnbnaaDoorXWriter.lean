/- The document's own writer: bits one by one. -/
import Derived.Test.YtjkfmnahmbnbnaaDoorWHelp
namespace Go.Proofs.YtjkfmnahmbnbnaaDoor
open Go.RowKit

/-- Block R is a row of the len bits of N. -/
structure IsX (w : World) (R : Nat) (v : Value) (N : Int) (len : Nat) : Prop where
  row : w.rowIs R 41 1 (fun _ => v)
  own : w.ownsRow 0 4 1 v len ((bl N len).map Value.bool)
  sep : v.ownBlock ≠ some R
  nn : 0 ≤ N
  lt : N < 2 ^ len

theorem IsX.fr {P : Nat → Prop} {w w' : World} {R : Nat} {v : Value} {N : Int} {len : Nat} (h : IsX w R v N len) (hf : Fr P w w') (hP : ∀ k, Of R v k → ¬ P k) : IsX w' R v N len :=
  ⟨rowIs_fr h.row hf (hP R (.inl rfl)), ownsRow_fr h.own hf (fun k hk => hP k (.inr hk)), h.sep, h.nn, h.lt⟩

theorem IsX.inside {w : World} {R : Nat} {v : Value} {N : Int} {len : Nat} (h : IsX w R v N len) : ∀ k, Of R v k → k < w.heap.size := by
  rintro k (rfl | hk)
  · exact h.row.lt
  · exact (h.own.lt k hk).2

/-- Behind an append of one bit and its store. -/
theorem bit_pushed {wr w5 : World} {R g5 c5 len : Nat} {v : Value} {N b : Int} {O : Obj} (h : IsX wr R v N len) (b0 : 0 ≤ b) (b1 : b < 2)
    (o5 : w5.ownsRow 0 4 1 (.slice (some ⟨g5, 0, none⟩) (len + 1) c5) (len + 1) ((bl N len).map Value.bool ++ [.bool (b == 1)])) (gr : (wr.alloc O).grownBy w5 v.ownBlock) (l5 : v.ownBlock = some g5 ∨ g5 = wr.heap.size + 1) :
    IsX (w5.setCell ⟨R, 0, none⟩ (.slice (some ⟨g5, 0, none⟩) (len + 1) c5)) R (.slice (some ⟨g5, 0, none⟩) (len + 1) c5) (N + 2 ^ len * b) (len + 1) ∧
      Step R v (.slice (some ⟨g5, 0, none⟩) (len + 1) c5) wr (w5.setCell ⟨R, 0, none⟩ (.slice (some ⟨g5, 0, none⟩) (len + 1) c5)) := by
  have hne : g5 ≠ R := by
    rintro rfl
    rcases l5 with e | e
    · exact h.sep e
    · have := h.row.lt; omega
  have r5 := rowIs_fr h.row (((Fr.refl (fun k => v.ownBlock = some k) wr).alloc _).grown gr (fun _ _ hk => hk)) h.sep
  obtain ⟨p0, p1⟩ := put_bound N b len 1 h.nn h.lt b0 b1
  refine ⟨⟨(r5.set 0 _).congr (fun i hi => by rcases i with _ | i <;> first | rfl | omega), ?_, fun e => hne (by simpa [Value.ownBlock] using e), p0, p1⟩, ⟨?_, ?_⟩⟩
  · rw [bl_put N b len h.nn h.lt b0 b1, List.map_append]
    exact ownsRow_fr o5 ((Fr.refl (fun k => k = R) w5).setCell rfl _) (fun k hk e => hne (by cases hk; exact e))
  · exact (((Fr.refl (Of R v) wr).alloc _).grown gr (fun _ _ hk => .inr hk)).setCell (.inl rfl) _
  · rcases l5 with e | e
    · exact .inl (by rw [e]; rfl)
    · exact .inr (fun k hk => by cases hk; show wr.heap.size ≤ g5; omega)

/-- The facts that the walk asks for, behind the append. -/
theorem bit_after {wr w5 : World} {R len : Nat} {v : Value} {N : Int} {O : Obj} (h : IsX wr R v N len) (gr : (wr.alloc O).grownBy w5 v.ownBlock) : w5.rowIs R 41 1 (fun _ => v) :=
  rowIs_fr h.row (((Fr.refl (fun k => v.ownBlock = some k) wr).alloc _).grown gr (fun _ _ hk => hk)) h.sep

/-- How long a slice is. -/
def lenOf : Value → Nat | .slice _ n _ => n | _ => 0

theorem xput_no (R : Nat) (x n : Int) (w : World) (hn : n < 0 ∨ 24 < n) :
    Calls Tryd.prog 16 #[.pointer (some ⟨R, 0, none⟩), .int .i64 x, .int .i64 n] w fun e w' => e = .returned (.tuple #[]) ∧ w' = w := by
  by_cases h0 : n < 0
  · clear hn
    go_enter Tryd.func16, Tryd.ntmps16
    go_wp2
    refine bodyPost_ret (results_none rfl _ _ _) rfl ?_
    exact ⟨rfl, rfl⟩
  · have h1 : 24 < n := by omega
    clear hn
    go_enter Tryd.func16, Tryd.ntmps16
    go_wp2
    refine bodyPost_ret (results_none rfl _ _ _) rfl ?_
    exact ⟨rfl, rfl⟩

set_option maxRecDepth 100000 in
set_option maxHeartbeats 1000000 in
theorem xput_yes (R : Nat) (v : Value) (N x : Int) (len n : Nat) (w : World) (h : IsX w R v N len) (hn : n ≤ 24) (hl : len ≤ 1000000000) :
    Calls Tryd.prog 16 #[.pointer (some ⟨R, 0, none⟩), .int .i64 x, .int .i64 n] w fun e w' => e = .returned (.tuple #[]) ∧ ∃ v', IsX w' R v' (N + 2 ^ len * (x % 2 ^ n)) (len + n) ∧ Step R v v' w w' := by
  obtain ⟨i0, hi, hz0, hz1, hz2⟩ := info_parts Tryd.info4
  go_enter Tryd.func16, Tryd.ntmps16
  go_wp2_with fail
  go_loopw [6] (fun i wr => ∃ (k : Nat) (v' : Value), k ≤ n ∧ i = .int .i64 k ∧ IsX wr R v' (N + 2 ^ len * (x % 2 ^ k)) (len + k) ∧ Step R v v' w wr) (fun i _ => n - (intOf i).toNat)
  case atStart => exact ⟨0, v, by omega, rfl, by simpa using h, Step.refl _ _ _⟩
  case round =>
    obtain ⟨k, v', hk, rfl, hx, hs⟩ := hrel
    by_cases hlt : k < n
    · have c0 := hx.row.cell (i := 0) (by omega)
      have eb := i64_one (x / 2 ^ k)
      have b0 : 0 ≤ x / 2 ^ k % 2 := by omega
      have b1 : x / 2 ^ k % 2 < 2 := by omega
      have hN : N + 2 ^ len * (x % 2 ^ k) + 2 ^ (len + k) * (x / 2 ^ k % 2) = N + 2 ^ len * (x % 2 ^ (k + 1)) := by
        rw [mod_one, Int.mul_add, Int.pow_add, Int.mul_assoc, Int.add_assoc]
      generalize N + 2 ^ len * (x % 2 ^ k) = N1 at *
      have HN : Hid (N1 + 2 ^ (len + k) * (x / 2 ^ k % 2) = N + 2 ^ len * (x % 2 ^ (k + 1))) := hN
      have HE : Hid (bits .and .i64 (x / 2 ^ k) 1 = x / 2 ^ k % 2) := eb
      clear hN h eb
      go_wp2_with (at_builtin; refine wpList_append_lies _ rfl _ _ 39 rfl 0 4 i0 (.bool false) 1 1 Tryd.underlying39 hi hz0 hz1 hz2 rfl (by decide) v' (len + k) _ rfl (hx.own.alloc _) ⟨wr.heap.size, 0, none⟩ 1 1 [_] rfl rfl (cell_one_new _ _ _) (by intro u hu; simp at hu; subst hu; rfl) (by omega) (by unfold maxLen; omega) (by omega) (by omega) (wr.heap.size + 1) (by simp) ?_; intro g c5 w5 o5 g5 l5 s5; have k0 := (bit_after hx g5).cell (i := 0) (by omega); have k1 := (bit_after hx g5).frozen 0)
      have bp := bit_pushed hx b0 b1 (by rw [← HE.out]; exact o5) g5 l5
      rw [HN.out] at bp
      clear o5 g5 l5 s5 k0 k1 c0 hx
      go_roundw
      case rel => exact ⟨k + 1, _, by omega, by go_num, bp.1, hs.trans bp.2⟩
      case measure => simp [intOf]; omega
    · obtain rfl : k = n := by omega
      clear h
      go_wp2
      go_end0
      exact ⟨rfl, v', hx, hs⟩

theorem xcode_no (R : Nat) (x n : Int) (w : World) (hn : n < 0 ∨ 24 < n) :
    Calls Tryd.prog 21 #[.pointer (some ⟨R, 0, none⟩), .int .i64 x, .int .i64 n] w fun e w' => e = .returned (.tuple #[]) ∧ w' = w := by
  by_cases h0 : n < 0
  · clear hn
    go_enter Tryd.func21, Tryd.ntmps21
    go_wp2
    refine bodyPost_ret (results_none rfl _ _ _) rfl ?_
    exact ⟨rfl, rfl⟩
  · have h1 : 24 < n := by omega
    clear hn
    go_enter Tryd.func21, Tryd.ntmps21
    go_wp2
    refine bodyPost_ret (results_none rfl _ _ _) rfl ?_
    exact ⟨rfl, rfl⟩

set_option maxRecDepth 100000 in
set_option maxHeartbeats 1000000 in
theorem xcode_yes (R : Nat) (v : Value) (N x : Int) (len n : Nat) (w : World) (h : IsX w R v N len) (hn : n ≤ 24) (hl : len ≤ 1000000000) :
    Calls Tryd.prog 21 #[.pointer (some ⟨R, 0, none⟩), .int .i64 x, .int .i64 n] w fun e w' => e = .returned (.tuple #[]) ∧ ∃ v', IsX w' R v' (N + 2 ^ len * T x n) (len + n) ∧ Step R v v' w w' := by
  obtain ⟨i0, hi, hz0, hz1, hz2⟩ := info_parts Tryd.info4
  go_enter Tryd.func21, Tryd.ntmps21
  go_wp2_with fail
  go_loopw [6] (fun i wr => ∃ (k j : Nat) (v' : Value), k + j = n ∧ i = .int .i64 ((j : Int) - 1) ∧ IsX wr R v' (N + 2 ^ len * (T x n % 2 ^ k)) (len + k) ∧ Step R v v' w wr) (fun i _ => (intOf i + 1).toNat)
  case atStart => exact ⟨0, n, v, by omega, rfl, by simpa using h, Step.refl _ _ _⟩
  case round =>
    obtain ⟨k, j, v', hk, rfl, hx, hs⟩ := hrel
    by_cases hlt : 0 < j
    · obtain ⟨i, rfl⟩ : ∃ i, j = i + 1 := ⟨j - 1, by omega⟩
      have c0 := hx.row.cell (i := 0) (by omega)
      have eb := i64_one (x / 2 ^ i)
      have b0 : 0 ≤ x / 2 ^ i % 2 := by omega
      have b1 : x / 2 ^ i % 2 < 2 := by omega
      have hN : N + 2 ^ len * (T x n % 2 ^ k) + 2 ^ (len + k) * (x / 2 ^ i % 2) = N + 2 ^ len * (T x n % 2 ^ (k + 1)) := by
        rw [mod_one, T_bit x n k (by omega), show n - 1 - k = i by omega, Int.mul_add, Int.pow_add, Int.mul_assoc, Int.add_assoc]
      generalize N + 2 ^ len * (T x n % 2 ^ k) = N1 at *
      have HN : Hid (N1 + 2 ^ (len + k) * (x / 2 ^ i % 2) = N + 2 ^ len * (T x n % 2 ^ (k + 1))) := hN
      have HE : Hid (bits .and .i64 (x / 2 ^ i) 1 = x / 2 ^ i % 2) := eb
      have e1 : ((i + 1 : Nat) : Int) - 1 = (i : Int) := by omega
      rw [e1]
      clear hN h eb
      go_wp2_with (at_builtin; refine wpList_append_lies _ rfl _ _ 39 rfl 0 4 i0 (.bool false) 1 1 Tryd.underlying39 hi hz0 hz1 hz2 rfl (by decide) v' (len + k) _ rfl (hx.own.alloc _) ⟨wr.heap.size, 0, none⟩ 1 1 [_] rfl rfl (cell_one_new _ _ _) (by intro u hu; simp at hu; subst hu; rfl) (by omega) (by unfold maxLen; omega) (by omega) (by omega) (wr.heap.size + 1) (by simp) ?_; intro g c5 w5 o5 g5 l5 s5; have k0 := (bit_after hx g5).cell (i := 0) (by omega); have k1 := (bit_after hx g5).frozen 0)
      have bp := bit_pushed hx b0 b1 (by rw [← HE.out]; exact o5) g5 l5
      rw [HN.out] at bp
      clear o5 g5 l5 s5 k0 k1 c0 hx
      go_roundw
      case rel => exact ⟨k + 1, i, _, by omega, by go_num, bp.1, hs.trans bp.2⟩
      case measure => simp [intOf]
    · obtain rfl : j = 0 := by omega
      obtain rfl : k = n := by omega
      rw [Int.emod_eq_of_lt (T_bound x k).1 (T_bound x k).2] at hx
      clear h
      go_wp2
      go_end0
      exact ⟨rfl, v', hx, hs⟩

/-- A row of bits, as a slice. -/
theorem own_len {w : World} {base n : Nat} {v : Value} {xs : List Value} (h : w.ownsRow base 4 1 v n xs) : ∃ ao c, v = .slice ao n c := by
  rcases h.2 with ⟨rfl, rfl⟩ | ⟨g, cap, cur, rfl, _⟩
  · exact ⟨none, 0, rfl⟩
  · exact ⟨_, _, rfl⟩

set_option maxRecDepth 100000 in
set_option maxHeartbeats 1000000 in
theorem xalign_any (R : Nat) (v : Value) (N : Int) (len : Nat) (w : World) (h : IsX w R v N len) (hl : len ≤ 1000000000) :
    Calls Tryd.prog 17 #[.pointer (some ⟨R, 0, none⟩)] w fun e w' => e = .returned (.tuple #[]) ∧ ∃ v', IsX w' R v' N (al len) ∧ Step R v v' w w' := by
  obtain ⟨i0, hi, hz0, hz1, hz2⟩ := info_parts Tryd.info4
  go_enter Tryd.func17, Tryd.ntmps17
  go_wp2_with fail
  go_loopw [] (fun wr => ∃ (m : Nat) (v' : Value), len ≤ m ∧ al m = al len ∧ IsX wr R v' N m ∧ Step R v v' w wr) (fun wr => al len - (lenOf ((wr.cell? ⟨R, 0, none⟩).getD (.int .i64 0))))
  case atStart => exact ⟨len, v, by omega, rfl, h, Step.refl _ _ _⟩
  case round =>
    obtain ⟨m, v', hm, ha, hx, hs⟩ := hrel
    obtain ⟨ao, c, rfl⟩ := own_len hx.own
    have c0 := hx.row.cell (i := 0) (by omega)
    have hm1 : m ≤ 1000000010 := by unfold al at ha; omega
    by_cases h8 : m % 8 = 0
    · have e : al len = m := by unfold al at *; omega
      have h8' : ((m : Int) % 8) = 0 := by omega
      have HE : Hid (al len = m) := e
      clear h e ha
      go_wp2
      go_end0
      exact ⟨rfl, _, by rw [HE.out]; exact hx, hs⟩
    · have h8' : ((m : Int) % 8 == 0) = false := by simp; omega
      have he : al (m + 1) = al len := by unfold al at *; omega
      have hlt : m < al len := by unfold al at *; omega
      have HE : Hid (al (m + 1) = al len) := he
      have HA : Hid (al m = al len) := ha
      have HL : Hid (m < al len) := hlt
      have HC : Hid (wr.cell? ⟨R, 0, none⟩ = some (.slice ao m c)) := c0
      clear h ha he hlt
      go_wp2_with (at_builtin; refine wpList_append_lies _ rfl _ _ 39 rfl 0 4 i0 (.bool false) 1 1 Tryd.underlying39 hi hz0 hz1 hz2 rfl (by decide) _ m _ rfl (hx.own.alloc _) ⟨wr.heap.size, 0, none⟩ 1 1 [_] rfl rfl (cell_one_new _ _ _) (by intro u hu; simp at hu; subst hu; rfl) (by omega) (by unfold maxLen; omega) (by omega) (by omega) (wr.heap.size + 1) (by simp) ?_; intro g c5 w5 o5 g5 l5 s5; have k0 := (bit_after hx g5).cell (i := 0) (by omega); have k1 := (bit_after hx g5).frozen 0)
      have bp := bit_pushed (b := 0) hx (by omega) (by omega) o5 g5 l5
      rw [Int.mul_zero, Int.add_zero] at bp
      have m1 := bp.1.row.cell (i := 0) (by omega)
      have M1 : Hid ((w5.setCell ⟨R, 0, none⟩ (.slice (some ⟨g, 0, none⟩) (m + 1) c5)).cell? ⟨R, 0, none⟩ = some (.slice (some ⟨g, 0, none⟩) (m + 1) c5)) := m1
      clear o5 g5 l5 s5 k0 k1 c0 hx m1
      go_roundw
      case rel => exact ⟨m + 1, _, by omega, HE.out, bp.1, hs.trans bp.2⟩
      case measure =>
        have := HL.out
        rw [HC.out, M1.out]
        simp [lenOf]
        omega

end Go.Proofs.YtjkfmnahmbnbnaaDoor
