/- same. -/
import Derived.Test.YtgdodphpomkakaaWHash
namespace Go.Proofs.Ytgdodphpomkakaa
open Go.RowKit Go.Maps

set_option maxRecDepth 100000 in
set_option maxHeartbeats 1000000 in
theorem same_any (R : Nat) (ao : Option Addr) (N c M g : Nat) (b : List Int) (q p m : Nat) (w : World) (hr : w.rowIs R 54 3 (chc ao N c M g)) (h : Rd w ao N c b) (hq : q ≤ p) (hp : p + m ≤ N) (hN : N ≤ 1000000) :
    Calls Try.prog 26 #[.pointer (some ⟨R, 0, none⟩), .int .i64 q, .int .i64 p, .int .i64 m] w fun e w' => ∃ n : Nat, e = .returned (.int .i64 n) ∧ Sm b q p m n ∧ Below w.heap.size w w' := by
  have HR : Hid (w.rowIs R 54 3 (chc ao N c M g)) := hr
  have HB : Hid (Rd w ao N c b) := h
  clear hr h
  go_enter Try.func26, Try.ntmps26
  go_wp2
  go_loopw [9] (fun v wr => ∃ k : Nat, k ≤ m ∧ v = .int .i64 k ∧ Hid (∀ i, i < k → b.getD (q + i) 0 = b.getD (p + i) 0) ∧ Hid (Below w.heap.size w wr)) (fun v _ => m - (intOf v).toNat)
  case atStart => exact ⟨0, by omega, rfl, (fun i hi => by omega), Below.refl _ _⟩
  case round =>
    obtain ⟨k, hk, rfl, hall, hb⟩ := hrel
    by_cases hlt : k < m
    · have c0 : wr.cell? ⟨R, 0, none⟩ = some (.slice ao N c) := (HR.out.of_block (hb.out.block _ HR.out.lt)).cell (i := 0) (by omega)
      obtain ⟨B, off, rfl, hcell⟩ := (HB.out.keep hb.out).plain (by omega)
      have d0 := hcell (q + k) (by omega)
      have d1 := hcell (p + k) (by omega)
      have q0 : q + k < N := by omega
      have q1 : p + k < N := by omega
      by_cases he : b.getD (q + k) 0 = b.getD (p + k) 0
      · have HA : Hid (∀ i, i < k + 1 → b.getD (q + i) 0 = b.getD (p + i) 0) := fun i hi => by
          rcases Nat.lt_or_ge i k with h' | h'
          · exact hall.out i h'
          · obtain rfl : i = k := by omega
            exact he
        rw [he] at d0
        generalize b.getD (p + k) 0 = x at *
        clear hcell hall he
        go_wp2
        go_region
        have B2 : Hid (Below w.heap.size w wr.drew) := hb.out.trans ((drew_keep wr).mono hb.out.size)
        clear hb c0 d0 d1
        go_wp2
        go_roundw
        case rel => exact ⟨k + 1, by omega, by go_num, HA, B2⟩
        case measure => simp [intOf]; omega
      · have HS : Hid (Sm b q p m k) := ⟨by omega, hall.out, fun _ => he⟩
        have qe : (b.getD (q + k) 0 == b.getD (p + k) 0) = false := by simp only [beq_eq_false_iff_ne]; exact he
        generalize b.getD (p + k) 0 = x at *
        generalize b.getD (q + k) 0 = y at *
        clear hcell hall he
        go_wp2
        go_region
        have B2 : Hid (Below w.heap.size w wr.drew) := hb.out.trans ((drew_keep wr).mono hb.out.size)
        clear hb c0 d0 d1
        go_wp2
        go_ret
        exact ⟨k, rfl, HS.out, B2.out⟩
    · obtain rfl : k = m := by omega
      clear hlt
      have HS : Hid (Sm b q p k k) := ⟨by omega, hall.out, fun h => by omega⟩
      go_wp2
      go_region
      have B2 : Hid (Below w.heap.size w wr.drew) := hb.out.trans ((drew_keep wr).mono hb.out.size)
      go_wp2
      go_ret
      exact ⟨k, rfl, HS.out, B2.out⟩

end Go.Proofs.Ytgdodphpomkakaa
