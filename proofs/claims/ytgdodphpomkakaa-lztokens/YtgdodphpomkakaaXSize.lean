/- The document's Size. -/
import Derived.Test.YtgdodphpomkakaaWTotal
namespace Go.Proofs.Ytgdodphpomkakaa
open Go.RowKit

set_option maxRecDepth 100000 in
set_option maxHeartbeats 1000000 in
theorem xsize_any (ao : Option Addr) (n c : Nat) (ts : List Tok) (w : World) (h : Tk w ao n ts) (hn : n ≤ 1000000) :
    Calls Try.prog 14 #[.slice ao n c] w fun e w' => e = .returned (.int .i64 (min (tot ts) 262145 : Nat)) ∧ w' = w := by
  obtain ⟨r, hr⟩ : ∃ r, r = min (tot ts) 262145 := ⟨_, rfl⟩
  rw [← hr]
  have HR : Hid (r = min (tot ts) 262145) := hr
  clear hr
  go_enter Try.func14, Try.ntmps14
  go_wp2
  go_loop [3, 4] (fun m i => ∃ k : Nat, k ≤ n ∧ i = .int .i64 k ∧ m = .int .i64 (tot (ts.take k) : Nat) ∧ tot (ts.take k) ≤ 262144) (fun _ i => n - (intOf i).toNat)
  case atStart => exact ⟨0, by omega, rfl, rfl, by simp [tot]⟩
  case round =>
    obtain ⟨k, hk, rfl, rfl, hle⟩ := hrel
    by_cases hlt : k < n
    · have hT := h.cells k hlt
      have e := h.taken k hlt
      have m1 := tot_le ts (k + 1)
      obtain ⟨t, ht⟩ : ∃ t, t = ts.getD k tz := ⟨_, rfl⟩
      obtain ⟨T, hT'⟩ : ∃ T, T = tot (ts.take k) := ⟨_, rfl⟩
      obtain ⟨U, hU⟩ : ∃ U, U = tot (ts.take (k + 1)) := ⟨_, rfl⟩
      rw [← ht, ← hT', ← hU] at e
      rw [← hU] at m1
      rw [← ht] at hT
      rw [← hT'] at hle ⊢
      obtain ⟨b, off, rfl, h0, h1, h2⟩ := hT
      have HU : Hid (U = tot (ts.take (k + 1))) := hU
      have HM : Hid (U ≤ tot ts) := m1
      have HE : Hid (U = T + sz t) := e
      clear e ht hT' h hU m1
      obtain ⟨l, m, d⟩ := t
      by_cases z1 : m = 0
      · have HE' : Hid (U = T + 1) := by
          have e := HE.out
          have : sz (l, m, d) = 1 := by simp [sz, z1]
          show U = T + 1
          omega
        subst z1
        by_cases big : 262144 < T + 1
        · have q : (262144 : Int) < (T : Int) + 1 := by omega
          have hr : Hid ((r : Int) = 262145) := by have := HR.out; have := HM.out; have := HE'.out; show (r : Int) = 262145; omega
          clear HE HU HR HM
          go_wp2
          go_ret
          exact ⟨by rw [hr.out]; rfl, rfl⟩
        · have q : ¬ (262144 : Int) < (T : Int) + 1 := by omega
          have hU2 : U ≤ 262144 := by have := HE'.out; omega
          clear HE HR HM
          go_wp2
          go_round
          case rel => exact ⟨k + 1, by omega, by go_num, by rw [← HU.out, HE'.out]; go_num, by rw [← HU.out]; exact hU2⟩
          case measure => simp [intOf]; omega
      · have p1 : (m == 0) = false := by simp [z1]
        by_cases z2 : 0 < m
        · by_cases z3 : m ≤ 258
          · have HE' : Hid ((U : Int) = T + m) := by
              have e := HE.out
              have : ((sz (l, m, d) : Nat) : Int) = m := by simp [sz, z1, show ¬ m < 0 by omega, show ¬ 258 < m by omega]; omega
              show (U : Int) = T + m
              omega
            by_cases big : 262144 < (T : Int) + m
            · have hr : Hid ((r : Int) = 262145) := by have := HR.out; have := HM.out; have := HE'.out; show (r : Int) = 262145; omega
              clear HE HU HR HM
              go_wp2
              go_ret
              exact ⟨by rw [hr.out]; rfl, rfl⟩
            · have hU2 : U ≤ 262144 := by have := HE'.out; omega
              have q9 : (T : Int) + m < 9000000 := by omega
              clear HE HR HM
              go_wp2
              go_round
              case rel => exact ⟨k + 1, by omega, by go_num, by rw [← HU.out, HE'.out], by rw [← HU.out]; exact hU2⟩
              case measure => simp [intOf]; omega
          · have HE' : Hid (U = T) := by
              have e := HE.out
              have : sz (l, m, d) = 0 := by simp [sz, z1, show 258 < m by omega]
              show U = T
              omega
            have q : ¬ (262144 : Int) < (T : Int) := by omega
            clear HE HR HM
            go_wp2
            go_round
            case rel => exact ⟨k + 1, by omega, by go_num, by rw [← HU.out, HE'.out], by rw [← HU.out, HE'.out]; exact hle⟩
            case measure => simp [intOf]; omega
        · have HE' : Hid (U = T) := by
            have e := HE.out
            have : sz (l, m, d) = 0 := by simp [sz, z1, show m < 0 by omega]
            show U = T
            omega
          have q : ¬ (262144 : Int) < (T : Int) := by omega
          clear HE HR HM
          go_wp2
          go_round
          case rel => exact ⟨k + 1, by omega, by go_num, by rw [← HU.out, HE'.out], by rw [← HU.out, HE'.out]; exact hle⟩
          case measure => simp [intOf]; omega
    · obtain rfl : k = n := by omega
      have hr : Hid (((tot (ts.take k) : Nat) : Int) = r) := by have := HR.out; rw [h.all] at hle ⊢; show ((tot ts : Nat) : Int) = r; omega
      clear h HR hle
      go_wp2
      go_ret
      exact ⟨by rw [hr.out]; rfl, rfl⟩

end Go.Proofs.Ytgdodphpomkakaa
