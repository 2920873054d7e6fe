/- The document's Check, Size. -/
import Derived.Test.YtgdodphpomkakaaWTotal
namespace Go.Proofs.Ytgdodphpomkakaa
open Go.RowKit

set_option maxRecDepth 100000 in
set_option maxHeartbeats 1000000 in
theorem xcheck_any (ao : Option Addr) (n c : Nat) (ts : List Tok) (w : World) (h : Tk w ao n ts) (hn : n ≤ 1000000) :
    Calls Try.prog 12 #[.slice ao n c] w fun e w' => ∃ g : Int, e = .returned (.int .i64 g) ∧ ((g = 0 ∧ Ok ts n) ∨ (g = 2 ∧ ¬ Ok ts n)) ∧ Below w.heap.size w w' := by
  go_enter Try.func12, Try.ntmps12
  go_wp2
  go_loopw [3, 4] (fun m i wr => ∃ k : Nat, k ≤ n ∧ i = .int .i64 k ∧ m = .int .i64 (tot (ts.take k) : Nat) ∧ Ok ts k ∧ Below w.heap.size w wr) (fun _ i _ => n - (intOf i).toNat)
  case atStart => exact ⟨0, by omega, rfl, rfl, Ok.zero _, Below.refl _ _⟩
  case round =>
    obtain ⟨k, hk, rfl, rfl, hok, hb⟩ := hrel
    by_cases hlt : k < n
    · have hT := (h.keep hb).cells k hlt
      have e := h.taken k hlt
      have m1 := tot_take_max ts k
      have hst : okT (tot (ts.take k)) (ts.getD k tz) → Ok ts (k + 1) := hok.step
      have hno : ¬ okT (tot (ts.take k)) (ts.getD k tz) → ¬ Ok ts n := fun hh hO => hh (hO k hlt)
      obtain ⟨t, ht⟩ : ∃ t, t = ts.getD k tz := ⟨_, rfl⟩
      obtain ⟨T, hT'⟩ : ∃ T, T = tot (ts.take k) := ⟨_, rfl⟩
      rw [← ht, ← hT'] at hst hno e
      rw [← ht] at hT
      rw [← hT'] at m1 ⊢
      obtain ⟨b, off, rfl, h0, h1, h2⟩ := hT
      have HE : Hid (tot (ts.take (k + 1)) = T + sz t) := e
      have HS : Hid (okT T t → Ok ts (k + 1)) := hst
      have HN : Hid (¬ okT T t → ¬ Ok ts n) := hno
      have HB : Hid (Below w.heap.size w wr) := hb
      clear e ht hT' h hst hno hok hb
      obtain ⟨l, m, d⟩ := t
      by_cases hL : isL (l, m, d)
      · have HO : Hid (Ok ts (k + 1)) := HS.out (.inl hL)
        have HE' : Hid (tot (ts.take (k + 1)) = T + 1) := by have e := HE.out; rw [sz_L hL] at e; exact e
        obtain ⟨rfl, rfl⟩ : m = 0 ∧ d = 0 := hL
        clear HS HN HE
        go_wp2
        go_roundw
        case rel => exact ⟨k + 1, by omega, by go_num, by rw [HE'.out]; go_num, HO.out, HB.out.alloc HB.out.size _⟩
        case measure => simp [intOf]; omega
      · have q1 : (m == 0 && d == 0) = false := by
          cases hq : (m == 0 && d == 0) with
          | false => rfl
          | true => simp at hq; exact absurd ⟨hq.1, hq.2⟩ hL
        by_cases hC : isC (l, m, d) (min T 32768)
        · have HO : Hid (Ok ts (k + 1)) := HS.out (.inr hC)
          have HE' : Hid (((tot (ts.take (k + 1)) : Nat) : Int) = T + m) := by have e := HE.out; have := sz_C hC; simp only [] at this; show ((tot (ts.take (k + 1)) : Nat) : Int) = T + m; omega
          obtain ⟨h3, h4, h5, h6, h7⟩ : l = 0 ∧ 3 ≤ m ∧ m ≤ 258 ∧ 1 ≤ d ∧ d ≤ (min T 32768 : Nat) := hC
          have p1 : (m == 0) = false := by simp; omega
          have p2 : ¬ m < 3 := by omega
          have p3 : ¬ 258 < m := by omega
          have p4 : ¬ d < 1 := by omega
          have p5 : ¬ 32768 < d := by omega
          have p6 : ¬ (T : Int) < d := by omega
          have p7 : (T : Int) + m < 9000000000000 := by omega
          subst h3
          clear HS HN HE hL q1 h7
          go_wp2
          go_roundw
          case rel => exact ⟨k + 1, by omega, by go_num, by rw [HE'.out], HO.out, HB.out.alloc HB.out.size _⟩
          case measure => simp [intOf]; omega
        · have HO : Hid (¬ Ok ts n) := HN.out (fun hh => hh.elim hL hC)
          clear HS HN HE
          have fin : ∀ W, Hid (∃ g : Int, Ending.returned (Value.int .i64 2) = .returned (.int .i64 g) ∧ ((g = 0 ∧ Ok ts n) ∨ (g = 2 ∧ ¬ Ok ts n)) ∧ Below w.heap.size w (wr.alloc W)) := fun W => ⟨2, rfl, .inr ⟨rfl, HO.out⟩, HB.out.alloc HB.out.size _⟩
          by_cases hm : m = 0
          · have hd : (d == 0) = false := by simp; rintro rfl; exact hL ⟨hm, rfl⟩
            subst hm
            clear hC hL q1
            by_cases hl : l = 0
            · subst hl
              go_wp2
              go_ret
              exact (fin _).out
            · have ql : (l == 0) = false := by simp [hl]
              go_wp2
              go_ret
              exact (fin _).out
          · have pm : (m == 0) = false := by simp [hm]
            clear q1 hL
            by_cases hl : l = 0
            · have hC' : ¬ (3 ≤ m ∧ m ≤ 258 ∧ 1 ≤ d ∧ d ≤ (min T 32768 : Nat)) := fun hh => hC ⟨hl, hh⟩
              subst hl
              clear hC
              by_cases g1 : m < 3
              · clear hC'
                go_wp2
                go_ret
                exact (fin _).out
              by_cases g2 : 258 < m
              · clear hC'
                go_wp2
                go_ret
                exact (fin _).out
              by_cases g3 : d < 1
              · clear hC'
                go_wp2
                go_ret
                exact (fin _).out
              by_cases g4 : 32768 < d
              · clear hC'
                go_wp2
                go_ret
                exact (fin _).out
              have g5 : (T : Int) < d := by omega
              clear hC'
              go_wp2
              go_ret
              exact (fin _).out
            · have ql : (l == 0) = false := by simp [hl]
              clear hC
              go_wp2
              go_ret
              exact (fin _).out
    · obtain rfl : k = n := by omega
      clear h
      go_wp2
      go_ret
      exact ⟨0, rfl, .inl ⟨rfl, hok⟩, hb⟩

end Go.Proofs.Ytgdodphpomkakaa
