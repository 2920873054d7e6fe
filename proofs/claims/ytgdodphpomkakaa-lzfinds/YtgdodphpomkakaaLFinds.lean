/- The walk of LzFinds. -/
import Derived.Test.YtgdodphpomkakaaWKnown
namespace Go.Proofs.Ytgdodphpomkakaa
open Go.RowKit

theorem finds_skip (bo : Option Addr) (N c : Nat) (eff : Int) (w : World) (h : 3000 < N) :
    Calls Try.prog 4 #[.slice bo N c, .int .i64 eff] w fun e w' => e = .returned (.bool true) ∧ Below w.heap.size w w' := by
  have h1 : (3000 : Int) < N := by omega
  go_enter Try.func4, Try.ntmps4
  go_wp2_with (go_at_call 7; refine (known_any _).mono ?_; rintro e w1 ⟨rfl, hb⟩)
  go_ret
  exact ⟨rfl, hb⟩

set_option maxRecDepth 100000 in
set_option maxHeartbeats 2000000 in
theorem finds_go (bo : Option Addr) (N c : Nat) (b : List Int) (eff : Int) (w : World) (hR : Rd w bo N c b) (hN : N ≤ 3000) (he : eff < 9223372036854775808) :
    Calls Try.prog 4 #[.slice bo N c, .int .i64 eff] w fun e w' => e = .returned (.bool true) ∧ Below w.heap.size w w' := by
  have d1 : decide ((3000 : Int) < N) = false := by simp; omega
  have HR : Hid (Rd w bo N c b) := hR
  have HL : Hid (b.length = N) := hR.len
  clear hR
  go_enter Try.func4, Try.ntmps4
  go_wp2_with (go_at_call 7; refine (known_any _).mono ?_; rintro e w1 ⟨rfl, b1⟩)
  refine (find_any bo N c b eff w1 (HR.out.keep b1) (by omega) he).mono ?_
  rintro e w2 ⟨v2, ts, rfl, hF, o2, b2⟩
  have B2 := b1.trans (b2.mono b1.size)
  obtain ⟨lo, lc, rfl, _, lk, _⟩ := own_tk o2 hF.fnd.byt
  obtain ⟨C, hC⟩ : ∃ C, C = ts.length := ⟨_, rfl⟩
  have hcnt := hF.fnd.cnt
  have hlit := hF.lit
  have hall := hF.fnd.all
  have hok := hF.fnd.ok
  have hout := hF.fnd.out
  rw [HL.out] at hcnt hall
  rw [HL.out, ← hC] at hlit
  rw [List.take_length] at hout
  rw [← hC] at hcnt lk ⊢
  have HX : Hid (tot ts = N ∧ Ok ts ts.length ∧ mks ts = b ∧ C = ts.length) := ⟨hall, hok, hout, hC⟩
  have HT : Hid (∀ t ∈ ts, 0 ≤ t.1 ∧ t.1 < 256) := hF.fnd.byt
  clear hF o2 b1 b2 hall hok hout hC
  go_wp2_with fail
  refine (of_any lo C lc ts w2 lk (by omega)).mono ?_
  rintro e w3 ⟨v3, rfl, o3, b3⟩
  have B3 := B2.trans (b3.mono B2.size)
  obtain ⟨ro, rc, rfl, _, rk, _⟩ := own_tk o3 HT.out
  clear o3 b3 B2 lk
  go_wp2_with fail
  refine (xexpand_any ro C rc ts N w3 rk (by omega) (by have := HX.out.1; omega) (by omega) (by omega)).mono ?_
  rintro e w4 ⟨v4, g4, os4, rfl, x4, o4, b4⟩
  obtain ⟨rfl, rfl⟩ := x4.yes HX.out.2.1 (by rw [HX.out.1]; omega)
  have B4 := B3.trans (b4.mono B3.size)
  obtain ⟨ao4, c4, rfl, r4, _⟩ := own_rd o4 (mks_byt _ HT.out)
  rw [HX.out.2.2.1, HL.out] at r4 ⊢
  have s1 := r4.str
  have s2 := (HR.out.keep B4).str
  have HB4 : Hid (Below w.heap.size w w4) := B4
  have q1 : ¬ (N : Int) < C := by omega
  clear x4 o4 r4 B4 B3 b4 rk
  by_cases hpos : 0 < eff
  · clear hlit
    go_wp2
    go_ret
    exact ⟨rfl, HB4.out⟩
  · have hCN : (C == N) = true := by simp; exact hlit (by omega)
    have hCN' : ((C : Int) == (N : Int)) = true := by have := hlit (by omega); simp; omega
    clear hlit
    go_wp2
    go_ret
    exact ⟨rfl, HB4.out⟩

end Go.Proofs.Ytgdodphpomkakaa
