/- Put of a code. -/
import Derived.Test.YtkclaikofdolmaaWFind
namespace Go.Proofs.Ytkclaikofdolmaa
open Go.RowKit

theorem cput_no (R K : Nat) (L : Nat → Int) (n : Nat) (q : Value) (s : Int) (w : World) (hC : Cod w R K L n) (hs : s < 0 ∨ (n : Int) ≤ s ∨ (0 ≤ s ∧ s < n ∧ L s.toNat = 0)) :
    Calls Try.prog 20 #[.pointer (some ⟨R, 0, none⟩), q, .int .i64 s] w fun e w' => e = .returned (.bool false) ∧ w' = w := by
  obtain ⟨la, lc, cg, sg, sy, M, dp, hC⟩ := hC
  have c0 := hC.row.cell (i := 0) (by omega)
  rw [show ccells (.slice la n lc) (.slice (some ⟨cg, 0, none⟩) n n) (.slice (some ⟨sg, 0, none⟩) M M) (C L n) (F L n) dp 0 = .slice la n lc from rfl] at c0
  by_cases h1 : s < 0
  · have d1 : decide (s < 0) = true := by simp; omega
    clear hs h1 hC
    go_enter Try.func20, Try.ntmps20
    go_wp2
    go_ret
    exact ⟨rfl, rfl⟩
  by_cases h2 : (n : Int) ≤ s
  · have d1 : decide (s < 0) = false := by simp; omega
    have d2 : decide ((n : Int) ≤ s) = true := by simp; omega
    clear hs h1 hC h2
    go_enter Try.func20, Try.ntmps20
    go_wp2
    go_ret
    exact ⟨rfl, rfl⟩
  · obtain ⟨h3, h4, h5⟩ : 0 ≤ s ∧ s < n ∧ L s.toNat = 0 := by
      rcases hs with h | h | h
      · omega
      · omega
      · exact h
    obtain ⟨i, rfl⟩ := Int.eq_ofNat_of_zero_le h3
    rw [Int.toNat_natCast] at h5
    obtain ⟨b, off, rfl, hcell⟩ := hC.rl.plain (by omega)
    have ci := hcell i (by omega)
    rw [h5] at ci
    have d1 : decide ((i : Int) < 0) = false := by simp
    have d2 : decide ((n : Int) ≤ (i : Int)) = false := by simp; omega
    have hin : i < n := by omega
    clear hs h1 hC h2 h3 h4 h5 hcell
    go_enter Try.func20, Try.ntmps20
    go_wp2
    go_ret
    exact ⟨rfl, rfl⟩

set_option maxRecDepth 100000 in
set_option maxHeartbeats 4000000 in
theorem cput_yes (R K : Nat) (L : Nat → Int) (n : Nat) (Q : Nat) (v : Value) (N : Int) (len i x : Nat) (w : World) (hC : Cod w R K L n) (hW : IsW w Q v N len) (hQ : ∀ k, Of Q v k → K ≤ k) (hi : i < n) (hx : L i = x) (hx0 : 0 < x) (hl : len ≤ 1000000) :
    Calls Try.prog 20 #[.pointer (some ⟨R, 0, none⟩), .pointer (some ⟨Q, 0, none⟩), .int .i64 i] w fun e w' => e = .returned (.bool true) ∧ ∃ v', IsW w' Q v' (N + 2 ^ len * T (cd L n i) x) (len + x) ∧ Step Q v v' w w' := by
  obtain ⟨la, lc, cg, sg, sy, M, dp, hC⟩ := hC
  obtain ⟨h288, hL, hf⟩ := er_zero L n hC.ok
  have hx15 : x ≤ 15 := by have := (hL i hi).2; omega
  have hkw := hC.kw
  have hE1 : cdN N len (cd L n i) x = N + 2 ^ len * T (cd L n i) x := by rw [cdN, if_pos (by omega), Int.toNat_natCast]
  have hE2 : ptL len x = len + x := by rw [ptL, if_pos (by omega), Int.toNat_natCast]
  obtain ⟨b, off, rfl, _⟩ := hC.rl.plain (by omega)
  have HC : Hid (∀ w', Below K w w' → w'.cell? ⟨R, 0, none⟩ = some (.slice (some ⟨b, off, none⟩) n lc) ∧ w'.cell? ⟨R, 1, none⟩ = some (.slice (some ⟨cg, 0, none⟩) n n) ∧ w'.cell? ⟨b, off + i, none⟩ = some (.int .i64 x) ∧ w'.cell? ⟨cg, i, none⟩ = some (.int .i64 (cd L n i))) := fun w' hb => by
    have h' := hC.keep hb
    refine ⟨h'.row.cell (i := 0) (by omega), h'.row.cell (i := 1) (by omega), ?_, h'.rc.cell hi⟩
    have := h'.rl.cells _ rfl i hi
    rw [Addr.add_lit, hx] at this
    exact this
  have k0 := HC.out w (Below.refl _ _)
  obtain ⟨k1, k2, k3, k4⟩ := k0
  have d1 : decide ((i : Int) < 0) = false := by simp
  have d2 : decide ((n : Int) ≤ (i : Int)) = false := by simp; omega
  have d3 : ((x : Int) == 0) = false := by simp; omega
  have dw := hW.drew
  have HQ : Hid (∀ k, Of Q v k → K ≤ k) := hQ
  generalize hcd : cd L n i = cv at *
  clear hC hf hL hcd hQ
  go_enter Try.func20, Try.ntmps20
  go_wp2_with fail
  go_region_held3 (fun w' => w'.cell? ⟨R, 0, none⟩ = some (.slice (some ⟨b, off, none⟩) n lc) ∧ w'.cell? ⟨R, 1, none⟩ = some (.slice (some ⟨cg, 0, none⟩) n n) ∧ w'.cell? ⟨b, off + i, none⟩ = some (.int .i64 x) ∧ w'.cell? ⟨cg, i, none⟩ = some (.int .i64 cv)) (go_keep)
    ((go_at_call 39; refine (code_any Q v N cv x len w.drew dw (by omega)).mono ?_; rintro e w3 ⟨rfl, v3, h3, s3⟩; have B3 : Below K w w3 := (Below.refl _ _).drew.trans (s3.below K hkw HQ.out); have e1 := (HC.out w3 B3).1; have e2 := (HC.out w3 B3).2.1; have e3 := (HC.out w3 B3).2.2.1; have e4 := (HC.out w3 B3).2.2.2))
  clear k1 k2 k3 k4 e1 e2 e3 e4 dw
  go_wp2_with fail
  go_ret
  rw [hE1, hE2] at h3
  exact ⟨rfl, v3, h3, ⟨(Fr.refl _ w).drew.trans s3.fr (fun _ _ e => e), s3.own⟩⟩

end Go.Proofs.Ytkclaikofdolmaa
