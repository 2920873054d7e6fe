/- sort.Search over the closure of first. -/
import Derived.Test.YtmjcikomcnokkaaDoorWReach
namespace Go.Proofs.YtmjcikomcnokkaaDoor
open Go.RowKit

/-- k is the first place that is so. -/
def Fst (n : Nat) (F : Nat → Bool) (k : Nat) : Prop := k ≤ n ∧ (∀ q, q < k → F q = false) ∧ ∀ q, k ≤ q → q < n → F q = true

theorem Fst.one {n : Nat} {F : Nat → Bool} {k k' : Nat} (h : Fst n F k) (g : Fst n F k') : k = k' := by
  rcases Nat.lt_trichotomy k k' with e | e | e
  · have h1 := h.2.2 k (Nat.le_refl _) (by have := g.1; omega)
    rw [g.2.1 k e] at h1
    cases h1
  · exact e
  · have h1 := g.2.2 k' (Nat.le_refl _) (by have := h.1; omega)
    rw [h.2.1 k' e] at h1
    cases h1

set_option maxHeartbeats 2000000 in
set_option maxRecDepth 100000 in
theorem search_any (n : Nat) (F : Nat → Bool) (p1 p2 p3 : Value) (w : World) (hn : n < 100000) (hm : ∀ i j, i ≤ j → j < n → F i = true → F j = true)
    (hf : ∀ W i, Below w.heap.size w W → i < n → Calls Tryd.prog 44 #[.int .i64 i, p1, p2, p3] W fun e W' => e = .returned (.bool (F i)) ∧ Below w.heap.size w W') :
    Calls Tryd.prog 43 #[.int .i64 n, .func (.func 44) #[] #[p1, p2, p3]] w fun e w' => ∃ k, e = .returned (.int .i64 (k : Nat)) ∧ Fst n F k ∧ Below w.heap.size w w' := by
  have HF : Hid _ := hf
  have HM : Hid _ := hm
  have HB0 : Hid (Below w.heap.size w w) := Below.refl _ _
  have HI0 : Hid ((∀ q, q < 0 → F q = false) ∧ ∀ q, n ≤ q → q < n → F q = true) := ⟨fun q h => by omega, fun q h g => by omega⟩
  clear hf hm
  go_enter Tryd.func43, Tryd.ntmps43
  go_wp2_with fail
  go_loopw [5, 6] (fun vi vj wr => ∃ (i j : Nat), vi = .int .i64 i ∧ vj = .int .i64 j ∧ i ≤ j ∧ j ≤ n ∧ Hid ((∀ q, q < i → F q = false) ∧ ∀ q, j ≤ q → q < n → F q = true) ∧ Hid (Below w.heap.size w wr)) (fun vi vj _ => ((intOf vj) - (intOf vi)).toNat)
  case atStart => exact ⟨0, n, rfl, rfl, by omega, by omega, HI0, HB0⟩
  case round =>
    obtain ⟨i, j, rfl, rfl, hij, hjn, HI, HB⟩ := hrel
    clear HI0 HB0
    by_cases hlt : i < j
    · have hz : (i : Int) < (j : Int) := by omega
      obtain ⟨h, hh⟩ : ∃ h : Nat, h = (i + j) / 2 := ⟨_, rfl⟩
      have e1 : ((i : Int) + (j : Int)) / 2 = (h : Int) := by omega
      have b1 : i ≤ h := by omega
      have b2 : h < j := by omega
      have hc := HF.out wr h HB.out (by omega)
      clear hh
      cases hv : F h with
      | true =>
        rw [hv] at hc
        have HI2 : Hid ((∀ q, q < i → F q = false) ∧ ∀ q, h ≤ q → q < n → F q = true) := ⟨HI.out.1, fun q g1 g2 => HM.out h q g1 g2 hv⟩
        clear hv HI HB
        go_wp2_with fail
        refine hc.mono ?_
        rintro ee w2 ⟨rfl, hB⟩
        have HB2 : Hid (Below w.heap.size w w2) := hB
        clear hB hc
        go_wp2_with fail
        go_roundw
        case rel => exact ⟨i, h, rfl, rfl, by omega, by omega, HI2, HB2⟩
        case measure => simp [intOf]; omega
      | false =>
        rw [hv] at hc
        have HI2 : Hid ((∀ q, q < h + 1 → F q = false) ∧ ∀ q, j ≤ q → q < n → F q = true) := ⟨(fun q g => by
          cases hq : F q with
          | false => rfl
          | true =>
            have := HM.out q h (by omega) (by omega) hq
            rw [hv] at this
            cases this), HI.out.2⟩
        clear hv HI HB
        go_wp2_with fail
        refine hc.mono ?_
        rintro ee w2 ⟨rfl, hB⟩
        have HB2 : Hid (Below w.heap.size w w2) := hB
        clear hB hc
        go_wp2_with fail
        go_roundw
        case rel => exact ⟨h + 1, j, by go_num, rfl, by omega, by omega, HI2, HB2⟩
        case measure => simp [intOf]; omega
    · obtain rfl : i = j := by omega
      go_wp2_with fail
      go_ret
      exact ⟨i, rfl, ⟨hjn, HI.out.1, HI.out.2⟩, HB.out⟩

end Go.Proofs.YtmjcikomcnokkaaDoor
