/- Print. -/
import Derived.Test.YthaibdflehnbbaaWPrn
import Derived.Test.YthaibdflehnbbaaWApply
namespace Go.Proofs.Ythaibdflehnbbaa
open Go.RowKit

/-- Print: the bytes, the fault. -/
def pnt (base out : Int) (l : List Op) : List Int × Int := if 0 ≤ base ∧ 0 ≤ out ∧ ∀ o ∈ l, okp o then (prt base out l, 0) else ([], 1)

theorem pnt_yes {base out : Int} {l : List Op} (h0 : 0 ≤ base) (h1 : 0 ≤ out) (h2 : ∀ o ∈ l, okp o) : pnt base out l = (prt base out l, 0) := by unfold pnt; rw [if_pos ⟨h0, h1, h2⟩]
theorem pnt_no {base out : Int} {l : List Op} (h : ¬ (0 ≤ base ∧ 0 ≤ out ∧ ∀ o ∈ l, okp o)) : pnt base out l = ([], 1) := by unfold pnt; rw [if_neg h]

set_option maxRecDepth 100000 in
set_option maxHeartbeats 1000000 in
theorem Print_any (base out : Int) (ao : Option Addr) (n c : Nat) (ms : List MO) (l : List Op) (w : World) (h : Os w ao n ms l) (hn : n ≤ 1000000) (hb1 : base ≤ 9223372036854775807) (ho1 : out ≤ 9223372036854775807) :
    Calls Try.prog 17 #[.int .i64 base, .int .i64 out, .slice ao n c] w fun e w' => ∃ v, e = .returned (.tuple #[v, .int .i64 (pnt base out l).2]) ∧ w'.ownsRow w.heap.size 5 1 v (pnt base out l).1.length ((pnt base out l).1.map (Value.int .u8)) ∧ Below w.heap.size w w' := by
  have HT : Hid (Os w ao n ms l) := h
  have hpa := printable_any ao n c ms l w h hn
  clear h
  by_cases h0 : base < 0
  · have HA : Hid (pnt base out l = ([], 1)) := pnt_no (fun h => by omega)
    go_enter Try.func17, Try.ntmps17
    go_wp2
    go_ret2
    rw [HA.out]
    exact ⟨_, rfl, nil_own _ _, Below.refl _ _⟩
  · by_cases h1 : out < 0
    · have HA : Hid (pnt base out l = ([], 1)) := pnt_no (fun h => by omega)
      go_enter Try.func17, Try.ntmps17
      go_wp2
      go_ret2
      rw [HA.out]
      exact ⟨_, rfl, nil_own _ _, Below.refl _ _⟩
    · by_cases hk : ∀ o ∈ l, okp o
      · have HA : Hid (pnt base out l = (prt base out l, 0)) := pnt_yes (by omega) (by omega) hk
        have hd : decide (∀ o ∈ l, okp o) = true := decide_eq_true hk
        rw [hd] at hpa
        have HK : Hid (∀ o ∈ l, okp o) := hk
        have hs1 := sz_len_le 9 base
        have hs2 := sz_len_le 9 out
        have HP : Hid (prt base out l = (sz 9 base ++ sz 9 out) ++ prn l) := rfl
        clear hk hd
        go_enter Try.func17, Try.ntmps17
        go_wp2_with (first
          | (go_at_call 27; refine hpa.mono ?_; rintro e w1 ⟨rfl, hB1⟩))
        refine (putSize_any none 0 0 base [] w1 (Rd.nil _) (by omega) (by omega) hb1).mono ?_
        rintro e w2 ⟨rfl, o2, hB2⟩
        have b2 := hB1.trans (hB2.mono hB1.size)
        have rd2 : Rd w2 (some ⟨w1.heap.size, 0, none⟩) (sz 9 base).length 9 (sz 9 base) := Rd.ofOwn (by simpa using o2) (sz_byt 9 base (by omega))
        clear o2
        go_wp2_with fail
        refine (putSize_any (some ⟨w1.heap.size, 0, none⟩) (sz 9 base).length 9 out (sz 9 base) w2 rd2 (by omega) (by omega) ho1).mono ?_
        rintro e w3 ⟨rfl, o3, hB3⟩
        have b3 := b2.trans (hB3.mono b2.size)
        go_wp2_with fail
        refine (print_any ao n c ms l w HT.out hn HK.out w2.heap.size ((sz 9 base).length + (sz 9 out).length) ((sz 9 base).length + 9) (sz 9 base ++ sz 9 out) w3 b3 (own_low o3 b2.size) (by omega)).mono ?_
        rintro e w4 ⟨g4, c4, n4, rfl, o4, b4⟩
        go_wp2
        go_ret2
        rw [HA.out]
        refine ⟨_, rfl, ?_, b4⟩
        have e4 : (prt base out l).length = n4 := by have := o4.1; rw [← HP.out] at this; simpa using this
        rw [e4]
        exact o4
      · have HA : Hid (pnt base out l = ([], 1)) := pnt_no (fun h => hk h.2.2)
        have hd : decide (∀ o ∈ l, okp o) = false := decide_eq_false hk
        rw [hd] at hpa
        clear hk hd
        go_enter Try.func17, Try.ntmps17
        go_wp2_with (first
          | (go_at_call 27; refine hpa.mono ?_; rintro e w1 ⟨rfl, hB1⟩))
        go_ret2
        rw [HA.out]
        exact ⟨_, rfl, nil_own _ _, hB1⟩

end Go.Proofs.Ythaibdflehnbbaa
