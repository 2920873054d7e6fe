/- The walks of ShaBytes and ShaLong, by the document's Sum. -/
import Derived.Test.YtebkgmjmjmaleaaLCuts
namespace Go.Proofs.Ytebkgmjmjmaleaa
open Go.RowKit

/-- What the document's Sum answers. -/
def RefSum : Prop := ∀ (ao : Option Addr) (n c : Nat) (ys : List Int) (w : World), Rd w ao n c ys → n ≤ 900000000 → Calls Try.prog 9 #[.slice ao n c] w fun e w' => e = .returned (sv ys) ∧ Below w.heap.size w w'

set_option maxHeartbeats 1000000 in
theorem bytes_any (HS : Hid RefSum) (ao : Option Addr) (n c : Nat) (ys : List Int) (w : World) (hr : Rd w ao n c ys) :
    Calls Try.prog 3 #[.slice ao n c] w fun e w' => e = .returned (.bool true) ∧ Below w.heap.size w w' := by
  have HR : Hid (Rd w ao n c ys) := hr
  clear hr
  by_cases hn : n ≤ 3000
  · have hd1 : decide ((3000 : Int) < (n : Int)) = false := by simp; omega
    have heq := sv_eql ys
    go_enter Try.func3, Try.ntmps3
    go_wp2_with fail
    refine (known_any _).mono ?_
    rintro e w1 ⟨rfl, b1⟩
    have B1 : Hid (Below w.heap.size w w1) := b1
    clear b1
    go_wp2_with fail
    refine (sum_any ao n c ys _ (HR.out.keep B1.out) (by have := HR.out.len; omega)).mono ?_
    rintro e w2 ⟨rfl, b2⟩
    have B2 : Hid (Below w.heap.size w w2) := B1.out.trans (b2.mono B1.out.size)
    clear b2 B1
    rw [sv_agg]
    go_wp2_with fail
    refine (HS.out ao n c ys _ (HR.out.keep B2.out) (by omega)).mono ?_
    rintro e w3 ⟨rfl, b3⟩
    have B3 : Hid (Below w.heap.size w w3) := B2.out.trans (b3.mono B2.out.size)
    clear b3 B2
    rw [sv_agg]
    go_wp2_with fail
    go_ret
    exact ⟨rfl, B3.out⟩
  · have hd1 : decide ((3000 : Int) < (n : Int)) = true := by simp; omega
    go_enter Try.func3, Try.ntmps3
    go_wp2_with fail
    refine (known_any _).mono ?_
    rintro e w1 ⟨rfl, b1⟩
    have B1 : Hid (Below w.heap.size w w1) := b1
    clear b1
    go_wp2_with fail
    go_ret
    exact ⟨rfl, B1.out⟩

end Go.Proofs.Ytebkgmjmjmaleaa
