/- OidCounts at every argument. -/
import Derived.Test.YtmjcikomcnokkaaDoorLCounts
namespace Go.Proofs.YtmjcikomcnokkaaDoor
open Go.RowKit

set_option maxRecDepth 100000 in
theorem counts_small (ao : Option Addr) (n c : Nat) (w : World) (h : 60 < n) :
    Calls Tryd.prog 7 #[.slice ao n c] w fun e w' => e = .returned (.bool true) ∧ Below w.heap.size w w' := by
  have q1 : (60 : Int) < (n : Int) := by omega
  go_enter Tryd.func7, Tryd.ntmps7
  go_wp2_with fail
  refine (known_yes _).mono ?_
  rintro e w1 ⟨rfl, b1⟩
  go_wp2_with fail
  go_ret
  exact ⟨rfl, b1⟩

theorem counts_any (ao : Option Addr) (n c : Nat) (d : Array (List Int)) (w : World) (h : Is w (.slice ao n c) d) (hn : d.size = n) :
    Calls Tryd.prog 7 #[.slice ao n c] w fun e w' => e = .returned (.bool true) ∧ Below w.heap.size w w' := by
  by_cases h60 : 60 < n
  · exact counts_small ao n c w h60
  · exact counts_main ao n c d w h hn (by omega)

end Go.Proofs.YtmjcikomcnokkaaDoor
