/- OidRows at every argument. -/
import Derived.Test.YtmjcikomcnokkaaDoorLRows
namespace Go.Proofs.YtmjcikomcnokkaaDoor
open Go.RowKit

set_option maxRecDepth 100000 in
theorem rows_small (ao : Option Addr) (n c : Nat) (z : List Int) (w : World) (h : 60 < n) :
    Calls Tryd.prog 4 #[.slice ao n c, idv z] w fun e w' => e = .returned (.bool true) ∧ Below w.heap.size w w' := by
  have HB0 : Hid (Below w.heap.size w (w.alloc (.cells (vals (cl z) 20).toArray 23))) := new_below _ _
  have q1 : (60 : Int) < (n : Int) := by omega
  go_enter Tryd.func4, Tryd.ntmps4
  go_wp2_with fail
  refine (known_yes _).mono ?_
  rintro e w1 ⟨rfl, b1⟩
  have B1 : Hid (Below w.heap.size w w1) := HB0.out.trans (b1.mono HB0.out.size)
  clear b1
  go_wp2_with fail
  go_ret
  exact ⟨rfl, B1.out⟩

theorem rows_any (ao : Option Addr) (n c : Nat) (d : Array (List Int)) (z : List Int) (w : World) (h : Is w (.slice ao n c) d) (hn : d.size = n) (hz : IsId z) :
    Calls Tryd.prog 4 #[.slice ao n c, idv z] w fun e w' => e = .returned (.bool true) ∧ Below w.heap.size w w' := by
  by_cases h60 : 60 < n
  · exact rows_small ao n c z w h60
  · exact rows_main ao n c d z w h hn hz (by omega)

end Go.Proofs.YtmjcikomcnokkaaDoor
