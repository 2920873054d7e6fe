/- DiskLasts, the law. -/
import Derived.Test.YtmpfbemdljfamaaLLasu
namespace Go.Proofs.Ytmpfbemdljfamaa
open Go.RowKit Go.Maps Go.Sort

set_option maxRecDepth 100000 in
set_option maxHeartbeats 1000000 in
theorem lasts_small (ao bo po : Option Addr) (m1 c1 m2 c2 m3 c3 : Nat) (bb : Bool) (w : World) (h : 3000 < m1 ∨ 3000 < m2 ∨ 20 < m3) :
    Calls Try.prog 3 #[.slice ao m1 c1, .slice bo m2 c2, .slice po m3 c3, .bool bb] w fun e w' => e = .returned (.bool true) ∧ RowKit.Below w.heap.size w w' := by
  go_enter Try.func3, Try.ntmps3
  go_wp2_with fail
  refine (known_yes w).mono ?_
  rintro e w1 ⟨rfl, b1⟩
  by_cases h1 : 3000 < m1
  · have q1 : (3000 : Int) < (m1 : Int) := by omega
    clear h
    go_wp2
    go_ret
    exact ⟨rfl, b1⟩
  · have q1 : ¬ (3000 : Int) < (m1 : Int) := by omega
    by_cases h2 : 3000 < m2
    · have q2 : (3000 : Int) < (m2 : Int) := by omega
      clear h
      go_wp2
      go_ret
      exact ⟨rfl, b1⟩
    · have q2 : ¬ (3000 : Int) < (m2 : Int) := by omega
      have h3 : 20 < m3 := by omega
      have q3 : (20 : Int) < (m3 : Int) := by omega
      clear h
      go_wp2
      go_ret
      exact ⟨rfl, b1⟩

/-- DiskLasts at all bytes and picks. -/
theorem lasts_any (ao bo po : Option Addr) (m1 c1 m2 c2 m3 c3 : Nat) (os ns ps : List Int) (bb : Bool) (w : World) (ho : Rd w ao m1 c1 os) (hn : Rd w bo m2 c2 ns) (hp : Ri w po m3 c3 (fun j => ps.getD j 0)) (hpl : ps.length = m3) :
    Calls Try.prog 3 #[.slice ao m1 c1, .slice bo m2 c2, .slice po m3 c3, .bool bb] w fun e w' => e = .returned (.bool true) ∧ RowKit.Below w.heap.size w w' := by
  by_cases h : 3000 < m1 ∨ 3000 < m2 ∨ 20 < m3
  · exact lasts_small ao bo po m1 c1 m2 c2 m3 c3 bb w h
  · cases bb
    · exact lasts_false ao bo po m1 c1 m2 c2 m3 c3 os ns ps w ho hn hp hpl (by omega) (by omega) (by omega)
    · exact lasts_true ao bo po m1 c1 m2 c2 m3 c3 os ns ps w ho hn hp hpl (by omega) (by omega) (by omega)

end Go.Proofs.Ytmpfbemdljfamaa
