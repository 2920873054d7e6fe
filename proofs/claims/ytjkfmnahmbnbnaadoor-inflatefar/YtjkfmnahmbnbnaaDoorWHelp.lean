/- helpers. -/
import Derived.Test.YtjkfmnahmbnbnaaDoorWReader
namespace Go.Proofs.YtjkfmnahmbnbnaaDoor
open Go.RowKit

theorem IsR.drew {w : World} {R : Nat} {ao : Option Addr} {n c : Nat} {X : Int} {p : Nat} (r : IsR w R ao n c X p) : IsR w.drew R ao n c X p := r.fr (Fr.refl (fun _ => False) _).drew (fun h => h) (fun _ _ _ h => h)

theorem get_yes (R : Nat) (ao : Option Addr) (n c : Nat) (X : Int) (p m : Nat) (w : World) (h : IsR w R ao n c X p) (hm : m ≤ 24) (hl : p + m ≤ 8 * n) :
    Calls Tryd.prog 37 #[.pointer (some ⟨R, 0, none⟩), .int .i64 m] w fun e w' => e = .returned (.tuple #[.int .i64 (X / 2 ^ p % 2 ^ m), .bool true]) ∧ IsR w' R ao n c X (p + m) ∧ Fr (fun k => k = R) w w' := by
  refine (get_raw R ao n c X _ p _ m w h (by omega) hm hl (left_any R ao n c X p w h)).mono ?_
  rintro e w' ⟨rfl, ⟨a', h', r, hh⟩, hf⟩
  exact ⟨rfl, r.isR hh, hf⟩

end Go.Proofs.YtjkfmnahmbnbnaaDoor
