/- Bytes as a string; helpers. -/
import Derived.Test.YtnpgeiflfpjniaaWKnown
namespace Go.Proofs.Ytnpgeiflfpjniaa
open Go.RowKit

theorem Rd.str {w : World} {ao : Option Addr} {n c : Nat} {xs : List Int} (h : Rd w ao n c xs) : (convert 35 9 (.slice ao n c)).run Try.prog w = .ok (.string (strOfNums xs)) w := by
  cases ao with
  | none =>
    obtain ⟨rfl, rfl⟩ := h.nul rfl
    have hx : xs = [] := List.eq_nil_of_length_eq_zero h.len
    subst hx
    rw [run_convert_bytes_nil w 35 5 Try.underlying35 Try.underlying5 0 0 9 Try.underlying9]
    rfl
  | some ad =>
    have hl : (loadCells ad n).run Try.prog w = .ok (xs.map (Value.int .u8)).toArray w := by
      have := run_loadCells_list (P := Try.prog) w ad (xs.map (Value.int .u8)) (h.cellsOf ad rfl)
      simpa [h.len] using this
    rw [run_convert_bytes_string w 35 9 5 _ n c Try.underlying35 Try.underlying5 Try.underlying9, run_bytesToString w _ n c xs hl, foldl_push_bytes]
    simp [strOfNums, ByteArray.empty, ByteArray.emptyWithCapacity]
    rfl

theorem IsW.drew {w : World} {R : Nat} {v : Value} {N : Int} {len : Nat} (h : IsW w R v N len) : IsW w.drew R v N len := h.fr (Fr.refl (fun _ => False) _).drew (fun _ _ h => h)
theorem IsW.keep {w w' : World} {R : Nat} {v : Value} {N : Int} {len : Nat} (h : IsW w R v N len) (hb : Below w.heap.size w w') : IsW w' R v N len := h.fr (P := fun _ => False) (Fr.ofBelow hb) (fun _ _ h => h)
theorem IsR.drew {w : World} {R : Nat} {ao : Option Addr} {n c : Nat} {X : Int} {p : Nat} (r : IsR w R ao n c X p) : IsR w.drew R ao n c X p := r.fr (Fr.refl (fun _ => False) _).drew (fun h => h) (fun _ _ _ h => h)

theorem get_yes (R : Nat) (ao : Option Addr) (n c : Nat) (X : Int) (p m : Nat) (w : World) (h : IsR w R ao n c X p) (hm : m ≤ 24) (hl : p + m ≤ 8 * n) :
    Calls Try.prog 23 #[.pointer (some ⟨R, 0, none⟩), .int .i64 m] w fun e w' => e = .returned (.tuple #[.int .i64 (X / 2 ^ p % 2 ^ m), .bool true]) ∧ IsR w' R ao n c X (p + m) ∧ Fr (fun k => k = R) w w' := by
  refine (get_raw R ao n c X _ p _ m w h (by omega) hm hl (left_any R ao n c X p w h)).mono ?_
  rintro e w' ⟨rfl, ⟨a', h', r, hh⟩, hf⟩
  exact ⟨rfl, r.isR hh, hf⟩

end Go.Proofs.Ytnpgeiflfpjniaa
