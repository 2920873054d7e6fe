/- put, Put16, Put32, Put64. -/
import Derived.Test.YtebkgmjmjmaleaaWRoom
import Derived.Test.YtebkgmjmjmaleaaSha
namespace Go.Proofs.Ytebkgmjmjmaleaa
open Go.RowKit

theorem be_length (v : Int) (n : Nat) : (be v n).length = n := by induction n <;> simp [be, *]

theorem be_byt (v : Int) (n : Nat) : ∀ x ∈ be v n, 0 ≤ x ∧ x < 256 := by
  induction n with
  | zero => intro x hx; cases hx
  | succ n ih =>
    intro x hx
    rcases List.mem_cons.1 hx with rfl | hx
    · exact ⟨Int.emod_nonneg _ (by decide), Int.emod_lt_of_pos _ (by decide)⟩
    · exact ih x hx

theorem be_pred (v : Int) (j : Nat) (hj : 1 ≤ j) : be v j = v / 2 ^ (8 * (j - 1)) % 256 :: be v (j - 1) := by
  obtain ⟨i, rfl⟩ : ∃ i, j = i + 1 := ⟨j - 1, by omega⟩
  rfl

set_option maxHeartbeats 400000 in
theorem put_any (ao : Option Addr) (n c s : Nat) (v : Int) (xs : List Int) (w : World) (h : Rd w ao n c xs) (hn : n ≤ 140737488351232) (hs : s ≤ 8) (hs1 : 1 ≤ s) :
    Calls Try.prog 25 #[.slice ao n c, .int .i64 v, .int .i64 s] w fun e w' => e = .returned (.slice (some ⟨w.heap.size, 0, none⟩) (n + s) (n + s)) ∧
      w'.ownsRow w.heap.size 5 1 (.slice (some ⟨w.heap.size, 0, none⟩) (n + s) (n + s)) (n + s) ((xs ++ be v s).map (Value.int .u8)) ∧ Below w.heap.size w w' := by
  obtain ⟨i0, hi, hz0, hz1, hz2⟩ := info_parts Try.info5
  go_enter Try.func25, Try.ntmps25
  go_wp2_with (first | (go_at_call 26; refine (withRoom_any ao n c s xs w h hn (by omega)).mono ?_; rintro e w1 ⟨rfl, hown, hbel⟩))
  go_loopw [7, 8] (fun o sh wr => ∃ j k : Nat, j + k = s ∧ sh = .int .i64 (8 * ((j : Int) - 1)) ∧ o = .slice (some ⟨w.heap.size, 0, none⟩) (n + k) (n + s) ∧
      ∃ ys : List Int, ys ++ be v j = be v s ∧ wr.ownsRow w.heap.size 5 1 (.slice (some ⟨w.heap.size, 0, none⟩) (n + k) (n + s)) (n + k) ((xs ++ ys).map (Value.int .u8)) ∧ Below w.heap.size w wr)
    (fun _ sh _ => (intOf sh + 8).toNat)
  case atStart => exact ⟨s, 0, by omega, rfl, rfl, [], by simp, by simpa using hown, hbel⟩
  case round =>
    obtain ⟨j, k, hjk, rfl, rfl, ys, hys, hown', hbel'⟩ := hrel
    have Hys : Hid (ys ++ be v j = be v s) := hys
    clear hys
    by_cases hj : 1 ≤ j
    · go_wp2_with (first | (at_builtin; refine wpList_append_fits _ rfl _ _ 22 rfl w.heap.size 5 i0 1 Try.underlying22 hi hz1 w.heap.size (n + k) (n + s) _ rfl (hown'.alloc _) ⟨wr.heap.size, 0, none⟩ 1 1 [_] rfl rfl (cell_one_new _ _ _) ?_ ?_ ?_))
      · intro u hu; simp at hu; subst hu; rfl
      · omega
      · intro w2 hown2 hgrow2
        have hb2 : Below w.heap.size w w2 := (hbel'.alloc hbel'.size _).grown hgrow2 (by have := hbel'.size; simp; omega) (fun q hq => by cases hq; exact Nat.le_refl _)
        have hown3 : w2.ownsRow w.heap.size 5 1 (.slice (some ⟨w.heap.size, 0, none⟩) (n + (k + 1)) (n + s)) (n + (k + 1)) ((xs ++ (ys ++ [v / 2 ^ (8 * (j - 1)) % 256])).map (Value.int .u8)) := by
          simpa [Nat.add_assoc] using hown2
        clear hown2 hgrow2 hown' hbel' hown hbel
        go_wp2
        go_roundw
        case rel => exact ⟨j - 1, k + 1, by omega, by go_num, by simp [Nat.add_assoc], ys ++ [v / 2 ^ (8 * (j - 1)) % 256], by rw [← Hys.out, be_pred v j hj]; simp, hown3, hb2⟩
        case measure => simp [intOf]; omega
    · obtain rfl : j = 0 := by omega
      obtain rfl : k = s := by omega
      go_wp2
      go_ret
      have e : ys = be v k := by simpa [be] using Hys.out
      subst e
      exact ⟨rfl, hown', hbel'⟩

theorem put64_any (ao : Option Addr) (n c : Nat) (v : Int) (xs : List Int) (w : World) (h : Rd w ao n c xs) (hn : n ≤ 140737488351232) :
    Calls Try.prog 24 #[.slice ao n c, .int .i64 v] w fun e w' => e = .returned (.slice (some ⟨w.heap.size, 0, none⟩) (n + 8) (n + 8)) ∧
      w'.ownsRow w.heap.size 5 1 (.slice (some ⟨w.heap.size, 0, none⟩) (n + 8) (n + 8)) (n + 8) ((xs ++ be v 8).map (Value.int .u8)) ∧ Below w.heap.size w w' := by
  go_enter Try.func24, Try.ntmps24
  go_wp2_with (first | (go_at_call 25; refine (put_any ao n c 8 v xs w h hn (by omega) (by omega)).mono ?_; rintro e w1 ⟨rfl, hown, hbel⟩))
  go_ret
  exact ⟨rfl, hown, hbel⟩

end Go.Proofs.Ytebkgmjmjmaleaa
