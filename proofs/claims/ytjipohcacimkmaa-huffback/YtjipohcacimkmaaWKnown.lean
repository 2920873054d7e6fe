/- ints; known. -/
import Derived.Test.YtjipohcacimkmaaWCost
import Derived.Test.YtjipohcacimkmaaXCheck
namespace Go.Proofs.Ytjipohcacimkmaa
open Go.RowKit

set_option maxHeartbeats 1000000 in
theorem ints_same (L : Nat → Int) (n : Nat) (ao bo : Option Addr) (ac bc : Nat) (w : World) (hl : Ri w ao n ac L) (hr : Ri w bo n bc L) (hn : n ≤ 1000000) :
    Calls Try.prog 16 #[.slice ao n ac, .slice bo n bc] w fun e w' => e = .returned (.bool true) ∧ ∃ m, w' = w.drewN m := by
  go_enter Try.func16, Try.ntmps16
  go_wp2
  go_loopw [5] (fun i wr => ∃ k : Nat, k ≤ n ∧ i = .int .i64 k ∧ (∃ m, wr = w.drewN m)) (fun i _ => n - (intOf i).toNat)
  case atStart => exact ⟨0, by omega, rfl, 0, rfl⟩
  case round =>
    obtain ⟨k, hk, rfl, m, hm⟩ := hrel
    have HM : Hid (wr = w.drewN m) := hm
    by_cases hlt : k < n
    · obtain ⟨b, off, rfl, hc1⟩ := hl.plain (by omega)
      obtain ⟨b', off', rfl, hc2⟩ := hr.plain (by omega)
      have c1 : wr.cell? ⟨b, off + k, none⟩ = some (.int .i64 (L k)) := by rw [hm]; exact hc1 k hlt
      have c2 : wr.cell? ⟨b', off' + k, none⟩ = some (.int .i64 (L k)) := by rw [hm]; exact hc2 k hlt
      clear hl hr hc1 hc2 hm
      go_wp2_with fail
      go_region
      go_wp2_with fail
      go_roundw
      case rel => exact ⟨k + 1, by omega, by go_num, m + 1, by rw [HM.out]; rfl⟩
      case measure => simp [intOf]; omega
    · obtain rfl : k = n := by omega
      clear hl hr hm
      go_wp2
      go_ret
      exact ⟨rfl, m, HM.out⟩

/-- Three numbers. -/
def tri (a b c : Int) : Nat → Int
  | 0 => a
  | 1 => b
  | _ => c

theorem tri_ri (w : World) (a b c : Int) : Ri (w.alloc (.cells #[.int .i64 a, .int .i64 b, .int .i64 c] 3)) (some ⟨w.heap.size, 0, none⟩) 3 3 (tri a b c) :=
  Ri.row (World.rowIs_alloc w _ 3 _ (fun i hi => by
    simp at hi
    rcases i with _ | _ | _ | i <;> first | rfl | omega))

theorem tri_nw : nw (tri 1 2 2) 3 false = 0 := by decide +kernel
theorem tri_er : er (tri 1 2 2) 3 = 0 := by decide +kernel
theorem tri_fu : fu (tri 1 2 2) 3 = true := by decide +kernel
theorem tri_cd : cd (tri 1 2 2) 3 2 = 3 := by decide +kernel
theorem tri_cs : CS (tri 1 2 2) (tri 5 1 1) 3 = 9 := by decide +kernel

theorem tri_next (s g : Int) (q : Nat) (h : Nx (tri 1 2 2) 3 3 1 15 1 0 0 s g q) : s = 2 ∧ g = 0 := by
  have h2 := Nx.code (L := tri 1 2 2) (m := 3) (X := 3) (nb := 1) (i := 2) (N := 2) (p := 0) (by omega) rfl (by omega) (by decide +kernel) 1 15 1 rfl (by omega) (by omega)
  rw [show cd (tri 1 2 2) 3 2 / 2 ^ (1 + 1) = 0 by decide +kernel] at h2
  have := Nx.one (by omega) h h2
  exact ⟨this.1, this.2.1⟩

theorem three_rd (w : World) : Rd (w.alloc (.cells #[.int .u8 3] 5)) (some ⟨w.heap.size, 0, none⟩) 1 1 (by8 3 1) :=
  ⟨by simp [by8], Nat.le_refl _, (fun e => by cases e), fun ad had j hj => by
    cases had
    obtain rfl : j = 0 := by omega
    rw [Addr.add_lit]
    have := (World.rowIs_alloc w #[Value.int .u8 3] 5 (fun _ => .int .u8 3) (fun i hi => by
      simp at hi
      rcases i with _ | i <;> first | rfl | omega)).cell (i := 0) (by simp)
    rw [this]
    rfl, by8_byt _ _⟩

set_option maxRecDepth 100000 in
set_option maxHeartbeats 4000000 in
theorem known_any (w : World) : Calls Try.prog 9 #[] w fun e w' => e = .returned (.bool true) ∧ Below w.heap.size w w' := by
  have r0 := tri_ri w 1 2 2
  have b0 : Below w.heap.size w (w.alloc (.cells #[.int .i64 1, .int .i64 2, .int .i64 2] 3)) := (Below.refl _ _).alloc (Nat.le_refl _) _
  go_enter Try.func9, Try.ntmps9
  go_wp2_with fail
  refine (new_yes _ 3 3 (tri 1 2 2) false _ r0 tri_nw).mono ?_
  rintro e w1 ⟨R, K, rfl, hC, b1⟩
  have B1 := b0.trans (b1.mono b0.size)
  have r1 := r0.keep b1
  generalize w.alloc (.cells #[.int .i64 1, .int .i64 2, .int .i64 2] 3) = W at *
  obtain ⟨B, hB⟩ : ∃ B, B = w.heap.size := ⟨_, rfl⟩
  have HB1 : Hid (Below w.heap.size w w1) := B1
  have HC1 : Hid (Cod w1 R K (tri 1 2 2) 3) := hC
  have HR1 : Hid (Ri w1 (some ⟨w.heap.size, 0, none⟩) 3 3 (tri 1 2 2)) := r1
  rw [← hB]
  rw [← hB] at r1
  clear b0 b1 r0 B1 hC hB
  go_wp2_with fail
  refine (codes_yes _ 3 3 (tri 1 2 2) w1 r1 tri_er).mono ?_
  rintro e w2 ⟨g, rfl, hg, hgs, b2⟩
  have HB2 : Hid (Below w.heap.size w w2) := HB1.out.trans (b2.mono HB1.out.size)
  have HC2 : Hid (Cod w2 R K (tri 1 2 2) 3) := HC1.out.keep (b2.mono HC1.out.kw)
  have r2 := r1.keep b2
  have HG2 : Hid (w2.rowIs g 3 3 (fun j => .int .i64 (cd (tri 1 2 2) 3 j))) := hg
  clear b2 r1 hg hgs HB1 HC1 HR1
  go_wp2_with fail
  have hck := check_any _ 3 3 (tri 1 2 2) w2 r2
  rw [tri_er, tri_fu] at hck
  refine hck.mono ?_
  rintro e w3 ⟨rfl, b3⟩
  have HB3 : Hid (Below w.heap.size w w3) := HB2.out.trans (b3.mono HB2.out.size)
  have HC3 : Hid (Cod w3 R K (tri 1 2 2) 3) := HC2.out.keep (b3.mono HC2.out.kw)
  have HG3 : Hid (w3.rowIs g 3 3 (fun j => .int .i64 (cd (tri 1 2 2) 3 j))) := HG2.out.of_block (b3.block _ HG2.out.lt)
  clear b3 r2 hck HB2 HC2 HG2
  go_wp2_with fail
  have rd3 := three_rd w3
  have bA : Below w3.heap.size w3 (w3.alloc (.cells #[.int .u8 3] 5)) := (Below.refl _ _).alloc (Nat.le_refl _) _
  refine (newR_any _ 1 1 3 _ rd3 (by omega)).mono ?_
  rintro e w4 ⟨Q, ao', c', rfl, hR, hQ, _, b4⟩
  have b34 : Below w3.heap.size w3 w4 := bA.trans (b4.mono bA.size)
  have HB4 : Hid (Below w.heap.size w w4) := HB3.out.trans (b34.mono HB3.out.size)
  have HC4 : Hid (Cod w4 R K (tri 1 2 2) 3) := HC3.out.keep (b34.mono HC3.out.kw)
  have HG4 : Hid (w4.rowIs g 3 3 (fun j => .int .i64 (cd (tri 1 2 2) 3 j))) := HG3.out.of_block (b34.block _ HG3.out.lt)
  have hKQ : K ≤ Q := by have := HC3.out.kw; have := bA.size; omega
  have hgQ : g ≠ Q := by have := HG3.out.lt; have := bA.size; omega
  have hwQ : w.heap.size ≤ Q := by have := HB3.out.size; have := bA.size; omega
  clear b34 b4 bA rd3 hQ HB3 HC3 HG3
  go_wp2_with fail
  refine (next_any R K (tri 1 2 2) 3 Q ao' 1 c' 3 0 w4 HC4.out hR hKQ).mono ?_
  rintro e w5 ⟨s, gg, q, rfl, hN, hR5, f5⟩
  obtain ⟨rfl, rfl⟩ := tri_next s gg q hN
  have HB5 : Hid (Below w.heap.size w w5) := HB4.out.trans (f5.below _ HB4.out.size (fun i hi e => by omega))
  have HC5 : Hid (Cod w5 R K (tri 1 2 2) 3) := HC4.out.keep (f5.below _ HC4.out.kw (fun i hi e => by omega))
  have hG5 : w5.rowIs g 3 3 (fun j => .int .i64 (cd (tri 1 2 2) 3 j)) := rowIs_fr HG4.out f5 hgQ
  have c2 := hG5.cell (i := 2) (by omega)
  rw [tri_cd] at c2
  have rc := tri_ri w5 5 1 1
  have bC : Below w5.heap.size w5 (w5.alloc (.cells #[.int .i64 5, .int .i64 1, .int .i64 1] 3)) := (Below.refl _ _).alloc (Nat.le_refl _) _
  have hc6 := cost_any R K (tri 1 2 2) (tri 5 1 1) 3 _ 3 _ (HC5.out.keep (bC.mono HC5.out.kw)) rc (fun j hj => by rcases j with _ | _ | _ | j <;> simp [tri])
  rw [tri_cs] at hc6
  have HB6 : Hid (Below w.heap.size w (w5.alloc (.cells #[.int .i64 5, .int .i64 1, .int .i64 1] 3)).drew) := (HB5.out.trans (bC.mono HB5.out.size)).drew
  clear hN hR5 f5 HB4 HC4 HG4 hG5 rc bC HB5 HC5 hR
  go_wp2_with (go_at_call 25; refine hc6.mono ?_; rintro e w6 ⟨rfl, hw⟩; subst w6)
  go_ret
  exact ⟨rfl, HB6.out⟩

end Go.Proofs.Ytjipohcacimkmaa
