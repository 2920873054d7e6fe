/- Chains in memory; hash. -/
import Derived.Test.YtgdodphpomkakaaChain
import Derived.Test.YtgdodphpomkakaaWOf
import Derived.Maps.OwnSet
namespace Go.Proofs.Ytgdodphpomkakaa
open Go.RowKit Go.Maps

/-- The cells of chains. -/
def chc (ao : Option Addr) (N c M g : Nat) : Nat → Value
  | 0 => .slice ao N c
  | 1 => .map (some M)
  | _ => .slice (some ⟨g, 0, none⟩) N N

/-- The chains in block R, of the bytes b, with all places below p. -/
structure IsCh (w : World) (B R : Nat) (ao : Option Addr) (N c M g : Nat) (b : List Int) (A : Nat → Int) (D : DataW Unit) (p : Nat) : Prop where
  row : w.rowIs R 54 3 (chc ao N c M g)
  rd : Rd w ao N c b
  map : w.ownsMap Try.prog 57 (plainElem Try.prog 3) M p D
  no : ∀ h : Int, 0 ≤ h → h < 4294967296 → pv b h p < 0 → Maps.has D (.int .u32 h) = false
  yes : ∀ h : Int, 0 ≤ h → h < 4294967296 → 0 ≤ pv b h p → Maps.has D (.int .u32 h) = true ∧ D.atKey (.int .u32 h) (.lit (.int .i64 0)) = .lit (.int .i64 (pv b h p))
  ahd : w.rowIs g 3 N (fun j => .int .i64 (A j))
  link : ∀ j, j < p → j + 3 ≤ N → A j = pv b (H3 b j) j
  low : B ≤ R ∧ B ≤ M ∧ B ≤ g
  src : ∀ ad, ao = some ad → 0 < N → ad.block < B

theorem IsCh.fr {P : Nat → Prop} {w w' : World} {B R : Nat} {ao : Option Addr} {N c M g : Nat} {b : List Int} {A : Nat → Int} {D : DataW Unit} {p : Nat} (h : IsCh w B R ao N c M g b A D p) (hf : Fr P w w') (hR : ¬ P R) (hM : ¬ P M) (hg : ¬ P g) (hb : ∀ k, k < B → ¬ P k) : IsCh w' B R ao N c M g b A D p :=
  ⟨rowIs_fr h.row hf hR, h.rd.fr hf (fun ad e hn => hb _ (h.src ad e hn)), by
    have hlt := h.map.lt
    obtain ⟨es, clock, e, hh⟩ := h.map
    exact ⟨es, clock, (hf.block M hlt hM).trans e, hh⟩, h.no, h.yes, rowIs_fr h.ahd hf hg, h.link, h.low, h.src⟩

theorem IsCh.keep {w w' : World} {B R : Nat} {ao : Option Addr} {N c M g : Nat} {b : List Int} {A : Nat → Int} {D : DataW Unit} {p : Nat} (h : IsCh w B R ao N c M g b A D p) (hf : Below w.heap.size w w') : IsCh w' B R ao N c M g b A D p :=
  h.fr (P := fun _ => False) (Fr.ofBelow hf) (fun h => h) (fun h => h) (fun h => h) (fun _ _ h => h)

theorem drew_keep (w : World) : Below w.heap.size w w.drew := ⟨rfl, rfl, rfl, Nat.le_refl _, fun _ _ => rfl⟩

theorem wraps_u32 (n : Int) (h0 : 0 ≤ n) (h1 : n < 2 ^ 32) : IntKind.u32.wrap n = n := by
  have e : IntKind.u32.wrap n = n % 4294967296 := by simp [IntKind.wrap, IntKind.bits, IntKind.signed]
  rw [e]; omega

theorem or3 (x y z : Int) (hx : 0 ≤ x ∧ x < 256) (hy : 0 ≤ y ∧ y < 256) (hz : 0 ≤ z ∧ z < 256) :
    bits .or .u32 (bits .or .u32 (x * 65536) (y * 256)) z = x * 65536 + y * 256 + z := by
  have e1 : bits .or .u32 (x * 65536) (y * 256) = x * 65536 + y * 256 := by
    have := bits_join .u32 32 (by decide) wraps_u32 16 (x * 65536) (y * 256) (by omega) (by omega) (by omega) (by omega) (by omega) (by omega)
    exact this
  rw [e1]
  exact bits_join .u32 32 (by decide) wraps_u32 8 (x * 65536 + y * 256) z (by omega) (by omega) (by omega) (by omega) (by omega) (by omega)

set_option maxRecDepth 100000 in
set_option maxHeartbeats 1000000 in
theorem hash_yes (R : Nat) (ao : Option Addr) (N c M g : Nat) (b : List Int) (j : Nat) (w : World) (hr : w.rowIs R 54 3 (chc ao N c M g)) (h : Rd w ao N c b) (hj : j + 3 ≤ N) (hN : N ≤ 1000000) :
    Calls Try.prog 27 #[.pointer (some ⟨R, 0, none⟩), .int .i64 j] w fun e w' => e = .returned (.tuple #[.int .u32 (H3 b j), .bool true]) ∧ Below w.heap.size w w' := by
  have c0 := hr.cell (i := 0) (by omega)
  simp only [chc] at c0
  have y0 := byte_at h.byt j
  have y1 := byte_at h.byt (j + 1)
  have y2 := byte_at h.byt (j + 2)
  obtain ⟨B, off, rfl, hcell⟩ := h.plain (by omega)
  have d0 := hcell j (by omega)
  have d1 := hcell (j + 1) (by omega)
  have d2 := hcell (j + 2) (by omega)
  have e3 := or3 _ _ _ y0 y1 y2
  have HH : Hid (H3 b j = b.getD j 0 * 65536 + b.getD (j + 1) 0 * 256 + b.getD (j + 2) 0) := rfl
  generalize b.getD j 0 = x at *
  generalize b.getD (j + 1) 0 = y at *
  generalize b.getD (j + 2) 0 = z at *
  have q1 : ¬ (N : Int) - j < 3 := by omega
  have q2 : IntKind.u32.wrap (x * 65536) = x * 65536 := wraps_u32 _ (by omega) (by omega)
  have q3 : IntKind.u32.wrap (y * 256) = y * 256 := wraps_u32 _ (by omega) (by omega)
  have q4 : j < N := by omega
  have q5 : j + 1 < N := by omega
  have q6 : j + 2 < N := by omega
  clear hr hcell h
  go_enter Try.func27, Try.ntmps27
  go_wp2
  go_region
  go_wp2
  go_ret2
  exact ⟨by rw [HH.out]; rfl, drew_keep w⟩

theorem hash_no (R : Nat) (ao : Option Addr) (N c M g : Nat) (j : Nat) (w : World) (hr : w.rowIs R 54 3 (chc ao N c M g)) (hj : N < j + 3) (hN : N ≤ 1000000) (hjN : j ≤ 1000000) :
    Calls Try.prog 27 #[.pointer (some ⟨R, 0, none⟩), .int .i64 j] w fun e w' => e = .returned (.tuple #[.int .u32 0, .bool false]) ∧ Below w.heap.size w w' := by
  have c0 := hr.cell (i := 0) (by omega)
  simp only [chc] at c0
  have q1 : (N : Int) - j < 3 := by omega
  clear hr
  go_enter Try.func27, Try.ntmps27
  go_wp2
  go_ret2
  exact ⟨rfl, Below.refl _ _⟩

theorem Try.law57 : Keyed Try.prog 57 := int_keyed Try.underlying57
theorem Try.zero3 (w : World) : (zeroValue 3).run Try.prog w = .ok (.int .i64 0) w := by kernel_rfl

theorem u32_wf (h : Int) (h0 : 0 ≤ h) (h1 : h < 4294967296) : (Lit.int .u32 h).wf = true := by
  have a : IntKind.u32.min = 0 := by decide
  have b : IntKind.u32.max = 4294967295 := by decide
  simp [Lit.wf]
  omega

/-- What first answers. -/
def fst3 (b : List Int) (N j p : Nat) : Int := if j + 3 ≤ N then pv b (H3 b j) p else -1

set_option maxRecDepth 100000 in
set_option maxHeartbeats 1000000 in
theorem first_any (B R : Nat) (ao : Option Addr) (N c M g : Nat) (b : List Int) (A : Nat → Int) (D : DataW Unit) (p j : Nat) (w : World) (h : IsCh w B R ao N c M g b A D p) (hN : N ≤ 1000000) (hj : j ≤ N) :
    Calls Try.prog 25 #[.pointer (some ⟨R, 0, none⟩), .int .i64 j] w fun e w' => e = .returned (.int .i64 (fst3 b N j p)) ∧ Below w.heap.size w w' := by
  by_cases hj3 : j + 3 ≤ N
  · have hh := hash_yes R ao N c M g b j w h.row h.rd hj3 hN
    have hr := H3_range h.rd.byt j
    have e : fst3 b N j p = pv b (H3 b j) p := if_pos hj3
    rw [e]
    have HC : Hid (IsCh w B R ao N c M g b A D p) := h
    have HL := pv_lt b (H3 b j) p
    by_cases hp : 0 ≤ pv b (H3 b j) p
    · obtain ⟨y1, y2⟩ := h.yes _ hr.1 (by omega) hp
      have hkey := keyOf_int_mk (P := Try.prog) (k := 57) Try.underlying57 (u32_wf _ hr.1 (by omega))
      have HY2 : Hid (D.atKey (.int .u32 (H3 b j)) (.lit (.int .i64 0)) = .lit (.int .i64 (pv b (H3 b j) p))) := y2
      clear h e y2 hp HL
      generalize H3 b j = x at *
      generalize pv b x p = y at *
      go_enter Try.func25, Try.ntmps25
      go_wp2_with fail
      refine hh.mono ?_
      rintro e w1 ⟨rfl, hb1⟩
      have h1 := HC.out.keep hb1
      have c1 := h1.row.cell (i := 1) (by omega)
      simp only [chc] at c1
      go_wp2_with (at_lookup; refine wpList_lookup_own_ok_int _ rfl _ _ 51 rfl 57 3 .i64 Try.law57 Try.underlying51 Try.underlying3 (Try.zero3 _) M p D rfl h1.map _ _ rfl hkey ?_; intro cc hat hwc; rw [HY2.out] at hat; obtain rfl : y = cc := by (cases hat; rfl))
      go_ret
      exact ⟨rfl, hb1⟩
    · have y1 := h.no _ hr.1 (by omega) (by omega)
      have hkey := keyOf_int_mk (P := Try.prog) (k := 57) Try.underlying57 (u32_wf _ hr.1 (by omega))
      have ey : pv b (H3 b j) p = -1 := by omega
      rw [ey]
      clear h e hp HL ey
      generalize H3 b j = x at *
      go_enter Try.func25, Try.ntmps25
      go_wp2_with fail
      refine hh.mono ?_
      rintro e w1 ⟨rfl, hb1⟩
      have h1 := HC.out.keep hb1
      have c1 := h1.row.cell (i := 1) (by omega)
      simp only [chc] at c1
      go_wp2_with (at_lookup; refine wpList_lookup_own_ok_int _ rfl _ _ 51 rfl 57 3 .i64 Try.law57 Try.underlying51 Try.underlying3 (Try.zero3 _) M p D rfl h1.map _ _ rfl hkey ?_; intro cc hat hwc)
      go_ret
      exact ⟨rfl, hb1⟩
  · have hh := hash_no R ao N c M g j w h.row (by omega) hN (by omega)
    have e : fst3 b N j p = -1 := if_neg hj3
    rw [e]
    clear h e
    go_enter Try.func25, Try.ntmps25
    go_wp2_with fail
    refine hh.mono ?_
    rintro e w1 ⟨rfl, hb1⟩
    go_wp2
    go_ret
    exact ⟨rfl, hb1⟩

end Go.Proofs.Ytgdodphpomkakaa
