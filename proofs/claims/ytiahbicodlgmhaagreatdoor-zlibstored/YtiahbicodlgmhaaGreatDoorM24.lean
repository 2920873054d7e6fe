/- LimWAlign, ZWr, ZPut, ZPuts. -/
import Derived.Test.YtiahbicodlgmhaaGreatDoorM15
import Derived.Test.YtiahbicodlgmhaaGreatDoorM23
import Derived.Test.YtiahbicodlgmhaaGreatDoorM08
/- Align, Byte. -/
namespace Go.Proofs.YtiahbicodlgmhaaGreatDoor.Lim
open Go.RowKit

theorem align_any (R : Nat) (v : Value) (N : Int) (len : Nat) (w : World) (h : IsW w R v N len) (hl : len ≤ 1000000000) :
    Calls Tryz.prog 57 #[.pointer (some ⟨R, 0, none⟩)] w fun e w' => e = .returned (.tuple #[]) ∧ ∃ v', IsW w' R v' N (al len) ∧ Step R v v' w w' := by
  have c2 := h.raw.row.cell (i := 2) (by omega)
  simp only [wcells] at c2
  by_cases h0 : len % 8 = 0
  · have e : al len = len := by unfold al; omega
    rw [e]
    rw [h0] at c2
    go_enter Tryz.func57, Tryz.ntmps57
    go_wp2
    go_end0
    exact ⟨rfl, v, h, Step.refl _ _ _⟩
  · obtain ⟨r, hr⟩ : ∃ r, r = len % 8 := ⟨_, rfl⟩
    have hp := put_yes R v N 0 len (8 - r) w h (by omega) hl
    rw [Int.zero_emod, Int.mul_zero, Int.add_zero, show len + (8 - r) = al len by unfold al; omega, show (((8 - r : Nat)) : Int) = 8 - (r : Int) by omega] at hp
    rw [← hr] at c2
    have h1 : 0 < r := by omega
    have h2 : r < 8 := by omega
    clear hr h0
    go_enter Tryz.func57, Tryz.ntmps57
    go_wp2_with (go_at_call 58; refine hp.mono ?_; rintro e w1 ⟨rfl, hpost⟩)
    go_end0
    exact ⟨rfl, hpost⟩

/-- What bits there are behind Byte. -/
def btN (N : Int) (len : Nat) (x : Int) : Int := N + 2 ^ al len * (x % 256)

theorem wrap64_mod (x : Int) : wrap64 x % 2 ^ 8 = x % 256 := by
  unfold wrap64
  omega

theorem byte_any (R : Nat) (v : Value) (N x : Int) (len : Nat) (w : World) (h : IsW w R v N len) (hl : len ≤ 900000000) :
    Calls Tryz.prog 59 #[.pointer (some ⟨R, 0, none⟩), .int .u8 x] w fun e w' => e = .returned (.tuple #[]) ∧ ∃ v', IsW w' R v' (btN N len x) (al len + 8) ∧ Step R v v' w w' := by
  go_enter Tryz.func59, Tryz.ntmps59
  go_wp2_with (first
    | (go_at_call 57; refine (align_any R v N len w h (by omega)).mono ?_; rintro e w1 ⟨rfl, v1, h1, s1⟩)
    | (go_at_call 58; refine (put_yes R v1 N _ (al len) 8 w1 h1 (by omega) (by unfold al; omega)).mono ?_; rintro e w2 ⟨rfl, v2, h2, s2⟩))
  go_end0
  refine ⟨rfl, v2, ?_, s1.trans s2⟩
  rw [btN, ← wrap64_mod]
  exact h2

end Go.Proofs.YtiahbicodlgmhaaGreatDoor.Lim

/- The program's writer, by fields, beside things that stay. -/
namespace Go.Proofs.YtiahbicodlgmhaaGreatDoor.Z
open Go.RowKit

/-- What a call on a writer leaves: all below B; all of A. -/
structure Zw (B : Nat) (A : Nat → Prop) (w w' : World) : Prop where
  bel : Below B w w'
  mid : ∀ k, A k → w'.heap[k]? = w.heap[k]?

theorem Zw.refl (B : Nat) (A : Nat → Prop) (w : World) : Zw B A w w := ⟨Below.refl _ _, fun _ _ => rfl⟩
theorem Zw.trans {B : Nat} {A : Nat → Prop} {a b c : World} (h : Zw B A a b) (k : Zw B A b c) : Zw B A a c := ⟨h.bel.trans k.bel, fun i hi => (k.mid i hi).trans (h.mid i hi)⟩
theorem Zw.drew {B : Nat} {A : Nat → Prop} {a b : World} (h : Zw B A a b) : Zw B A a b.drew := ⟨h.bel.drew, h.mid⟩
theorem Zw.keep {B : Nat} {A : Nat → Prop} {w w' : World} (hB : B ≤ w.heap.size) (hA : ∀ k, A k → k < w.heap.size) (h : Below w.heap.size w w') : Zw B A w w' := ⟨h.mono hB, fun k hk => h.block k (hA k hk)⟩
theorem Zw.less {B : Nat} {A A' : Nat → Prop} {w w' : World} (h : Zw B A w w') (hA : ∀ k, A' k → A k) : Zw B A' w w' := ⟨h.bel, fun k hk => h.mid k (hA k hk)⟩
theorem Zw.md {B lo K : Nat} {A : Nat → Prop} {w w' : World} (h : Zw B A w w') (hA : ∀ k, lo ≤ k → k < K → A k) : Mid lo K w w' := ⟨fun k h1 h2 => h.mid k (hA k h1 h2), h.bel.size⟩

/-- Block Q is a writer of the fields l; it lies from B on, and not in A. -/
structure Wz (w : World) (B Q : Nat) (A : Nat → Prop) (l : List Fd) : Prop where
  ft : Ft l
  is : ∃ v, Lim.IsW w Q v (fv l) (fb l) ∧ ∀ k, Lim.Of Q v k → B ≤ k ∧ ¬ A k
  kB : B ≤ w.heap.size
  kw : ∀ k, A k → k < w.heap.size

theorem Wz.keep {w w' : World} {B Q : Nat} {A : Nat → Prop} {l : List Fd} (h : Wz w B Q A l) (hb : Below w.heap.size w w') : Wz w' B Q A l := by
  obtain ⟨ft, ⟨v, hv, ho⟩, kB, kw⟩ := h
  exact ⟨ft, ⟨v, hv.fr (Fr.ofBelow (P := fun _ => False) hb) (fun _ _ h => h), ho⟩, Nat.le_trans kB hb.size, fun k hk => Nat.lt_of_lt_of_le (kw k hk) hb.size⟩

theorem Wz.drew {w : World} {B Q : Nat} {A : Nat → Prop} {l : List Fd} (h : Wz w B Q A l) : Wz w.drew B Q A l := h.keep (Below.refl _ _).drew

theorem Wz.less {w : World} {B Q : Nat} {A A' : Nat → Prop} {l : List Fd} (h : Wz w B Q A l) (hA : ∀ k, A' k → A k) : Wz w B Q A' l := by
  obtain ⟨ft, ⟨v, hv, ho⟩, kB, kw⟩ := h
  exact ⟨ft, ⟨v, hv, fun k hk => ⟨(ho k hk).1, fun h => (ho k hk).2 (hA k h)⟩⟩, kB, fun k hk => kw k (hA k hk)⟩

/-- A writer's blocks are there. -/
theorem isW_in {w : World} {Q : Nat} {v : Value} {N : Int} {len : Nat} (h : Lim.IsW w Q v N len) : ∀ k, Lim.Of Q v k → k < w.heap.size := by
  rintro k (rfl | hk)
  · exact h.raw.row.lt
  · exact (h.raw.own.lt k hk).2

/-- New blocks may be set apart. -/
theorem Wz.more {w w' : World} {B Q : Nat} {A : Nat → Prop} {l : List Fd} (h : Wz w B Q A l) (hb : Below w.heap.size w w') (A' : Nat → Prop) (hA : ∀ k, A' k → A k ∨ (w.heap.size ≤ k ∧ k < w'.heap.size)) : Wz w' B Q A' l := by
  have h' := h.keep hb
  obtain ⟨ft, ⟨v, hv, ho⟩, kB, kw⟩ := h
  refine ⟨ft, ⟨v, hv.fr (Fr.ofBelow (P := fun _ => False) hb) (fun _ _ h => h), fun k hk => ⟨(ho k hk).1, fun h => ?_⟩⟩, h'.kB, fun k hk => ?_⟩
  · rcases hA k h with h1 | h1
    · exact (ho k hk).2 h1
    · have := isW_in hv k hk
      omega
  · rcases hA k hk with h1 | h1
    · exact h'.kw k h1
    · exact h1.2

theorem step_zw {w w' : World} {B Q : Nat} {A : Nat → Prop} {v v' : Value} (s : Lim.Step Q v v' w w') (kB : B ≤ w.heap.size) (kw : ∀ k, A k → k < w.heap.size) (ho : ∀ k, Lim.Of Q v k → B ≤ k ∧ ¬ A k) : Zw B A w w' ∧ ∀ k, Lim.Of Q v' k → B ≤ k ∧ ¬ A k := by
  refine ⟨⟨s.below B kB (fun k hk => (ho k hk).1), fun k hk => s.fr.block k (kw k hk) (fun h => (ho k h).2 hk)⟩, fun k hk => ?_⟩
  rcases Nat.lt_or_ge k w.heap.size with h | h
  · exact ho k (s.back k h hk)
  · exact ⟨by omega, fun ha => by have := kw k ha; omega⟩

theorem zput_any (B Q : Nat) (A : Nat → Prop) (l : List Fd) (x u : Int) (n : Nat) (w : World) (h : Wz w B Q A l) (hn : n ≤ 24) (hl : fb l ≤ 1000000000) (hu : x % 2 ^ n = u) :
    Calls Tryz.prog 58 #[.pointer (some ⟨Q, 0, none⟩), .int .i64 x, .int .i64 n] w fun e w' => e = .returned (.tuple #[]) ∧ Wz w' B Q A (l ++ [(u, n)]) ∧ Zw B A w w' := by
  obtain ⟨ft, ⟨v, hv, ho⟩, kB, kw⟩ := h
  refine (Lim.put_yes Q v (fv l) x (fb l) n w hv hn hl).mono ?_
  rintro e w' ⟨rfl, v', hv', s⟩
  obtain ⟨h1, h2⟩ := step_zw s kB kw ho
  rw [hu] at hv'
  refine ⟨rfl, ⟨ft.app (Ft.cons (by show 0 ≤ u; rw [← hu]; exact mod_nn _ _) (by show u < 2 ^ n; rw [← hu]; exact mod_lt _ _) Ft.nil), ⟨v', ?_, h2⟩, Nat.le_trans kB s.fr.size, fun k hk => Nat.lt_of_lt_of_le (kw k hk) s.fr.size⟩, h1⟩
  have e1 : fv (l ++ [(u, n)]) = fv l + 2 ^ fb l * u := by rw [fv_app]; simp [fv]
  have e2 : fb (l ++ [(u, n)]) = fb l + n := by rw [fb_app]; simp [fb]
  rw [e1, e2]
  exact hv'

theorem zalign_any (B Q : Nat) (A : Nat → Prop) (l : List Fd) (w : World) (h : Wz w B Q A l) (hl : fb l ≤ 1000000000) (h8 : fb l % 8 = 3) :
    Calls Tryz.prog 57 #[.pointer (some ⟨Q, 0, none⟩)] w fun e w' => e = .returned (.tuple #[]) ∧ Wz w' B Q A (l ++ [(0, 5)]) ∧ Zw B A w w' := by
  obtain ⟨ft, ⟨v, hv, ho⟩, kB, kw⟩ := h
  refine (Lim.align_any Q v (fv l) (fb l) w hv hl).mono ?_
  rintro e w' ⟨rfl, v', hv', s⟩
  obtain ⟨h1, h2⟩ := step_zw s kB kw ho
  refine ⟨rfl, ⟨ft.app (Ft.cons (by simp) (by simp) Ft.nil), ⟨v', ?_, h2⟩, Nat.le_trans kB s.fr.size, fun k hk => Nat.lt_of_lt_of_le (kw k hk) s.fr.size⟩, h1⟩
  have e1 : fv (l ++ [(0, 5)]) = fv l := by rw [fv_app]; simp [fv]
  have e2 : fb (l ++ [(0, 5)]) = Lim.al (fb l) := by rw [fb_app]; simp [fb]; unfold Lim.al; omega
  rw [e1, e2]
  exact hv'

theorem zbyte_any (B Q : Nat) (A : Nat → Prop) (l : List Fd) (x : Int) (w : World) (h : Wz w B Q A l) (hl : fb l ≤ 900000000) (h8 : fb l % 8 = 0) (hx0 : 0 ≤ x) (hx1 : x < 256) :
    Calls Tryz.prog 59 #[.pointer (some ⟨Q, 0, none⟩), .int .u8 x] w fun e w' => e = .returned (.tuple #[]) ∧ Wz w' B Q A (l ++ [(x, 8)]) ∧ Zw B A w w' := by
  obtain ⟨ft, ⟨v, hv, ho⟩, kB, kw⟩ := h
  refine (Lim.byte_any Q v (fv l) x (fb l) w hv hl).mono ?_
  rintro e w' ⟨rfl, v', hv', s⟩
  obtain ⟨h1, h2⟩ := step_zw s kB kw ho
  refine ⟨rfl, ⟨ft.app (Ft.cons hx0 (by show x < 2 ^ 8; omega) Ft.nil), ⟨v', ?_, h2⟩, Nat.le_trans kB s.fr.size, fun k hk => Nat.lt_of_lt_of_le (kw k hk) s.fr.size⟩, h1⟩
  have ea : Lim.al (fb l) = fb l := by unfold Lim.al; omega
  have e1 : fv (l ++ [(x, 8)]) = Lim.btN (fv l) (fb l) x := by rw [fv_app, Lim.btN, ea]; simp [fv]; rw [Int.emod_eq_of_lt hx0 hx1]
  have e2 : fb (l ++ [(x, 8)]) = Lim.al (fb l) + 8 := by rw [fb_app, ea]; simp [fb]
  rw [e1, e2]
  exact hv'

theorem zlen_any (B Q : Nat) (A : Nat → Prop) (l : List Fd) (w : World) (h : Wz w B Q A l) (hl : fb l ≤ 1000000000) :
    Calls Tryz.prog 46 #[.pointer (some ⟨Q, 0, none⟩)] w fun e w' => e = .returned (.int .i64 (fb l)) ∧ w' = w.drew := by
  obtain ⟨_, ⟨v, hv, _⟩, _⟩ := h
  exact Lim.len_any Q v (fv l) (fb l) w hv hl

theorem zdone_any (B Q : Nat) (A : Nat → Prop) (l : List Fd) (w : World) (h : Wz w B Q A l) (hl : fb l ≤ 1000000000) :
    Calls Tryz.prog 27 #[.pointer (some ⟨Q, 0, none⟩)] w fun e w' => ∃ v', e = .returned v' ∧ w'.ownsRow w.heap.size 5 1 v' ((fb l + 7) / 8) ((by8 (fv l) ((fb l + 7) / 8)).map (Value.int .u8)) ∧ Below w.heap.size w w' := by
  obtain ⟨_, ⟨v, hv, _⟩, _⟩ := h
  exact Lim.done_any Q v (fv l) (fb l) w hv hl

set_option maxRecDepth 100000 in
set_option maxHeartbeats 4000000 in
theorem zcode_any (R B Q lo K : Nat) (A : Nat → Prop) (hA : ∀ k, lo ≤ k → k < K → A k) (L : Nat → Int) (n : Nat) (l : List Fd) (i : Nat) (w : World) (hC : Cx w R lo K L n) (hW : Wz w B Q A l) (hi : i < n) (hx0 : 0 < L i) (hl : fb l ≤ 900000000) :
    Calls Tryz.prog 149 #[.pointer (some ⟨R, 0, none⟩), .pointer (some ⟨Q, 0, none⟩), .int .i64 i] w fun e w' => e = .returned (.bool true) ∧ Wz w' B Q A (l ++ [gf L n i]) ∧ Zw B A w w' := by
  obtain ⟨ft, ⟨v, hv, ho⟩, kB, kw⟩ := hW
  have hgt := gf_ft L n i
  have hC' := hC
  obtain ⟨la, lc, cg, sg, sy, M, dp, hC, l1, l2, l3, l4⟩ := hC
  obtain ⟨h288, hL, hf⟩ := er_zero L n hC.ok
  obtain ⟨x, hx⟩ : ∃ x : Nat, L i = x := Int.eq_ofNat_of_zero_le (by omega)
  have hx15 : x ≤ 15 := by have := (hL i hi).2; omega
  have hE1 : Lim.cdN (fv l) (fb l) (cd L n i) x = fv (l ++ [gf L n i]) := by
    rw [Lim.cdN, if_pos (by omega), Int.toNat_natCast, fv_app]
    simp [fv, gf, hx]
  have hE2 : Lim.ptL (fb l) x = fb (l ++ [gf L n i]) := by
    rw [Lim.ptL, if_pos (by omega), Int.toNat_natCast, fb_app]
    simp [fb, gf, hx]
  have hE3 : Hid (Ft (l ++ [gf L n i])) := ft.app (Ft.cons hgt.1 hgt.2 Ft.nil)
  obtain ⟨b, off, rfl, _⟩ := hC.rl.plain (by omega)
  have HC : Hid (∀ w', Mid lo K w w' → w'.cell? ⟨R, 0, none⟩ = some (.slice (some ⟨b, off, none⟩) n lc) ∧ w'.cell? ⟨R, 1, none⟩ = some (.slice (some ⟨cg, 0, none⟩) n n) ∧ w'.cell? ⟨b, off + i, none⟩ = some (.int .i64 x) ∧ w'.cell? ⟨cg, i, none⟩ = some (.int .i64 (cd L n i))) := fun w' hb => by
    have h' := hC.mid l1 l2 l3 l4 hb
    refine ⟨h'.row.cell (i := 0) (by omega), h'.row.cell (i := 1) (by omega), ?_, h'.rc.cell hi⟩
    have := h'.rl.cells _ rfl i hi
    rw [Addr.add_lit, hx] at this
    exact this
  have k0 := HC.out w (Mid.refl _ _ _)
  obtain ⟨k1, k2, k3, k4⟩ := k0
  have d1 : decide ((i : Int) < 0) = false := by simp
  have d2 : decide ((n : Int) ≤ (i : Int)) = false := by simp; omega
  have d3 : ((x : Int) == 0) = false := by simp; omega
  have dw := hv.drew
  have HO : Hid (∀ k, Lim.Of Q v k → B ≤ k ∧ ¬ A k) := ho
  have HA : Hid (∀ k, lo ≤ k → k < K → A k) := hA
  have HE : Hid (Lim.cdN (fv l) (fb l) (cd L n i) x = fv (l ++ [gf L n i]) ∧ Lim.ptL (fb l) x = fb (l ++ [gf L n i])) := ⟨hE1, hE2⟩
  have HKW : Hid (B ≤ w.heap.size ∧ ∀ k, A k → k < w.heap.size) := ⟨kB, kw⟩
  generalize hcd : cd L n i = cv at *
  clear hA hC hf hL hcd ho hE1 hE2 hC' l1 l2 l3 l4 ft hgt kB kw
  go_enter Tryz.func149, Tryz.ntmps149
  go_wp2_with fail
  go_region_held3 (fun w' => w'.cell? ⟨R, 0, none⟩ = some (.slice (some ⟨b, off, none⟩) n lc) ∧ w'.cell? ⟨R, 1, none⟩ = some (.slice (some ⟨cg, 0, none⟩) n n) ∧ w'.cell? ⟨b, off + i, none⟩ = some (.int .i64 x) ∧ w'.cell? ⟨cg, i, none⟩ = some (.int .i64 cv)) (go_keep)
    ((go_at_call 158; refine (Lim.code_any Q v (fv l) cv x (fb l) w.drew dw (by omega)).mono ?_; rintro e w3 ⟨rfl, v3, h3, s3⟩; have Z3 := step_zw (B := B) (A := A) s3 HKW.out.1 HKW.out.2 HO.out; have B3 : Mid lo K w w3 := (Mid.refl _ _ _).drew.trans (Z3.1.md HA.out); have e1 := (HC.out w3 B3).1; have e2 := (HC.out w3 B3).2.1; have e3 := (HC.out w3 B3).2.2.1; have e4 := (HC.out w3 B3).2.2.2))
  clear k1 k2 k3 k4 e1 e2 e3 e4 dw
  go_wp2_with fail
  go_ret
  rw [HE.out.1, HE.out.2] at h3
  have hsz := Z3.1.bel.size
  exact ⟨rfl, ⟨hE3.out, ⟨v3, h3, Z3.2⟩, Nat.le_trans HKW.out.1 hsz, fun k hk => Nat.lt_of_lt_of_le (HKW.out.2 k hk) hsz⟩, (Zw.refl B A w).drew.trans Z3.1⟩

end Go.Proofs.YtiahbicodlgmhaaGreatDoor.Z

/- A step written; putSteps. -/
namespace Go.Proofs.YtiahbicodlgmhaaGreatDoor.Z
open Go.RowKit

set_option maxRecDepth 100000 in
set_option maxHeartbeats 1000000 in
theorem zstep_any (R B Q lo K : Nat) (A : Nat → Prop) (hA : ∀ k, lo ≤ k → k < K → A k) (L : Nat → Int) (n : Nat) (l : List Fd) (c : Int) (i u k : Nat) (w : World) (hC : Cx w R lo K L n) (hW : Wz w B Q A l) (hi : i < n) (hx0 : 0 < L i) (hk : k ≤ 24) (hu : u < 2 ^ k) (hl : fb l ≤ 800000000) :
    Calls Tryz.prog 137 #[sv (c, (i : Int), (u : Int), (k : Int)), .pointer (some ⟨Q, 0, none⟩), .pointer (some ⟨R, 0, none⟩)] w fun e w' => e = .returned (.tuple #[]) ∧ Wz w' B Q A (l ++ [gf L n i, ((u : Int), k)]) ∧ Zw B A w w' := by
  obtain ⟨W1, hW1⟩ : ∃ W1, W1 = w.alloc (Obj.cells #[Value.int .i64 c, Value.int .i64 i, Value.int .i64 u, Value.int .i64 k] 109) := ⟨_, rfl⟩
  have b1 : Below w.heap.size w W1 := by rw [hW1]; exact (Below.refl _ _).alloc (Nat.le_refl _) _
  have r1 : W1.rowIs w.heap.size 109 4 (stc (c, (i : Int), (u : Int), (k : Int))) := by rw [hW1]; exact step_new w (c, (i : Int), (u : Int), (k : Int)) _ rfl
  obtain ⟨A', hA'⟩ : ∃ A' : Nat → Prop, A' = fun j => A j ∨ j = w.heap.size := ⟨_, rfl⟩
  have hW' : Wz W1 B Q A' l := hW.more b1 A' (fun j hj => by
    rw [hA'] at hj
    rcases hj with h | h
    · exact .inl h
    · exact .inr ⟨by omega, by have := r1.lt; omega⟩)
  have hsub : ∀ j, A j → A' j := fun j hj => by rw [hA']; exact .inl hj
  have hSB : A' w.heap.size := by rw [hA']; exact .inr rfl
  have hcod := zcode_any R B Q lo K A' (fun j h1 h2 => hsub j (hA j h1 h2)) L n l i W1 (hC.mid (Mid.ofBelow (b1.mono hC.K_le))) hW' hi hx0 (by omega)
  have hlx : (L i).toNat ≤ 15 := by
    obtain ⟨_, hL, _⟩ := er_zero L n hC.ok
    have := (hL i hi).2
    omega
  have hfb : fb (l ++ [gf L n i]) ≤ 900000000 := by rw [fb_app]; simp only [fb, gf]; omega
  have x1 := r1.cell (i := 1) (by omega)
  simp only [stc] at x1
  have HU : Hid (((u : Nat) : Int) % 2 ^ k = u) := Int.emod_eq_of_lt (by omega) (p2_cast _ _ hu)
  have HR1 : Hid (W1.rowIs w.heap.size 109 4 (stc (c, (i : Int), (u : Int), (k : Int))) ∧ A' w.heap.size) := ⟨r1, hSB⟩
  have HZ1 : Hid (Zw B A w W1) := Zw.keep hW.kB hW.kw b1
  have HSUB : Hid (∀ j, A j → A' j) := hsub
  have HFB : Hid (fb (l ++ [gf L n i]) ≤ 900000000) := hfb
  have HW1 : Hid (W1 = w.alloc (Obj.cells #[Value.int .i64 c, Value.int .i64 i, Value.int .i64 u, Value.int .i64 k] 109)) := hW1
  rw [hW1] at x1
  clear hA hC hW hi hx0 hu hl b1 r1 hA' hW' hsub hSB hlx hfb hW1
  go_enter Tryz.func137, Tryz.ntmps137
  go_wp2_with fail
  rw [← HW1.out]
  refine hcod.mono ?_
  rintro e w2 ⟨rfl, hw2, hz2⟩
  have r2 : w2.rowIs w.heap.size 109 4 (stc (c, (i : Int), (u : Int), (k : Int))) := HR1.out.1.of_block (hz2.mid _ HR1.out.2)
  have y2 := r2.cell (i := 2) (by omega)
  have y3 := r2.cell (i := 3) (by omega)
  simp only [stc] at y2 y3
  have hput := zput_any B Q A' (l ++ [gf L n i]) u u k w2 hw2 hk (by have := HFB.out; omega) HU.out
  have HZ2 : Hid (Zw B A' W1 w2) := hz2
  clear hcod x1 hw2 hz2 r2
  go_wp2_with fail
  refine hput.mono ?_
  rintro e w3 ⟨rfl, hw3, hz3⟩
  have HW3 : Hid (Wz w3 B Q A (l ++ [gf L n i, ((u : Int), k)])) := by
    have := hw3.less HSUB.out
    rw [List.append_assoc] at this
    exact this
  have HZ3 : Hid (Zw B A w w3) := HZ1.out.trans ((HZ2.out.trans hz3).less HSUB.out)
  clear hput hw3 hz3 y2 y3
  go_wp2_with fail
  go_end0
  exact ⟨rfl, HW3.out, HZ3.out⟩

/-- The fields of steps by two codes. -/
def encS (La : Nat → Int) (na : Nat) (Lb : Nat → Int) (nb : Nat) : List Stp → List Fd
  | [] => []
  | s :: ss => [if s.1 = 0 then gf La na s.2.1.toNat else gf Lb nb s.2.1.toNat, (s.2.2.1, s.2.2.2.toNat)] ++ encS La na Lb nb ss

theorem encS_app (La : Nat → Int) (na : Nat) (Lb : Nat → Int) (nb : Nat) (a b : List Stp) : encS La na Lb nb (a ++ b) = encS La na Lb nb a ++ encS La na Lb nb b := by
  induction a with
  | nil => rfl
  | cons s a ih => simp only [List.cons_append, encS, ih, List.append_assoc]

/-- A step that has a code. -/
def okP (La : Nat → Int) (na : Nat) (Lb : Nat → Int) (nb : Nat) (s : Stp) : Prop :=
  ∃ i u k : Nat, s.2 = ((i : Int), (u : Int), (k : Int)) ∧ u < 2 ^ k ∧ k ≤ 13 ∧ ((s.1 = 0 ∧ i < na ∧ 0 < La i ∧ La i ≤ 15) ∨ (s.1 = 1 ∧ i < nb ∧ 0 < Lb i ∧ Lb i ≤ 15))

theorem encS_le {La : Nat → Int} {na : Nat} {Lb : Nat → Int} {nb : Nat} {ss : List Stp} (h : ∀ s ∈ ss, okP La na Lb nb s) : fb (encS La na Lb nb ss) ≤ 28 * ss.length := by
  induction ss with
  | nil => simp [encS, fb]
  | cons s ss ih =>
    have h2 := ih (fun x hx => h x (by simp [hx]))
    obtain ⟨i, u, k, e, h3, h4, h5⟩ := h s (by simp)
    obtain ⟨a, b⟩ := s
    simp only at e h5
    subst e
    simp only [encS, fb_app, fb, List.length_cons, Int.toNat_natCast]
    rcases h5 with ⟨e1, _, _, h6⟩ | ⟨e1, _, _, h6⟩
    · rw [if_pos e1]
      simp only [gf]
      omega
    · rw [if_neg (by omega)]
      simp only [gf]
      omega

end Go.Proofs.YtiahbicodlgmhaaGreatDoor.Z

/- putSteps. -/
namespace Go.Proofs.YtiahbicodlgmhaaGreatDoor.Z
open Go.RowKit

set_option maxRecDepth 100000 in
set_option maxHeartbeats 4000000 in
theorem zsteps_any (x a b B Q lo K : Nat) (A : Nat → Prop) (hA : ∀ k, lo ≤ k → k < K → A k) (La : Nat → Int) (na : Nat) (Lb : Nat → Int) (nb : Nat) (l : List Fd) (ss : List Stp) (sa : Option Addr) (sc m : Nat) (f : Nat → Value) (w : World)
    (hx : w.rowIs x 66 9 f) (hf : f 2 = .slice sa m sc) (hss : Ss w sa m ss) (hsb : ∀ ad, sa = some ad → A ad.block) (hCa : Cx w a lo K La na) (hCb : Cx w b lo K Lb nb) (hW : Wz w B Q A l) (hok : ∀ s ∈ ss, okP La na Lb nb s) (hm : m ≤ 1000000) (hl : fb l + 28 * m ≤ 700000000) :
    Calls Tryz.prog 107 #[.pointer (some ⟨x, 0, none⟩), .pointer (some ⟨Q, 0, none⟩), .agg #[.pointer (some ⟨a, 0, none⟩), .pointer (some ⟨b, 0, none⟩)]] w fun e w' => e = .returned (.tuple #[]) ∧ Wz w' B Q A (l ++ encS La na Lb nb ss) ∧ Zw B A w w' := by
  obtain ⟨W1, hW1⟩ : ∃ W1, W1 = w.alloc (Obj.cells #[Value.pointer (some ⟨a, 0, none⟩), Value.pointer (some ⟨b, 0, none⟩)] 63) := ⟨_, rfl⟩
  have b1 : Below w.heap.size w W1 := by rw [hW1]; exact (Below.refl _ _).alloc (Nat.le_refl _) _
  have r1 : W1.rowIs w.heap.size 63 2 (p2c a b) := by rw [hW1]; exact World.rowIs_alloc w _ 63 _ (fun i hi => by simp at hi; rcases i with _ | _ | i <;> first | rfl | omega)
  obtain ⟨A', hA'⟩ : ∃ A' : Nat → Prop, A' = fun j => A j ∨ j = w.heap.size := ⟨_, rfl⟩
  have hW' : Wz W1 B Q A' l := hW.more b1 A' (fun j hj => by
    rw [hA'] at hj
    rcases hj with h | h
    · exact .inl h
    · exact .inr ⟨by omega, by have := r1.lt; omega⟩)
  have hsub : ∀ j, A j → A' j := fun j hj => by rw [hA']; exact .inl hj
  have hSB : A' w.heap.size := by rw [hA']; exact .inr rfl
  have hA2 : ∀ k, lo ≤ k → k < K → A' k := fun j h1 h2 => hsub j (hA j h1 h2)
  have x2 := (hx.of_block (b1.block _ hx.lt)).cell (i := 2) (by omega)
  rw [hf] at x2
  have HS : Hid (W1.rowIs w.heap.size 63 2 (p2c a b) ∧ A' w.heap.size ∧ (∀ k, lo ≤ k → k < K → A' k) ∧ Ss W1 sa m ss ∧ (∀ ad, sa = some ad → A' ad.block) ∧ Cx W1 a lo K La na ∧ Cx W1 b lo K Lb nb ∧ Zw B A w W1 ∧ ∀ j, A j → A' j) := ⟨r1, hSB, hA2, hss.keep b1, fun ad had => hsub _ (hsb ad had), hCa.mid (Mid.ofBelow (b1.mono hCa.K_le)), hCb.mid (Mid.ofBelow (b1.mono hCb.K_le)), Zw.keep hW.kB hW.kw b1, hsub⟩
  have HWW : Hid (Wz W1 B Q A' (l ++ encS La na Lb nb (ss.take 0))) := by show Wz _ _ _ _ _; simpa [encS] using hW'
  have HOK : Hid (∀ s ∈ ss, okP La na Lb nb s) := hok
  have HL : Hid (fb l + 28 * m ≤ 700000000) := hl
  have HLEN : Hid (ss.length = m) := hss.len
  have HW1 : Hid (W1 = w.alloc (Obj.cells #[Value.pointer (some ⟨a, 0, none⟩), Value.pointer (some ⟨b, 0, none⟩)] 63)) := hW1
  obtain ⟨CB, hCB⟩ : ∃ CB, CB = w.heap.size := ⟨_, rfl⟩
  rw [← hCB] at HS
  have HCB : Hid (CB = w.heap.size) := hCB
  rw [hW1] at x2
  clear hA hx hf hss hsb hCa hCb hW hok hl b1 r1 hA' hW' hsub hSB hA2 hW1 hCB
  go_enter Tryz.func107, Tryz.ntmps107
  go_wp2_with fail
  rw [← HW1.out, ← HCB.out]
  clear x2 HW1
  go_loopw [13] (fun iv wr => ∃ k : Nat, k ≤ m ∧ iv = .int .i64 k ∧ Hid (Wz wr B Q A' (l ++ encS La na Lb nb (ss.take k))) ∧ Hid (Zw B A' W1 wr)) (fun iv _ => m - (intOf iv).toNat)
  case atStart => exact ⟨0, by omega, rfl, HWW, Zw.refl _ _ _⟩
  case round =>
    clear HWW
    obtain ⟨k, hk, rfl, HW, HZ⟩ := hrel
    obtain ⟨h1, h2, h3, h4, h5, h6, h7, h8, h9⟩ := HS.out
    by_cases hlt : k < m
    · obtain ⟨bb, off, hsa, x0, x1, x2, x3⟩ := h4.cells k hlt
      have hblk : wr.heap[bb]? = W1.heap[bb]? := HZ.out.mid _ (h5 _ hsa)
      have htk : ss.take (k + 1) = ss.take k ++ [ss.getD k sz0] := Lzz.take_one _ sz0 k (by have := HLEN.out; omega)
      have hmem : ss.getD k sz0 ∈ ss := by
        rw [List.getD, List.getElem?_eq_getElem (by have := HLEN.out; omega : k < ss.length)]
        simp
      obtain ⟨i, u, kk, es, hu, hkk, hcase⟩ := HOK.out _ hmem
      obtain ⟨st, hst⟩ : ∃ st, st = ss.getD k sz0 := ⟨_, rfl⟩
      rw [← hst] at x0 x1 x2 x3 htk es hcase
      obtain ⟨c, sr⟩ := st
      simp only at es hcase x0 x1 x2 x3
      subst es
      simp only at x0 x1 x2 x3
      have y0 : wr.cell? ⟨bb, off + k * 4, none⟩ = some (.int .i64 c) := by rw [World.cell?_of_block (a := ⟨bb, off + k * 4, none⟩) hblk]; exact x0
      have y1 : wr.cell? ⟨bb, off + k * 4 + 1, none⟩ = some (.int .i64 i) := by rw [World.cell?_of_block (a := ⟨bb, off + k * 4 + 1, none⟩) hblk]; exact x1
      have y2 : wr.cell? ⟨bb, off + k * 4 + 2, none⟩ = some (.int .i64 u) := by rw [World.cell?_of_block (a := ⟨bb, off + k * 4 + 2, none⟩) hblk]; exact x2
      have y3 : wr.cell? ⟨bb, off + k * 4 + 3, none⟩ = some (.int .i64 kk) := by rw [World.cell?_of_block (a := ⟨bb, off + k * 4 + 3, none⟩) hblk]; exact x3
      have rCB : wr.rowIs CB 63 2 (p2c a b) := h1.of_block (HZ.out.mid _ h2)
      have bY : Below wr.heap.size wr (wr.alloc (Obj.cells #[Value.int .i64 c, Value.int .i64 i, Value.int .i64 u, Value.int .i64 kk] 109)) := (Below.refl _ _).alloc (Nat.le_refl _) _
      have WY := (HW.out.keep bY).drew
      have mdW : Mid lo K W1 (wr.alloc (Obj.cells #[Value.int .i64 c, Value.int .i64 i, Value.int .i64 u, Value.int .i64 kk] 109)).drew := (HZ.out.md h3).trans (Mid.ofBelow (bY.mono (Nat.le_trans h6.K_le HZ.out.bel.size))).drew
      have hfb : fb (l ++ encS La na Lb nb (ss.take k)) ≤ 700000000 := by
        rw [fb_app]
        have := encS_le (La := La) (na := na) (Lb := Lb) (nb := nb) (ss := ss.take k) (fun s hs => HOK.out s (List.mem_of_mem_take hs))
        rw [List.length_take] at this
        have := HL.out
        have := HLEN.out
        omega
      have HZY : Hid (Zw B A' W1 (wr.alloc (Obj.cells #[Value.int .i64 c, Value.int .i64 i, Value.int .i64 u, Value.int .i64 kk] 109)).drew) := HZ.out.trans (Zw.keep HW.out.kB HW.out.kw bY).drew
      subst hsa
      rcases hcase with ⟨rfl, c2, c3, c4⟩ | ⟨rfl, c2, c3, c4⟩
      · have hstep := zstep_any a B Q lo K A' h3 La na (l ++ encS La na Lb nb (ss.take k)) 0 i u kk _ (h6.mid mdW) WY c2 c3 (by omega) hu (by omega)
        have pa := (rCB.of_block (bY.block _ rCB.lt)).drew.cell (i := 0) (by omega)
        simp only [p2c] at pa
        have HE : Hid (l ++ encS La na Lb nb (ss.take (k + 1)) = l ++ encS La na Lb nb (ss.take k) ++ [gf La na i, ((u : Int), kk)]) := by
          show _ = _
          rw [htk, encS_app, List.append_assoc]
          simp [encS]
        clear h1 h2 h3 h4 h5 h6 h7 h8 h9 x0 x1 x2 x3 hblk htk hmem hst rCB bY WY mdW hfb HW HZ c2 c3 c4 hu
        go_wp2_with fail
        go_region_with (go_at_call 137; refine hstep.mono ?_; rintro e w5 ⟨rfl, hw5, hz5⟩)
        all_goals
          (try simp only [List.getElem_toArray, List.getElem_cons_zero, List.getElem_cons_succ, Act.put, List.setIfInBounds_toArray, List.set_cons_zero, List.set_cons_succ])
          have HW5 : Hid (Wz w5 B Q A' (l ++ encS La na Lb nb (ss.take (k + 1)))) := by show Wz _ _ _ _ _; rw [HE.out]; exact hw5
          have HZ5 : Hid (Zw B A' W1 w5) := HZY.out.trans hz5
          clear hstep hw5 hz5 pa
          go_wp2
          go_roundw
          case rel => exact ⟨k + 1, by omega, by go_num, HW5, HZ5⟩
          case measure => simp [intOf]; omega
      · have hstep := zstep_any b B Q lo K A' h3 Lb nb (l ++ encS La na Lb nb (ss.take k)) 1 i u kk _ (h7.mid mdW) WY c2 c3 (by omega) hu (by omega)
        have pa := (rCB.of_block (bY.block _ rCB.lt)).drew.cell (i := 1) (by omega)
        simp only [p2c] at pa
        have HE : Hid (l ++ encS La na Lb nb (ss.take (k + 1)) = l ++ encS La na Lb nb (ss.take k) ++ [gf Lb nb i, ((u : Int), kk)]) := by
          show _ = _
          rw [htk, encS_app, List.append_assoc]
          simp [encS]
        clear h1 h2 h3 h4 h5 h6 h7 h8 h9 x0 x1 x2 x3 hblk htk hmem hst rCB bY WY mdW hfb HW HZ c2 c3 c4 hu
        go_wp2_with fail
        go_region_with (go_at_call 137; refine hstep.mono ?_; rintro e w5 ⟨rfl, hw5, hz5⟩)
        all_goals
          (try simp only [List.getElem_toArray, List.getElem_cons_zero, List.getElem_cons_succ, Act.put, List.setIfInBounds_toArray, List.set_cons_zero, List.set_cons_succ])
          have HW5 : Hid (Wz w5 B Q A' (l ++ encS La na Lb nb (ss.take (k + 1)))) := by show Wz _ _ _ _ _; rw [HE.out]; exact hw5
          have HZ5 : Hid (Zw B A' W1 w5) := HZY.out.trans hz5
          clear hstep hw5 hz5 pa
          go_wp2
          go_roundw
          case rel => exact ⟨k + 1, by omega, by go_num, HW5, HZ5⟩
          case measure => simp [intOf]; omega
    · obtain rfl : k = m := by omega
      have hall : ss.take k = ss := by rw [← HLEN.out, List.take_length]
      have hw := HW.out
      rw [hall] at hw
      have HW9 : Hid (Wz wr B Q A (l ++ encS La na Lb nb ss)) := hw.less h9
      have HZ9 : Hid (Zw B A w wr) := h8.trans (HZ.out.less h9)
      clear h1 h2 h3 h4 h5 h6 h7 h8 h9 hall hw HW HZ
      go_wp2
      go_end0
      exact ⟨rfl, HW9.out, HZ9.out⟩

end Go.Proofs.YtiahbicodlgmhaaGreatDoor.Z
