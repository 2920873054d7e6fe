/- spread. -/
import Derived.Test.YtebkgmjmjmaleaaWHash
namespace Go.Proofs.Ytebkgmjmjmaleaa
open Go.RowKit

/-- Word j behind the first i bytes. -/
def pw (bs : List Int) (i j : Nat) : Int :=
  match min 4 (i - 4 * j) with
  | 0 => 0
  | 1 => bs.getD (4 * j) 0
  | 2 => bs.getD (4 * j) 0 * 256 + bs.getD (4 * j + 1) 0
  | 3 => bs.getD (4 * j) 0 * 65536 + bs.getD (4 * j + 1) 0 * 256 + bs.getD (4 * j + 2) 0
  | _ => wd bs j

theorem pw_other (bs : List Int) (i j : Nat) (h : j ≠ i / 4) : pw bs (i + 1) j = pw bs i j := by
  unfold pw
  rw [show min 4 (i + 1 - 4 * j) = min 4 (i - 4 * j) by omega]

theorem getD_byt (bs : List Int) (hb : ∀ x ∈ bs, 0 ≤ x ∧ x < 256) (i : Nat) : 0 ≤ bs.getD i 0 ∧ bs.getD i 0 < 256 := by
  by_cases h : i < bs.length
  · simp only [List.getD, List.getElem?_eq_getElem h, Option.getD_some]
    exact hb _ (List.getElem_mem h)
  · simp [List.getD, List.getElem?_eq_none (Nat.not_lt.1 h)]

theorem or8 (x y : Int) (x0 : 0 ≤ x) (x1 : x < 16777216) (y0 : 0 ≤ y) (y1 : y < 256) : bits .or .u32 (x * 256 % 4294967296) y = x * 256 + y := by
  have hw : ∀ n : Int, 0 ≤ n → n < 2 ^ 32 → IntKind.u32.wrap n = n := fun n h0 h1 => by
    have e : IntKind.u32.wrap n = n % 4294967296 := by simp [IntKind.wrap, IntKind.bits, IntKind.signed]
    rw [e]; omega
  rw [show x * 256 % 4294967296 = x * 256 by omega]
  exact bits_join .u32 32 (by decide) hw 8 (x * 256) y (by omega) (by omega) (by omega) (by omega) (by omega) (by omega)

theorem pw_step (bs : List Int) (hb : ∀ x ∈ bs, 0 ≤ x ∧ x < 256) (i : Nat) : pw bs (i + 1) (i / 4) = bits .or .u32 (pw bs i (i / 4) * 256 % 4294967296) (bs.getD i 0) := by
  have b0 := getD_byt bs hb (4 * (i / 4))
  have b1 := getD_byt bs hb (4 * (i / 4) + 1)
  have b2 := getD_byt bs hb (4 * (i / 4) + 2)
  have b3 := getD_byt bs hb (4 * (i / 4) + 3)
  obtain ⟨q, hq⟩ : ∃ q, q = i / 4 := ⟨_, rfl⟩
  rw [← hq] at b0 b1 b2 b3 ⊢
  have hr : i = 4 * q ∨ i = 4 * q + 1 ∨ i = 4 * q + 2 ∨ i = 4 * q + 3 := by omega
  rcases hr with h | h | h | h
  · have e1 : pw bs (i + 1) q = bs.getD (4 * q) 0 := by unfold pw; rw [show min 4 (i + 1 - 4 * q) = 1 by omega]; rfl
    have e0 : pw bs i q = 0 := by unfold pw; rw [show min 4 (i - 4 * q) = 0 by omega]; rfl
    rw [e0, e1, h, or8 _ _ (by omega) (by omega) b0.1 b0.2]
    omega
  · have e1 : pw bs (i + 1) q = bs.getD (4 * q) 0 * 256 + bs.getD (4 * q + 1) 0 := by unfold pw; rw [show min 4 (i + 1 - 4 * q) = 2 by omega]; rfl
    have e0 : pw bs i q = bs.getD (4 * q) 0 := by unfold pw; rw [show min 4 (i - 4 * q) = 1 by omega]; rfl
    rw [e0, e1, h, or8 _ _ b0.1 (by omega) b1.1 b1.2]
  · have e1 : pw bs (i + 1) q = bs.getD (4 * q) 0 * 65536 + bs.getD (4 * q + 1) 0 * 256 + bs.getD (4 * q + 2) 0 := by unfold pw; rw [show min 4 (i + 1 - 4 * q) = 3 by omega]; rfl
    have e0 : pw bs i q = bs.getD (4 * q) 0 * 256 + bs.getD (4 * q + 1) 0 := by unfold pw; rw [show min 4 (i - 4 * q) = 2 by omega]; rfl
    rw [e0, e1, h, or8 _ _ (by omega) (by omega) b2.1 b2.2]
    omega
  · have e1 : pw bs (i + 1) q = wd bs q := by unfold pw; rw [show min 4 (i + 1 - 4 * q) = 4 by omega]; rfl
    have e0 : pw bs i q = bs.getD (4 * q) 0 * 65536 + bs.getD (4 * q + 1) 0 * 256 + bs.getD (4 * q + 2) 0 := by unfold pw; rw [show min 4 (i - 4 * q) = 3 by omega]; rfl
    rw [e0, e1, h, or8 _ _ (by omega) (by omega) b3.1 b3.2]
    simp only [wd]
    omega

theorem pw_end (bs : List Int) (j : Nat) : pw bs 64 j = if j < 16 then sw bs j else 0 := by
  by_cases h : j < 16
  · rw [if_pos h, sw_low bs j h]
    unfold pw
    rw [show min 4 (64 - 4 * j) = 4 by omega]; rfl
  · rw [if_neg h]
    unfold pw
    rw [show min 4 (64 - 4 * j) = 0 by omega]; rfl

theorem pw_zero (bs : List Int) (j : Nat) : pw bs 0 j = 0 := by
  unfold pw
  rw [show min 4 (0 - 4 * j) = 0 by omega]; rfl

/-- A block's bytes, by value. -/
def blkv (bs : List Int) : Value := row (fun j => .int .u8 (bs.getD j 0)) 64

/-- The eighty words, by value. -/
def schv (bs : List Int) : Value := row (fun j => .int .u32 (sw bs j)) 80

theorem cell_ne {w : World} {b i j : Nat} (v : Value) (h : i ≠ j) : (w.setCell ⟨b, i, none⟩ v).cell? ⟨b, j, none⟩ = w.cell? ⟨b, j, none⟩ := by
  unfold World.setCell World.cell?
  simp only [Array.getElem?_modify]
  by_cases hb : (w.heap[b]?).isSome
  · obtain ⟨o, ho⟩ := Option.isSome_iff_exists.1 hb
    cases o <;> simp [ho, h]
  · simp at hb
    simp [hb]

theorem zero51 (w : World) : (zeroValue 51).run Try.prog w = .ok (.agg (Array.replicate 80 (Value.int .u32 0))) w := (zero_of_info zinfo51).1 w

theorem pw_row {w : World} {b : Nat} (bs : List Int) (g : Nat → Int) (hg : ∀ j, g j = bs.getD j 0) (hb : ∀ x ∈ bs, 0 ≤ x ∧ x < 256) (i : Nat) (h : w.rowIs b 51 80 (fun j => .int .u32 (pw bs i j))) : (w.setCell ⟨b, i / 4, none⟩ (.int .u32 (bits .or .u32 (pw bs i (i / 4) * 256 % 4294967296) (g i)))).rowIs b 51 80 (fun j => .int .u32 (pw bs (i + 1) j)) :=
  (h.set (i / 4) _).congr (fun j _ => by
    by_cases e : j = i / 4
    · rw [if_pos e, e, pw_step bs hb, hg]
    · rw [if_neg e, pw_other bs i j e])

theorem sw_row {w : World} {b : Nat} (bs : List Int) (t : Nat) (h : w.rowIs b 51 80 (fun j => .int .u32 (if j < t then sw bs j else 0))) : (w.setCell ⟨b, t, none⟩ (.int .u32 (sw bs t))).rowIs b 51 80 (fun j => .int .u32 (if j < t + 1 then sw bs j else 0)) :=
  (h.set t _).congr (fun j _ => by
    by_cases e : j = t
    · subst e; simp
    · simp only [e, if_false]
      by_cases h : j < t
      · simp [h, show j < t + 1 by omega]
      · simp [h, show ¬ j < t + 1 by omega])

set_option maxRecDepth 100000 in
set_option maxHeartbeats 1000000 in
theorem spread_any (bs : List Int) (w : World) (hb : ∀ x ∈ bs, 0 ≤ x ∧ x < 256) : Calls Try.prog 21 #[blkv bs] w fun e w' => e = .returned (schv bs) ∧ Below w.heap.size w w' := by
  have z51 := zero51
  obtain ⟨g, hg⟩ : ∃ g : Nat → Int, ∀ j, g j = bs.getD j 0 := ⟨fun j => bs.getD j 0, fun _ => rfl⟩
  have hgb : ∀ j, 0 ≤ g j ∧ g j < 256 := fun j => by rw [hg]; exact getD_byt bs hb j
  have hv : blkv bs = row (fun j => .int .u8 (g j)) 64 := row_congr _ _ _ (fun j _ => by rw [hg])
  have HG : Hid (∀ j, g j = bs.getD j 0) := hg
  have HB : Hid (∀ x ∈ bs, 0 ≤ x ∧ x < 256) := hb
  rw [hv]
  clear hv hg hb
  have r43 := rowIs_vals w (fun j => .int .u8 (g j)) 64 43
  go_enter Try.func21, Try.ntmps21
  have hA := r43.alloc (Obj.cells (Array.replicate 80 (Value.int .u32 0)) 51) |>.alloc (Obj.cells (Array.replicate 80 (Value.int .u32 0)) 51)
  go_wp2_with (first
    | (refine wpList_ld0 rfl 43 _ rfl w.heap.size rfl _ hA 64 (by omega) Try.underlying43 rfl size43 ?_; clear hA))
  go_loopw [8] (fun i wr => ∃ k : Nat, k ≤ 64 ∧ i = .int .i64 k ∧ wr.rowIs (w.heap.size + 2) 51 80 (fun j => .int .u32 (pw bs k j)) ∧ wr.rowIs (w.heap.size + 1) 51 80 (fun _ => .int .u32 0) ∧ Below w.heap.size w wr)
    (fun i _ => (64 - intOf i).toNat)
  case atStart =>
    refine ⟨0, by omega, rfl, ?_, ?_, (((Below.refl _ _).alloc (Nat.le_refl _) _).alloc (by simp) _).alloc (by simp; omega) _⟩
    · refine World.rowIs.congr (f := fun _ => .int .u32 0) ?_ (fun j _ => by rw [pw_zero])
      have hq := rowIs_rep2 (w.alloc (Obj.cells (vals (fun j => Value.int .u8 (g j)) 64).toArray 43)) (Value.int .u32 0) 80 51 51
      simpa using hq
    · have hq := (rowIs_rep (w.alloc (Obj.cells (vals (fun j => Value.int .u8 (g j)) 64).toArray 43)) (Value.int .u32 0) 80 51).alloc (Obj.cells (Array.replicate 80 (Value.int .u32 0)) 51)
      simpa using hq
  case round =>
    obtain ⟨k, hk, rfl, h1, h2, hbl⟩ := hrel
    clear z51 r43
    by_cases hlt : k < 64
    · have hix : ∀ w, (Instr.index 43 (row (fun j => Value.int .u8 (g j)) 64) (.int .i64 (k : Int))).run Try.prog w = .ok (.int .u8 (g k)) w := run_index_row 43 5 64 .i64 _ k hlt Try.underlying43 (fun w => by simp [go_sem]) (fun w => by simp [go_sem])
      obtain ⟨hk0, hk1⟩ := hgb k
      have ct := h1.cell (i := k / 4) (by omega)
      have ft := h1.frozen (k / 4)
      have h3 := pw_row bs g HG.out HB.out k h1
      have hb' : Below w.heap.size w (wr.setCell ⟨w.heap.size + 2, k / 4, none⟩ (.int .u32 (bits .or .u32 (pw bs k (k / 4) * 256 % 4294967296) (g k)))) := hbl.setCell (by simp) _
      have h4 : (wr.setCell ⟨w.heap.size + 2, k / 4, none⟩ (.int .u32 (bits .or .u32 (pw bs k (k / 4) * 256 % 4294967296) (g k)))).rowIs (w.heap.size + 1) 51 80 (fun _ => .int .u32 0) := h2.setOther (by simp) _
      clear h1 h2 hbl
      go_wp2
      go_roundw
      case rel => exact ⟨k + 1, by omega, by go_num, h3, h4, hb'⟩
      case measure => simp [intOf]; omega
    · have h64 : k = 64 := by omega
      have h1' : wr.rowIs (w.heap.size + 2) 51 80 (fun j => .int .u32 (if j < 16 then sw bs j else 0)) := h1.congr (fun j _ => by rw [h64, pw_end])
      clear h1 h64 hk
      go_wp2
      clear hlt
      obtain ⟨z, hz⟩ : ∃ z : Int, z = (k : Int) := ⟨_, rfl⟩
      rw [← hz]
      clear hz
      go_loopw [6] (fun t wx => ∃ k : Nat, 16 ≤ k ∧ k ≤ 80 ∧ t = .int .i64 (k : Int) ∧ wx.rowIs (w.heap.size + 2) 51 80 (fun j => .int .u32 (if j < k then sw bs j else 0)) ∧ wx.rowIs (w.heap.size + 1) 51 80 (fun _ => .int .u32 0) ∧ Below w.heap.size w wx)
        (fun t _ => (80 - intOf t).toNat)
      case atStart => exact ⟨16, by omega, by omega, rfl, h1', h2, hbl⟩
      case round =>
        clear h1' h2 hbl
        obtain ⟨k, hk16, hk80, rfl, h1, h2, hbl⟩ := hrel
        by_cases hlt : k < 80
        · obtain ⟨a, ha⟩ : ∃ a, a = k - 16 := ⟨_, rfl⟩
          obtain ⟨b, hb⟩ : ∃ b, b = k - 14 := ⟨_, rfl⟩
          obtain ⟨c, hc⟩ : ∃ c, c = k - 8 := ⟨_, rfl⟩
          obtain ⟨d, hd⟩ : ∃ d, d = k - 3 := ⟨_, rfl⟩
          have c0 := h1.cell (i := a) (by omega)
          have c2 := h1.cell (i := b) (by omega)
          have c8 := h1.cell (i := c) (by omega)
          have c13 := h1.cell (i := d) (by omega)
          have c16 := h1.cell (i := k) (by omega)
          have ft := h1.frozen k
          simp only [show a < k by omega, show b < k by omega, show c < k by omega, show d < k by omega, Nat.lt_irrefl, if_true, if_false] at c0 c2 c8 c13 c16
          have hs := sw_high bs k hk16 hlt
          rw [← ha, ← hb, ← hc, ← hd] at hs
          have h3 := sw_row bs k h1
          have h4 : (wr.setCell ⟨w.heap.size + 2, k, none⟩ (.int .u32 (sw bs k))).rowIs (w.heap.size + 1) 51 80 (fun _ => .int .u32 0) := h2.setOther (by simp) _
          have hb' : Below w.heap.size w (wr.setCell ⟨w.heap.size + 2, k, none⟩ (.int .u32 (sw bs k))) := hbl.setCell (by simp) _
          have HS : Hid (rotl (x4 (sw bs d) (sw bs c) (sw bs b) (sw bs a)) 1 = sw bs k) := hs.symm
          have e0 : IntKind.i64.wrap ((k : Int) - 16) = (a : Int) := by rw [IntKind.wrap_i64]; omega
          have e2 : IntKind.i64.wrap ((k : Int) - 14) = (b : Int) := by rw [IntKind.wrap_i64]; omega
          have e8 : IntKind.i64.wrap ((k : Int) - 8) = (c : Int) := by rw [IntKind.wrap_i64]; omega
          have e13 : IntKind.i64.wrap ((k : Int) - 3) = (d : Int) := by rw [IntKind.wrap_i64]; omega
          have la : (a : Int) < 80 := by omega
          have lb : (b : Int) < 80 := by omega
          have lc : (c : Int) < 80 := by omega
          have ld : (d : Int) < 80 := by omega
          have lk : (k : Int) < 80 := by omega
          have HK : Hid (16 ≤ k ∧ k < 80) := ⟨hk16, hlt⟩
          have na : k ≠ a := by omega
          have nb : k ≠ b := by omega
          have nc : k ≠ c := by omega
          have nd : k ≠ d := by omega
          obtain ⟨v, hv⟩ : ∃ v, v = sw bs k := ⟨_, rfl⟩
          rw [← hv] at h3 h4 hb' HS
          obtain ⟨y0, hy0⟩ : ∃ v, v = sw bs a := ⟨_, rfl⟩
          obtain ⟨y2, hy2⟩ : ∃ v, v = sw bs b := ⟨_, rfl⟩
          obtain ⟨y8, hy8⟩ : ∃ v, v = sw bs c := ⟨_, rfl⟩
          obtain ⟨y13, hy13⟩ : ∃ v, v = sw bs d := ⟨_, rfl⟩
          rw [← hy0] at c0 HS
          rw [← hy2] at c2 HS
          rw [← hy8] at c8 HS
          rw [← hy13] at c13 HS
          clear h1 h2 hbl hs hv hy0 hy2 hy8 hy13 ha hb hc hd hk16 hk80 hlt
          go_wp2_with fail
          go_region_held3 (fun w' => w'.cell? ⟨w.heap.size + 2, a, none⟩ = some (.int .u32 y0) ∧ w'.cell? ⟨w.heap.size + 2, b, none⟩ = some (.int .u32 y2) ∧ w'.cell? ⟨w.heap.size + 2, c, none⟩ = some (.int .u32 y8) ∧ w'.cell? ⟨w.heap.size + 2, d, none⟩ = some (.int .u32 y13)) (simp [*, cell_ne])
              ((go_at_call 23; refine (turned_any _ 1 _ (by omega)).mono ?_; rintro e w1 ⟨rfl, hw⟩; subst w1))
          clear c0 c2 c8 c13 c16 ft e0 e2 e8 e13 na nb nc nd
          go_wp2_with fail
          go_roundw
          case rel =>
            obtain ⟨p1, p2⟩ := HK.out
            exact ⟨k + 1, by omega, by omega, by go_num, by rw [← HS.out] at h3; exact h3, by rw [← HS.out] at h4; exact h4, by rw [← HS.out] at hb'; exact hb'.drew.drew⟩
          case measure => simp [intOf]; omega
        · obtain rfl : k = 80 := by omega
          go_wp2_with (first
            | (refine wpList_ld0 rfl 51 _ rfl (w.heap.size + 2) rfl _ h1 80 (by omega) Try.underlying51 rfl size51 ?_; clear h1)
            | (refine wpList_st rfl 51 _ _ rfl (w.heap.size + 1) rfl (fun j => .int .u32 (if j < 80 then sw bs j else 0)) rfl h2 size51 (fun j => rfl) ?_; intro w3 h3 f3))
          refine bodyPost_ret (results_row rfl _ rfl h3 Try.underlying51 rfl size51) rfl ⟨?_, ?_⟩
          · rw [schv, row_congr _ (fun j => .int .u32 (sw bs j)) 80 (fun i hi => by simp [hi])]
          · exact hbl.trans (f3.below _ hbl.size (fun i hi e => by omega))

end Go.Proofs.Ytebkgmjmjmaleaa
