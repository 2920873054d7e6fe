/- ending, the hash's Sum, Sum. -/
import Derived.Test.YtebkgmjmjmaleaaWWr
namespace Go.Proofs.Ytebkgmjmjmaleaa
open Go.RowKit

theorem own_rowIs {w : World} {base e g n : Nat} {xs : List Value} (h : w.ownsRow base e 1 (.slice (some ⟨g, 0, none⟩) n n) n xs) : w.rowIs g e n (fun j => xs.getD j undef) := by
  rcases h.2 with ⟨e, _⟩ | ⟨g', cap, cur, e, _, hh, _, _, hsz, htk⟩
  · cases e
  · cases e
    have hs : cur.size = n := by simpa using hsz
    refine ⟨cur, hh, hs, fun i hi => ?_⟩
    rw [Nat.mul_one, List.take_of_length_le (by simp [hs])] at htk
    rw [← htk]
    simp [hs, hi]

theorem made_rowIs {w : World} {base e g n : Nat} {z : Value} (hz : z.cells = #[z]) (h : w.ownsRow base e 1 (.slice (some ⟨g, 0, none⟩) n n) n (madeCells z.cells (n * 1)).toList) : w.rowIs g e n (fun _ => z) :=
  (own_rowIs h).congr (fun j hj => by
    rw [hz]
    simp [madeCells, List.getD, hj, Nat.mod_one])

theorem Rd.ofRow {w : World} {b t n : Nat} {xs : List Int} (h : w.rowIs b t n (fun j => .int .u8 (xs.getD j 0))) (hl : xs.length = n) (hb : ∀ x ∈ xs, 0 ≤ x ∧ x < 256) : Rd w (some ⟨b, 0, none⟩) n n xs :=
  ⟨hl, Nat.le_refl _, (fun e => by cases e), fun ad had j hj => by cases had; rw [Addr.add_lit, Nat.zero_add]; exact h.cell hj, hb⟩

theorem fin_byt (n : Nat) : ∀ x ∈ fin n, 0 ≤ x ∧ x < 256 := by
  intro x hx
  unfold fin at hx
  rcases List.mem_append.1 hx with h | h
  · rcases List.mem_cons.1 h with rfl | h
    · omega
    · rw [List.eq_of_mem_replicate h]; omega
  · exact be_byt _ _ x h

theorem fin_len (n : Nat) : (fin n).length = 1 + zs n + 8 := by simp [fin, be_length]; omega

theorem end_cells (z : Nat) (i : Nat) (hi : i < z + 1) : (if i = 0 then Value.int .u8 128 else Value.int .u8 0) = Value.int .u8 ((128 :: List.replicate z (0 : Int)).getD i 0) := by
  cases i with
  | zero => rfl
  | succ i =>
    rw [if_neg (by omega), List.getD_cons_succ]
    simp [List.getD, show i < z by omega]

theorem end_byt (z : Nat) : ∀ x ∈ (128 :: List.replicate z (0 : Int)), 0 ≤ x ∧ x < 256 := by
  intro x hx
  rcases List.mem_cons.1 hx with rfl | h
  · omega
  · rw [List.eq_of_mem_replicate h]; omega

set_option maxHeartbeats 1000000 in
theorem ending_any (n : Nat) (w : World) (hn : n ≤ 1000000000) : Calls Try.prog 17 #[.int .i64 (n : Int)] w fun e w' => ∃ ao c, e = .returned (.slice ao (fin n).length c) ∧ Rd w' ao (fin n).length c (fin n) ∧ (∀ ad, ao = some ad → w.heap.size ≤ ad.block) ∧ Below w.heap.size w w' := by
  obtain ⟨i0, hi, hz0, hz1, hz2⟩ := info_parts Try.info5
  obtain ⟨z, hz⟩ : ∃ z, z = zs n := ⟨_, rfl⟩
  have hz64 : z < 64 := by rw [hz]; unfold zs; omega
  have HZ : Hid ((z : Int) = (119 - (n : Int)) % 64) := by
    show (z : Int) = _
    rw [hz]
    unfold zs
    omega
  have hfin : fin n = (128 :: List.replicate z 0) ++ be (8 * (n : Int)) 8 := by rw [hz]; rfl
  have HF : Hid (fin n = (128 :: List.replicate z 0) ++ be (8 * (n : Int)) 8) := hfin
  clear hz hfin
  go_enter Try.func17, Try.ntmps17
  go_wp2_with (first
    | (at_make; refine wpList_make_full _ rfl _ _ 22 rfl 0 5 i0 (.int .u8 0) 1 Try.underlying22 hi hz0 hz1 _ _ _ _ (z + 1) rfl rfl (by have := HZ.out; omega) (by have := HZ.out; omega) (by rw [hz2]; omega) (by unfold maxLen; omega) (Nat.zero_le _) ?_; intro w1 hown hgrow; have r1 := made_rowIs rfl hown; have c0 := r1.cell (i := 0) (by omega); have f0 := r1.frozen 0)
    | (go_at_call 24; refine (put64_any (some ⟨w.heap.size, 0, none⟩) (z + 1) (z + 1) (8 * (n : Int)) (128 :: List.replicate z 0) _ (Rd.ofRow (r1.set 0 (.int .u8 128) |>.congr (end_cells z)) (by simp) (end_byt z)) (by omega)).mono ?_; rintro e w2 ⟨rfl, hown2, hb2⟩))
  go_ret
  have hfl : (fin n).length = z + 1 + 8 := by rw [HF.out]; simp [be_length]
  have hbf : ∀ x ∈ (128 :: List.replicate z 0) ++ be (8 * (n : Int)) 8, 0 ≤ x ∧ x < 256 := by rw [← HF.out]; exact fin_byt n
  rw [hfl, HF.out]
  have hb1 : Below w.heap.size w w1 := (Below.refl _ _).grown hgrow (Nat.le_refl _) (fun k hk => by cases hk)
  rw [show (w1.setCell ⟨w.heap.size, 0, none⟩ (.int .u8 128)).heap.size = w1.heap.size by simp [World.setCell]] at hown2
  refine ⟨_, _, rfl, Rd.ofOwn hown2 hbf, fun ad had => ?_, ?_⟩
  · cases had
    exact hb1.size
  · exact (hb1.setCell (p := ⟨w.heap.size, 0, none⟩) (Nat.le_refl _) (.int .u8 128)).trans (hb2.mono (by have := hb1.size; simpa [World.setCell] using this))

theorem pad_len (xs : List Int) : (pad xs).length % 64 = 0 := by
  unfold pad
  rw [List.length_append, fin_len]
  unfold zs
  omega

theorem IsH.sum {w : World} {R : Nat} {xs : List Int} (h : IsH w R (pad xs)) : ∃ l n, HRaw w R (absb (pad xs) ((pad xs).length / 64)) l n := by
  obtain ⟨q, k, h1, h2, h3, l, h4, h5⟩ := h
  have h0 := pad_len xs
  rw [show (pad xs).length / 64 = q by omega]
  exact ⟨l, _, h4⟩

/-- The sum of bytes, by value. -/
def sv (xs : List Int) : Value := row (fun j => .int .u8 ((dig xs).getD j 0)) 20

theorem sv_eq (xs : List Int) : sumv (absb (pad xs) ((pad xs).length / 64)) = sv xs := by
  unfold sumv sv dig bytes20
  exact row_congr _ _ _ (fun i hi => by simp [List.getD, hi])

theorem twinH_any (R : Nat) (xs : List Int) (w : World) (h : IsH w R xs) : Calls Try.prog 14 #[.pointer (some ⟨R, 0, none⟩)] w fun e w' => e = .returned (.pointer (some ⟨w.heap.size, 0, none⟩)) ∧ IsH w' w.heap.size xs ∧ Below w.heap.size w w' := by
  obtain ⟨q, k, h1, h2, h3, l, h4, h5⟩ := h
  refine (twin_any R _ l _ w h4).mono ?_
  rintro e w' ⟨rfl, h, hb⟩
  exact ⟨rfl, ⟨q, k, h1, h2, h3, l, h, h5⟩, hb⟩

theorem newH_any (w : World) : Calls Try.prog 10 #[] w fun e w' => e = .returned (.pointer (some ⟨w.heap.size, 0, none⟩)) ∧ IsH w' w.heap.size [] ∧ Below w.heap.size w w' := by
  refine (new_any w).mono ?_
  rintro e w' ⟨rfl, h, hb⟩
  exact ⟨rfl, ⟨0, 0, rfl, by omega, (fun x hx => by cases hx), _, h, fun j hj => by omega⟩, hb⟩

theorem lenH_any (R : Nat) (xs : List Int) (w : World) (h : IsH w R xs) : Calls Try.prog 12 #[.pointer (some ⟨R, 0, none⟩)] w fun e w' => e = .returned (.int .i64 (xs.length : Int)) ∧ w' = w := by
  obtain ⟨q, k, h1, h2, h3, l, h4, h5⟩ := h
  exact len_any R _ l _ w h4

theorem IsH.cell {w : World} {R : Nat} {xs : List Int} (h : IsH w R xs) : w.cell? ⟨R, 69, none⟩ = some (.int .i64 (xs.length : Int)) := by
  obtain ⟨q, k, h1, h2, h3, l, h4, h5⟩ := h
  exact h4.size

theorem sv_one (xs : List Int) (j : Nat) : (Value.int .u8 ((dig xs).getD j 0)).oneCell' = true := rfl

set_option maxHeartbeats 1000000 in
theorem hsum_any (R : Nat) (xs : List Int) (w : World) (h : IsH w R xs) (hl : xs.length ≤ 900000000) : Calls Try.prog 13 #[.pointer (some ⟨R, 0, none⟩)] w fun e w' => e = .returned (sv xs) ∧ Below w.heap.size w w' := by
  have rA : (w.alloc (Obj.cells #[.int .u8 0, .int .u8 0, .int .u8 0, .int .u8 0, .int .u8 0, .int .u8 0, .int .u8 0, .int .u8 0, .int .u8 0, .int .u8 0, .int .u8 0, .int .u8 0, .int .u8 0, .int .u8 0, .int .u8 0, .int .u8 0, .int .u8 0, .int .u8 0, .int .u8 0, .int .u8 0] 25)).rowIs w.heap.size 25 20 (fun _ => .int .u8 0) := rowIs_rep w (Value.int .u8 0) 20 25
  have bA : Below w.heap.size w (w.alloc (Obj.cells #[.int .u8 0, .int .u8 0, .int .u8 0, .int .u8 0, .int .u8 0, .int .u8 0, .int .u8 0, .int .u8 0, .int .u8 0, .int .u8 0, .int .u8 0, .int .u8 0, .int .u8 0, .int .u8 0, .int .u8 0, .int .u8 0, .int .u8 0, .int .u8 0, .int .u8 0, .int .u8 0] 25)) := (Below.refl _ _).alloc (Nat.le_refl _) _
  have sA : (w.alloc (Obj.cells #[.int .u8 0, .int .u8 0, .int .u8 0, .int .u8 0, .int .u8 0, .int .u8 0, .int .u8 0, .int .u8 0, .int .u8 0, .int .u8 0, .int .u8 0, .int .u8 0, .int .u8 0, .int .u8 0, .int .u8 0, .int .u8 0, .int .u8 0, .int .u8 0, .int .u8 0, .int .u8 0] 25)).heap.size = w.heap.size + 1 := by simp
  have hA := h.keep bA
  have hlt := h.lt
  clear h
  go_enter Try.func13, Try.ntmps13
  go_wp2_with fail
  obtain ⟨W0, hW0⟩ : ∃ W0, W0 = w.alloc (Obj.cells #[.int .u8 0, .int .u8 0, .int .u8 0, .int .u8 0, .int .u8 0, .int .u8 0, .int .u8 0, .int .u8 0, .int .u8 0, .int .u8 0, .int .u8 0, .int .u8 0, .int .u8 0, .int .u8 0, .int .u8 0, .int .u8 0, .int .u8 0, .int .u8 0, .int .u8 0, .int .u8 0] 25) := ⟨_, rfl⟩
  rw [← hW0] at rA bA hA sA ⊢
  clear hW0
  have HSA : Hid (W0.heap.size = w.heap.size + 1) := sA
  clear sA
  refine (twinH_any R xs _ hA).mono ?_
  rintro e w1 ⟨rfl, h1, b1⟩
  have c69 := (hA.keep b1).cell
  have HB1 : Hid (IsH w1 W0.heap.size xs ∧ Below W0.heap.size W0 w1 ∧ W0.rowIs w.heap.size 25 20 (fun _ => .int .u8 0) ∧ Below w.heap.size w W0) := ⟨h1, b1, rA, bA⟩
  clear h1 b1 rA bA hA
  go_wp2_with fail
  obtain ⟨h1, b1, rA, bA⟩ := HB1.out
  refine (ending_any xs.length _ (by omega)).mono ?_
  rintro e w2 ⟨ao, c, rfl, hr2, hn2, b2⟩
  clear c69
  go_wp2_with fail
  have hsep : ∀ ad, ao = some ad → 0 < (fin xs.length).length → ad.block ≠ W0.heap.size := fun ad had _ e => by have := hn2 ad had; have := h1.lt; omega
  have hlen : xs.length + (fin xs.length).length ≤ 1000000000 := by
    have := fin_len xs.length
    have hz : zs xs.length < 64 := Nat.mod_lt _ (by omega)
    omega
  have hW := write_any W0.heap.size ao (fin xs.length).length c xs (fin xs.length) w2 (h1.keep b2) hr2 hsep hlen
  refine hW.mono ?_
  rintro e w3 ⟨rfl, h3, f3⟩
  have HW3 : Hid (IsH w3 W0.heap.size (pad xs) ∧ Fr (fun b => b = W0.heap.size) w2 w3 ∧ Below W0.heap.size W0 w1 ∧ Below w1.heap.size w1 w2 ∧ W0.rowIs w.heap.size 25 20 (fun _ => .int .u8 0) ∧ Below w.heap.size w W0 ∧ W0.heap.size = w.heap.size + 1) := ⟨h3, f3, b1, b2, rA, bA, HSA.out⟩
  clear h3 f3 b1 b2 rA bA hW hsep hlen hr2 hn2 h1 HB1 hl hlt
  go_wp2_with fail
  obtain ⟨h3, f3, b1, b2, rA, bA, sA⟩ := HW3.out
  obtain ⟨l3, n3, h4⟩ := IsH.sum h3
  refine (id_any _ _ l3 n3 _ h4).mono ?_
  rintro e w4 ⟨rfl, b4⟩
  rw [sv_eq]
  have bb : Below (w.heap.size + 1) W0 w4 := ((b1.mono (by omega)).trans (b2.mono (by have := b1.size; omega))).trans (((f3.below _ (by have := b1.size; have := b2.size; omega) (fun i hi e => by omega)).trans (b4.mono (by have := f3.size; have := b1.size; have := b2.size; omega))))
  have r4 : w4.rowIs w.heap.size 25 20 (fun _ => .int .u8 0) := rA.of_block (bb.block _ (by omega))
  have bf : Below w.heap.size w w4 := bA.trans (bb.mono (by omega))
  clear b1 rA bA b2 h3 f3 h4 b4 bb HW3
  unfold sv
  obtain ⟨g, hg⟩ : ∃ g : Nat → Value, g = fun j => .int .u8 ((dig xs).getD j 0) := ⟨_, rfl⟩
  have hg1 : ∀ j, (g j).oneCell' = true := fun j => by rw [hg]; rfl
  have HG : Hid (row g 20 = sv xs) := by rw [hg]; rfl
  rw [← hg]
  clear hg
  go_wp2_with (first | (refine wpList_st rfl 25 _ _ rfl w.heap.size rfl g rfl r4 size25 hg1 ?_; intro w5 h5 f5))
  refine bodyPost_ret (results_row rfl _ rfl h5 Try.underlying25 rfl size25) rfl ⟨by rw [HG.out], ?_⟩
  exact bf.trans (f5.below _ bf.size (fun i hi e => by omega))

set_option maxHeartbeats 1000000 in
theorem sum_any (ao : Option Addr) (n c : Nat) (ys : List Int) (w : World) (hr : Rd w ao n c ys) (hl : ys.length ≤ 900000000) : Calls Try.prog 8 #[.slice ao n c] w fun e w' => e = .returned (sv ys) ∧ Below w.heap.size w w' := by
  have rA : (w.alloc (Obj.cells #[.int .u8 0, .int .u8 0, .int .u8 0, .int .u8 0, .int .u8 0, .int .u8 0, .int .u8 0, .int .u8 0, .int .u8 0, .int .u8 0, .int .u8 0, .int .u8 0, .int .u8 0, .int .u8 0, .int .u8 0, .int .u8 0, .int .u8 0, .int .u8 0, .int .u8 0, .int .u8 0] 25)).rowIs w.heap.size 25 20 (fun _ => .int .u8 0) := rowIs_rep w (Value.int .u8 0) 20 25
  have bA : Below w.heap.size w (w.alloc (Obj.cells #[.int .u8 0, .int .u8 0, .int .u8 0, .int .u8 0, .int .u8 0, .int .u8 0, .int .u8 0, .int .u8 0, .int .u8 0, .int .u8 0, .int .u8 0, .int .u8 0, .int .u8 0, .int .u8 0, .int .u8 0, .int .u8 0, .int .u8 0, .int .u8 0, .int .u8 0, .int .u8 0] 25)) := (Below.refl _ _).alloc (Nat.le_refl _) _
  have sA : (w.alloc (Obj.cells #[.int .u8 0, .int .u8 0, .int .u8 0, .int .u8 0, .int .u8 0, .int .u8 0, .int .u8 0, .int .u8 0, .int .u8 0, .int .u8 0, .int .u8 0, .int .u8 0, .int .u8 0, .int .u8 0, .int .u8 0, .int .u8 0, .int .u8 0, .int .u8 0, .int .u8 0, .int .u8 0] 25)).heap.size = w.heap.size + 1 := by simp
  have hrlt : ∀ ad, ao = some ad → 0 < n → ad.block < w.heap.size := fun ad had hn => by
    have := hr.cells ad had 0 hn
    have := World.block_lt_of_cell? w _ this
    rwa [show (ad.add 0).block = ad.block by unfold Addr.add; split <;> rfl] at this
  have HR : Hid (Rd w ao n c ys ∧ ∀ ad, ao = some ad → 0 < n → ad.block < w.heap.size) := ⟨hr, hrlt⟩
  clear hr hrlt
  go_enter Try.func8, Try.ntmps8
  go_wp2_with fail
  obtain ⟨W0, hW0⟩ : ∃ W0, W0 = w.alloc (Obj.cells #[.int .u8 0, .int .u8 0, .int .u8 0, .int .u8 0, .int .u8 0, .int .u8 0, .int .u8 0, .int .u8 0, .int .u8 0, .int .u8 0, .int .u8 0, .int .u8 0, .int .u8 0, .int .u8 0, .int .u8 0, .int .u8 0, .int .u8 0, .int .u8 0, .int .u8 0, .int .u8 0] 25) := ⟨_, rfl⟩
  rw [← hW0] at rA bA sA ⊢
  clear hW0
  have H0 : Hid (W0.heap.size = w.heap.size + 1 ∧ W0.rowIs w.heap.size 25 20 (fun _ => .int .u8 0) ∧ Below w.heap.size w W0) := ⟨sA, rA, bA⟩
  clear sA rA bA
  refine (newH_any _).mono ?_
  rintro e w1 ⟨rfl, h1, b1⟩
  have H1 : Hid (IsH w1 W0.heap.size [] ∧ Below W0.heap.size W0 w1) := ⟨h1, b1⟩
  clear h1 b1
  go_wp2_with fail
  obtain ⟨h1, b1⟩ := H1.out
  obtain ⟨sA, rA, bA⟩ := H0.out
  have hW := write_any W0.heap.size ao n c [] ys w1 h1 (HR.out.1.keep (bA.trans (b1.mono (by omega)))) (fun ad had hp e => by have := HR.out.2 ad had hp; omega) (by simpa using (by omega : ys.length ≤ 1000000000))
  refine hW.mono ?_
  rintro e w2 ⟨rfl, h2, f2⟩
  rw [List.nil_append] at h2
  have H2 : Hid (IsH w2 W0.heap.size ys ∧ Fr (fun b => b = W0.heap.size) w1 w2) := ⟨h2, f2⟩
  clear h1 b1 hW h2 f2 sA rA bA
  go_wp2_with fail
  obtain ⟨h2, f2⟩ := H2.out
  refine (hsum_any _ ys _ h2 hl).mono ?_
  rintro e w3 ⟨rfl, b3⟩
  obtain ⟨h1, b1⟩ := H1.out
  obtain ⟨sA, rA, bA⟩ := H0.out
  have bb : Below (w.heap.size + 1) W0 w3 := (b1.mono (by omega)).trans ((f2.below _ (by have := b1.size; omega) (fun i hi e => by omega)).trans (b3.mono (by have := f2.size; have := b1.size; omega)))
  have r4 : w3.rowIs w.heap.size 25 20 (fun _ => .int .u8 0) := rA.of_block (bb.block _ (by omega))
  have bf : Below w.heap.size w w3 := bA.trans (bb.mono (by omega))
  clear h1 b1 rA bA sA h2 f2 b3 bb H0 H1 H2 HR hl
  unfold sv
  obtain ⟨g, hg⟩ : ∃ g : Nat → Value, g = fun j => .int .u8 ((dig ys).getD j 0) := ⟨_, rfl⟩
  have hg1 : ∀ j, (g j).oneCell' = true := fun j => by rw [hg]; rfl
  have HG : Hid (row g 20 = sv ys) := by rw [hg]; rfl
  rw [← hg]
  clear hg
  go_wp2_with (first | (refine wpList_st rfl 25 _ _ rfl w.heap.size rfl g rfl r4 size25 hg1 ?_; intro w5 h5 f5))
  refine bodyPost_ret (results_row rfl _ rfl h5 Try.underlying25 rfl size25) rfl ⟨by rw [HG.out], ?_⟩
  exact bf.trans (f5.below _ bf.size (fun i hi e => by omega))

end Go.Proofs.Ytebkgmjmjmaleaa
