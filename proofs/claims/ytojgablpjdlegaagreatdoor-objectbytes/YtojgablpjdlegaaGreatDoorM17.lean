/- ShaWSum, ObK, ObL. -/
import Derived.Test.YtojgablpjdlegaaGreatDoorM16
import Derived.Test.YtojgablpjdlegaaGreatDoorM14
import Derived.Laws.AppendOwn
/- ending, the hash's Sum, Sum. -/
namespace Go.Proofs.YtojgablpjdlegaaGreatDoor.Sha
open Go.RowKit

theorem own_rowIs {w : World} {base e g n : Nat} {xs : List Value} (h : w.ownsRow base e 1 (.slice (some ⟨g, 0, none⟩) n n) n xs) : w.rowIs g e n (fun j => xs.getD j undef) := by
  rcases h.2 with ⟨e, _⟩ | ⟨g', cap, cur, e, _, hh, _, _, hsz, htk⟩
  · cases e
  · cases e
    have hs : cur.size = n := by simpa using hsz
    refine ⟨cur, hh, hs, fun i hi => ?_⟩
    rw [Nat.mul_one, List.take_of_length_le (by simp [hs])] at htk
    rw [← htk]
    simp [hs, hi]

theorem made_rowIs {w : World} {base e g n : Nat} {z : Value} (hz : z.cells = #[z]) (h : w.ownsRow base e 1 (.slice (some ⟨g, 0, none⟩) n n) n (madeCells z.cells (n * 1)).toList) : w.rowIs g e n (fun _ => z) :=
  (own_rowIs h).congr (fun j hj => by
    rw [hz]
    simp [madeCells, List.getD, hj, Nat.mod_one])

theorem fin_byt (n : Nat) : ∀ x ∈ fin n, 0 ≤ x ∧ x < 256 := by
  intro x hx
  unfold fin at hx
  rcases List.mem_append.1 hx with h | h
  · rcases List.mem_cons.1 h with rfl | h
    · omega
    · rw [List.eq_of_mem_replicate h]; omega
  · exact be_byt _ _ x h

theorem fin_len (n : Nat) : (fin n).length = 1 + zs n + 8 := by simp [fin, be_length]; omega

theorem end_cells (z : Nat) (i : Nat) (hi : i < z + 1) : (if i = 0 then Value.int .u8 128 else Value.int .u8 0) = Value.int .u8 ((128 :: List.replicate z (0 : Int)).getD i 0) := by
  cases i with
  | zero => rfl
  | succ i =>
    rw [if_neg (by omega), List.getD_cons_succ]
    simp [List.getD, show i < z by omega]

theorem end_byt (z : Nat) : ∀ x ∈ (128 :: List.replicate z (0 : Int)), 0 ≤ x ∧ x < 256 := by
  intro x hx
  rcases List.mem_cons.1 hx with rfl | h
  · omega
  · rw [List.eq_of_mem_replicate h]; omega

set_option maxHeartbeats 1000000 in
theorem ending_any (n : Nat) (w : World) (hn : n ≤ 1000000000) : Calls Tryz.prog 107 #[.int .i64 (n : Int)] w fun e w' => ∃ ao c, e = .returned (.slice ao (fin n).length c) ∧ Rd w' ao (fin n).length c (fin n) ∧ (∀ ad, ao = some ad → w.heap.size ≤ ad.block) ∧ Below w.heap.size w w' := by
  obtain ⟨i0, hi, hz0, hz1, hz2⟩ := info_parts Tryz.info5
  obtain ⟨z, hz⟩ : ∃ z, z = zs n := ⟨_, rfl⟩
  have hz64 : z < 64 := by rw [hz]; unfold zs; omega
  have HZ : Hid ((z : Int) = (119 - (n : Int)) % 64) := by
    show (z : Int) = _
    rw [hz]
    unfold zs
    omega
  have hfin : fin n = (128 :: List.replicate z 0) ++ be (8 * (n : Int)) 8 := by rw [hz]; rfl
  have HF : Hid (fin n = (128 :: List.replicate z 0) ++ be (8 * (n : Int)) 8) := hfin
  clear hz hfin
  go_enter Tryz.func107, Tryz.ntmps107
  go_wp2_with (first
    | (at_make; refine wpList_make_full _ rfl _ _ 22 rfl 0 5 i0 (.int .u8 0) 1 Tryz.underlying22 hi hz0 hz1 _ _ _ _ (z + 1) rfl rfl (by have := HZ.out; omega) (by have := HZ.out; omega) (by rw [hz2]; omega) (by unfold maxLen; omega) (Nat.zero_le _) ?_; intro w1 hown hgrow; have r1 := made_rowIs rfl hown; have c0 := r1.cell (i := 0) (by omega); have f0 := r1.frozen 0)
    | (go_at_call 143; refine (put64_any (some ⟨w.heap.size, 0, none⟩) (z + 1) (z + 1) (8 * (n : Int)) (128 :: List.replicate z 0) _ (Rd.ofRow (r1.set 0 (.int .u8 128) |>.congr (end_cells z)) (by simp) (end_byt z)) (by omega)).mono ?_; rintro e w2 ⟨rfl, hown2, hb2⟩))
  go_ret
  have hfl : (fin n).length = z + 1 + 8 := by rw [HF.out]; simp [be_length]
  have hbf : ∀ x ∈ (128 :: List.replicate z 0) ++ be (8 * (n : Int)) 8, 0 ≤ x ∧ x < 256 := by rw [← HF.out]; exact fin_byt n
  rw [hfl, HF.out]
  have hb1 : Below w.heap.size w w1 := (Below.refl _ _).grown hgrow (Nat.le_refl _) (fun k hk => by cases hk)
  rw [show (w1.setCell ⟨w.heap.size, 0, none⟩ (.int .u8 128)).heap.size = w1.heap.size by simp [World.setCell]] at hown2
  refine ⟨_, _, rfl, Rd.ofOwn hown2 hbf, fun ad had => ?_, ?_⟩
  · cases had
    exact hb1.size
  · exact (hb1.setCell (p := ⟨w.heap.size, 0, none⟩) (Nat.le_refl _) (.int .u8 128)).trans (hb2.mono (by have := hb1.size; simpa [World.setCell] using this))

theorem pad_len (xs : List Int) : (pad xs).length % 64 = 0 := by
  unfold pad
  rw [List.length_append, fin_len]
  unfold zs
  omega

theorem IsH.sum {w : World} {R : Nat} {xs : List Int} (h : IsH w R (pad xs)) : ∃ l n, HRaw w R (absb (pad xs) ((pad xs).length / 64)) l n := by
  obtain ⟨q, k, h1, h2, h3, l, h4, h5⟩ := h
  have h0 := pad_len xs
  rw [show (pad xs).length / 64 = q by omega]
  exact ⟨l, _, h4⟩

/-- The sum of bytes, by value. -/
def sv (xs : List Int) : Value := row (fun j => .int .u8 ((dig xs).getD j 0)) 20

theorem sv_eq (xs : List Int) : sumv (absb (pad xs) ((pad xs).length / 64)) = sv xs := by
  unfold sumv sv dig bytes20
  exact row_congr _ _ _ (fun i hi => by simp [List.getD, hi])

theorem twinH_any (R : Nat) (xs : List Int) (w : World) (h : IsH w R xs) : Calls Tryz.prog 106 #[.pointer (some ⟨R, 0, none⟩)] w fun e w' => e = .returned (.pointer (some ⟨w.heap.size, 0, none⟩)) ∧ IsH w' w.heap.size xs ∧ Below w.heap.size w w' := by
  obtain ⟨q, k, h1, h2, h3, l, h4, h5⟩ := h
  refine (twin_any R _ l _ w h4).mono ?_
  rintro e w' ⟨rfl, h, hb⟩
  exact ⟨rfl, ⟨q, k, h1, h2, h3, l, h, h5⟩, hb⟩

theorem newH_any (w : World) : Calls Tryz.prog 86 #[] w fun e w' => e = .returned (.pointer (some ⟨w.heap.size, 0, none⟩)) ∧ IsH w' w.heap.size [] ∧ Below w.heap.size w w' := by
  refine (new_any w).mono ?_
  rintro e w' ⟨rfl, h, hb⟩
  exact ⟨rfl, ⟨0, 0, rfl, by omega, (fun x hx => by cases hx), _, h, fun j hj => by omega⟩, hb⟩

theorem lenH_any (R : Nat) (xs : List Int) (w : World) (h : IsH w R xs) : Calls Tryz.prog 233 #[.pointer (some ⟨R, 0, none⟩)] w fun e w' => e = .returned (.int .i64 (xs.length : Int)) ∧ w' = w := by
  obtain ⟨q, k, h1, h2, h3, l, h4, h5⟩ := h
  exact len_any R _ l _ w h4

theorem IsH.cell {w : World} {R : Nat} {xs : List Int} (h : IsH w R xs) : w.cell? ⟨R, 69, none⟩ = some (.int .i64 (xs.length : Int)) := by
  obtain ⟨q, k, h1, h2, h3, l, h4, h5⟩ := h
  exact h4.size

theorem sv_one (xs : List Int) (j : Nat) : (Value.int .u8 ((dig xs).getD j 0)).oneCell' = true := rfl

set_option maxHeartbeats 1000000 in
theorem hsum_any (R : Nat) (xs : List Int) (w : World) (h : IsH w R xs) (hl : xs.length ≤ 900000000) : Calls Tryz.prog 88 #[.pointer (some ⟨R, 0, none⟩)] w fun e w' => e = .returned (sv xs) ∧ Below w.heap.size w w' := by
  have rA : (w.alloc (Obj.cells #[.int .u8 0, .int .u8 0, .int .u8 0, .int .u8 0, .int .u8 0, .int .u8 0, .int .u8 0, .int .u8 0, .int .u8 0, .int .u8 0, .int .u8 0, .int .u8 0, .int .u8 0, .int .u8 0, .int .u8 0, .int .u8 0, .int .u8 0, .int .u8 0, .int .u8 0, .int .u8 0] 27)).rowIs w.heap.size 27 20 (fun _ => .int .u8 0) := rowIs_rep w (Value.int .u8 0) 20 27
  have bA : Below w.heap.size w (w.alloc (Obj.cells #[.int .u8 0, .int .u8 0, .int .u8 0, .int .u8 0, .int .u8 0, .int .u8 0, .int .u8 0, .int .u8 0, .int .u8 0, .int .u8 0, .int .u8 0, .int .u8 0, .int .u8 0, .int .u8 0, .int .u8 0, .int .u8 0, .int .u8 0, .int .u8 0, .int .u8 0, .int .u8 0] 27)) := (Below.refl _ _).alloc (Nat.le_refl _) _
  have sA : (w.alloc (Obj.cells #[.int .u8 0, .int .u8 0, .int .u8 0, .int .u8 0, .int .u8 0, .int .u8 0, .int .u8 0, .int .u8 0, .int .u8 0, .int .u8 0, .int .u8 0, .int .u8 0, .int .u8 0, .int .u8 0, .int .u8 0, .int .u8 0, .int .u8 0, .int .u8 0, .int .u8 0, .int .u8 0] 27)).heap.size = w.heap.size + 1 := by simp
  have hA := h.keep bA
  have hlt := h.lt
  clear h
  go_enter Tryz.func88, Tryz.ntmps88
  go_wp2_with fail
  obtain ⟨W0, hW0⟩ : ∃ W0, W0 = w.alloc (Obj.cells #[.int .u8 0, .int .u8 0, .int .u8 0, .int .u8 0, .int .u8 0, .int .u8 0, .int .u8 0, .int .u8 0, .int .u8 0, .int .u8 0, .int .u8 0, .int .u8 0, .int .u8 0, .int .u8 0, .int .u8 0, .int .u8 0, .int .u8 0, .int .u8 0, .int .u8 0, .int .u8 0] 27) := ⟨_, rfl⟩
  rw [← hW0] at rA bA hA sA ⊢
  clear hW0
  have HSA : Hid (W0.heap.size = w.heap.size + 1) := sA
  clear sA
  refine (twinH_any R xs _ hA).mono ?_
  rintro e w1 ⟨rfl, h1, b1⟩
  have c69 := (hA.keep b1).cell
  have HB1 : Hid (IsH w1 W0.heap.size xs ∧ Below W0.heap.size W0 w1 ∧ W0.rowIs w.heap.size 27 20 (fun _ => .int .u8 0) ∧ Below w.heap.size w W0) := ⟨h1, b1, rA, bA⟩
  clear h1 b1 rA bA hA
  go_wp2_with fail
  obtain ⟨h1, b1, rA, bA⟩ := HB1.out
  refine (ending_any xs.length _ (by omega)).mono ?_
  rintro e w2 ⟨ao, c, rfl, hr2, hn2, b2⟩
  clear c69
  go_wp2_with fail
  have hsep : ∀ ad, ao = some ad → 0 < (fin xs.length).length → ad.block ≠ W0.heap.size := fun ad had _ e => by have := hn2 ad had; have := h1.lt; omega
  have hlen : xs.length + (fin xs.length).length ≤ 1000000000 := by
    have := fin_len xs.length
    have hz : zs xs.length < 64 := Nat.mod_lt _ (by omega)
    omega
  have hW := write_any W0.heap.size ao (fin xs.length).length c xs (fin xs.length) w2 (h1.keep b2) hr2 hsep hlen
  refine hW.mono ?_
  rintro e w3 ⟨rfl, h3, f3⟩
  have HW3 : Hid (IsH w3 W0.heap.size (pad xs) ∧ Fr (fun b => b = W0.heap.size) w2 w3 ∧ Below W0.heap.size W0 w1 ∧ Below w1.heap.size w1 w2 ∧ W0.rowIs w.heap.size 27 20 (fun _ => .int .u8 0) ∧ Below w.heap.size w W0 ∧ W0.heap.size = w.heap.size + 1) := ⟨h3, f3, b1, b2, rA, bA, HSA.out⟩
  clear h3 f3 b1 b2 rA bA hW hsep hlen hr2 hn2 h1 HB1 hl hlt
  go_wp2_with fail
  obtain ⟨h3, f3, b1, b2, rA, bA, sA⟩ := HW3.out
  obtain ⟨l3, n3, h4⟩ := IsH.sum h3
  refine (id_any _ _ l3 n3 _ h4).mono ?_
  rintro e w4 ⟨rfl, b4⟩
  rw [sv_eq]
  have bb : Below (w.heap.size + 1) W0 w4 := ((b1.mono (by omega)).trans (b2.mono (by have := b1.size; omega))).trans (((f3.below _ (by have := b1.size; have := b2.size; omega) (fun i hi e => by omega)).trans (b4.mono (by have := f3.size; have := b1.size; have := b2.size; omega))))
  have r4 : w4.rowIs w.heap.size 27 20 (fun _ => .int .u8 0) := rA.of_block (bb.block _ (by omega))
  have bf : Below w.heap.size w w4 := bA.trans (bb.mono (by omega))
  clear b1 rA bA b2 h3 f3 h4 b4 bb HW3
  unfold sv
  obtain ⟨g, hg⟩ : ∃ g : Nat → Value, g = fun j => .int .u8 ((dig xs).getD j 0) := ⟨_, rfl⟩
  have hg1 : ∀ j, (g j).oneCell' = true := fun j => by rw [hg]; rfl
  have HG : Hid (row g 20 = sv xs) := by rw [hg]; rfl
  rw [← hg]
  clear hg
  go_wp2_with (first | (refine wpList_st rfl 27 _ _ rfl w.heap.size rfl g rfl r4 size25 hg1 ?_; intro w5 h5 f5))
  refine bodyPost_ret (results_row rfl _ rfl h5 Tryz.underlying27 rfl size25) rfl ⟨by rw [HG.out], ?_⟩
  exact bf.trans (f5.below _ bf.size (fun i hi e => by omega))

set_option maxHeartbeats 1000000 in
theorem sum_any (ao : Option Addr) (n c : Nat) (ys : List Int) (w : World) (hr : Rd w ao n c ys) (hl : ys.length ≤ 900000000) : Calls Tryz.prog 51 #[.slice ao n c] w fun e w' => e = .returned (sv ys) ∧ Below w.heap.size w w' := by
  have rA : (w.alloc (Obj.cells #[.int .u8 0, .int .u8 0, .int .u8 0, .int .u8 0, .int .u8 0, .int .u8 0, .int .u8 0, .int .u8 0, .int .u8 0, .int .u8 0, .int .u8 0, .int .u8 0, .int .u8 0, .int .u8 0, .int .u8 0, .int .u8 0, .int .u8 0, .int .u8 0, .int .u8 0, .int .u8 0] 27)).rowIs w.heap.size 27 20 (fun _ => .int .u8 0) := rowIs_rep w (Value.int .u8 0) 20 27
  have bA : Below w.heap.size w (w.alloc (Obj.cells #[.int .u8 0, .int .u8 0, .int .u8 0, .int .u8 0, .int .u8 0, .int .u8 0, .int .u8 0, .int .u8 0, .int .u8 0, .int .u8 0, .int .u8 0, .int .u8 0, .int .u8 0, .int .u8 0, .int .u8 0, .int .u8 0, .int .u8 0, .int .u8 0, .int .u8 0, .int .u8 0] 27)) := (Below.refl _ _).alloc (Nat.le_refl _) _
  have sA : (w.alloc (Obj.cells #[.int .u8 0, .int .u8 0, .int .u8 0, .int .u8 0, .int .u8 0, .int .u8 0, .int .u8 0, .int .u8 0, .int .u8 0, .int .u8 0, .int .u8 0, .int .u8 0, .int .u8 0, .int .u8 0, .int .u8 0, .int .u8 0, .int .u8 0, .int .u8 0, .int .u8 0, .int .u8 0] 27)).heap.size = w.heap.size + 1 := by simp
  have hrlt : ∀ ad, ao = some ad → 0 < n → ad.block < w.heap.size := fun ad had hn => by
    have := hr.cells ad had 0 hn
    have := World.block_lt_of_cell? w _ this
    rwa [show (ad.add 0).block = ad.block by unfold Addr.add; split <;> rfl] at this
  have HR : Hid (Rd w ao n c ys ∧ ∀ ad, ao = some ad → 0 < n → ad.block < w.heap.size) := ⟨hr, hrlt⟩
  clear hr hrlt
  go_enter Tryz.func51, Tryz.ntmps51
  go_wp2_with fail
  obtain ⟨W0, hW0⟩ : ∃ W0, W0 = w.alloc (Obj.cells #[.int .u8 0, .int .u8 0, .int .u8 0, .int .u8 0, .int .u8 0, .int .u8 0, .int .u8 0, .int .u8 0, .int .u8 0, .int .u8 0, .int .u8 0, .int .u8 0, .int .u8 0, .int .u8 0, .int .u8 0, .int .u8 0, .int .u8 0, .int .u8 0, .int .u8 0, .int .u8 0] 27) := ⟨_, rfl⟩
  rw [← hW0] at rA bA sA ⊢
  clear hW0
  have H0 : Hid (W0.heap.size = w.heap.size + 1 ∧ W0.rowIs w.heap.size 27 20 (fun _ => .int .u8 0) ∧ Below w.heap.size w W0) := ⟨sA, rA, bA⟩
  clear sA rA bA
  refine (newH_any _).mono ?_
  rintro e w1 ⟨rfl, h1, b1⟩
  have H1 : Hid (IsH w1 W0.heap.size [] ∧ Below W0.heap.size W0 w1) := ⟨h1, b1⟩
  clear h1 b1
  go_wp2_with fail
  obtain ⟨h1, b1⟩ := H1.out
  obtain ⟨sA, rA, bA⟩ := H0.out
  have hW := write_any W0.heap.size ao n c [] ys w1 h1 (HR.out.1.keep (bA.trans (b1.mono (by omega)))) (fun ad had hp e => by have := HR.out.2 ad had hp; omega) (by simpa using (by omega : ys.length ≤ 1000000000))
  refine hW.mono ?_
  rintro e w2 ⟨rfl, h2, f2⟩
  rw [List.nil_append] at h2
  have H2 : Hid (IsH w2 W0.heap.size ys ∧ Fr (fun b => b = W0.heap.size) w1 w2) := ⟨h2, f2⟩
  clear h1 b1 hW h2 f2 sA rA bA
  go_wp2_with fail
  obtain ⟨h2, f2⟩ := H2.out
  refine (hsum_any _ ys _ h2 hl).mono ?_
  rintro e w3 ⟨rfl, b3⟩
  obtain ⟨h1, b1⟩ := H1.out
  obtain ⟨sA, rA, bA⟩ := H0.out
  have bb : Below (w.heap.size + 1) W0 w3 := (b1.mono (by omega)).trans ((f2.below _ (by have := b1.size; omega) (fun i hi e => by omega)).trans (b3.mono (by have := f2.size; have := b1.size; omega)))
  have r4 : w3.rowIs w.heap.size 27 20 (fun _ => .int .u8 0) := rA.of_block (bb.block _ (by omega))
  have bf : Below w.heap.size w w3 := bA.trans (bb.mono (by omega))
  clear h1 b1 rA bA sA h2 f2 b3 bb H0 H1 H2 HR hl
  unfold sv
  obtain ⟨g, hg⟩ : ∃ g : Nat → Value, g = fun j => .int .u8 ((dig ys).getD j 0) := ⟨_, rfl⟩
  have hg1 : ∀ j, (g j).oneCell' = true := fun j => by rw [hg]; rfl
  have HG : Hid (row g 20 = sv ys) := by rw [hg]; rfl
  rw [← hg]
  clear hg
  go_wp2_with (first | (refine wpList_st rfl 27 _ _ rfl w.heap.size rfl g rfl r4 size25 hg1 ?_; intro w5 h5 f5))
  refine bodyPost_ret (results_row rfl _ rfl h5 Tryz.underlying27 rfl size25) rfl ⟨by rw [HG.out], ?_⟩
  exact bf.trans (f5.below _ bf.size (fun i hi e => by omega))

end Go.Proofs.YtojgablpjdlegaaGreatDoor.Sha

/- Canonical bytes, names, kinds. -/
namespace Go.Proofs.YtojgablpjdlegaaGreatDoor
open Go.RowKit

theorem grow_b (w : World) (k : Nat) (os : Array Obj) : Below w.heap.size w (Sort.grow (w.drewN k) os) :=
  ⟨rfl, rfl, rfl, by show w.heap.size ≤ (w.heap ++ os).size; simp, fun i hi => by show (w.heap ++ os)[i]? = w.heap[i]?; exact Array.getElem?_append_left hi⟩

theorem itoa_any (n : Nat) (w : World) (hg : Gs w) (hn : n ≤ 1000000000) : Calls Tryz.prog 49 #[.int .i64 n] w fun e w' => e = .returned (sv (Lib.decDigits n)) ∧ Below w.heap.size w w' := by
  refine (Any.strconv_Itoa Tryz.itoa (n : Int) (by omega) (by omega) w hg.pow).mono ?_
  rintro e w' ⟨rfl, k, os, rfl⟩
  refine ⟨?_, grow_b w k os⟩
  unfold Lib.itoa
  rw [if_neg (by omega)]
  rfl

/-- The kind that has the word. -/
def kof (l : List UInt8) : Int × Bool := if wl 1 = l then (1, true) else if wl 2 = l then (2, true) else if wl 3 = l then (3, true) else if wl 4 = l then (4, true) else (0, false)

set_option maxRecDepth 100000 in
theorem kindOf_any (l : List UInt8) (w : World) (hg : Gs w) : Calls Tryz.prog 19 #[sv l] w fun e w' => e = .returned (.tuple #[.int .i64 (kof l).1, .bool (kof l).2]) ∧ w' = w := by
  have c1 : w.cell? ⟨0, 1, none⟩ = some (sv (wl 1)) := hg.words 1 (by omega)
  have c2 : w.cell? ⟨0, 2, none⟩ = some (sv (wl 2)) := hg.words 2 (by omega)
  have c3 : w.cell? ⟨0, 3, none⟩ = some (sv (wl 3)) := hg.words 3 (by omega)
  have c4 : w.cell? ⟨0, 4, none⟩ = some (sv (wl 4)) := hg.words 4 (by omega)
  obtain ⟨r, hr⟩ : ∃ r, r = kof l := ⟨_, rfl⟩
  rw [← hr]
  unfold kof at hr
  generalize wl 1 = a1 at *
  generalize wl 2 = a2 at *
  generalize wl 3 = a3 at *
  generalize wl 4 = a4 at *
  have HR : Hid (r = if a1 = l then (1, true) else if a2 = l then (2, true) else if a3 = l then (3, true) else if a4 = l then (4, true) else (0, false)) := hr
  clear hg hr
  go_enter Tryz.func19, Tryz.ntmps19
  go_wp2_with fail
  go_loopw [4] (fun kv wr => wr = w ∧ ((kv = .int .i64 1) ∨ (kv = .int .i64 2 ∧ Hid (¬ a1 = l)) ∨ (kv = .int .i64 3 ∧ Hid (¬ a1 = l) ∧ Hid (¬ a2 = l)) ∨ (kv = .int .i64 4 ∧ Hid (¬ a1 = l) ∧ Hid (¬ a2 = l) ∧ Hid (¬ a3 = l)) ∨ (kv = .int .i64 5 ∧ Hid (¬ a1 = l) ∧ Hid (¬ a2 = l) ∧ Hid (¬ a3 = l) ∧ Hid (¬ a4 = l)))) (fun kv _ => 5 - (intOf kv).toNat)
  case atStart => exact ⟨rfl, .inl rfl⟩
  case round =>
    obtain ⟨hwr, rfl | ⟨rfl, N1⟩ | ⟨rfl, N1, N2⟩ | ⟨rfl, N1, N2, N3⟩ | ⟨rfl, N1, N2, N3, N4⟩⟩ := hrel
    all_goals subst wr
    · by_cases h : a1 = l
      · have b : (a1 == l) = true := by simp [h]
        have HK : Hid (r = (1, true)) := by show _ = _; rw [HR.out, if_pos h]
        clear h
        go_wp2
        go_ret2
        exact ⟨by rw [HK.out]; rfl, rfl⟩
      · have b : (a1 == l) = false := by simp [h]
        have HN : Hid (¬ a1 = l) := h
        clear h
        go_wp2
        go_roundw
        case measure => simp [intOf]
        case rel => exact ⟨trivial, .inr (.inl ⟨rfl, HN⟩)⟩
    · by_cases h : a2 = l
      · have b : (a2 == l) = true := by simp [h]
        have HK : Hid (r = (2, true)) := by show _ = _; rw [HR.out, if_neg N1.out, if_pos h]
        clear h
        go_wp2
        go_ret2
        exact ⟨by rw [HK.out]; rfl, rfl⟩
      · have b : (a2 == l) = false := by simp [h]
        have HN : Hid (¬ a2 = l) := h
        clear h
        go_wp2
        go_roundw
        case measure => simp [intOf]
        case rel => exact ⟨trivial, .inr (.inr (.inl ⟨rfl, N1, HN⟩))⟩
    · by_cases h : a3 = l
      · have b : (a3 == l) = true := by simp [h]
        have HK : Hid (r = (3, true)) := by show _ = _; rw [HR.out, if_neg N1.out, if_neg N2.out, if_pos h]
        clear h
        go_wp2
        go_ret2
        exact ⟨by rw [HK.out]; rfl, rfl⟩
      · have b : (a3 == l) = false := by simp [h]
        have HN : Hid (¬ a3 = l) := h
        clear h
        go_wp2
        go_roundw
        case measure => simp [intOf]
        case rel => exact ⟨trivial, .inr (.inr (.inr (.inl ⟨rfl, N1, N2, HN⟩)))⟩
    · by_cases h : a4 = l
      · have b : (a4 == l) = true := by simp [h]
        have HK : Hid (r = (4, true)) := by show _ = _; rw [HR.out, if_neg N1.out, if_neg N2.out, if_neg N3.out, if_pos h]
        clear h
        go_wp2
        go_ret2
        exact ⟨by rw [HK.out]; rfl, rfl⟩
      · have b : (a4 == l) = false := by simp [h]
        have HN : Hid (¬ a4 = l) := h
        clear h
        go_wp2
        go_roundw
        case measure => simp [intOf]
        case rel => exact ⟨trivial, .inr (.inr (.inr (.inr (⟨rfl, N1, N2, N3, HN⟩))))⟩
    · have HK : Hid (r = (0, false)) := by show _ = _; rw [HR.out, if_neg N1.out, if_neg N2.out, if_neg N3.out, if_neg N4.out]
      go_wp2
      go_ret2
      exact ⟨by rw [HK.out]; rfl, rfl⟩

end Go.Proofs.YtojgablpjdlegaaGreatDoor

/- A text appended to bytes of one's own. -/
namespace Go.Proofs.YtojgablpjdlegaaGreatDoor
open Go.RowKit

/-- A text's bytes. -/
def tn (l : List UInt8) : List Int := l.map (fun b => (b.toNat : Int))

theorem tn_len (l : List UInt8) : (tn l).length = l.length := by simp [tn]

theorem tn_byt (l : List UInt8) : ∀ x ∈ tn l, 0 ≤ x ∧ x < 256 := by
  intro x hx
  simp only [tn, List.mem_map] at hx
  obtain ⟨b, _, rfl⟩ := hx
  have := b.toNat_lt
  omega

theorem tb_tn (l : List UInt8) : tb (tn l) = l := by
  unfold tb tn
  rw [List.map_map]
  conv => rhs; rw [← List.map_id l]
  refine List.map_congr_left (fun b _ => ?_)
  show UInt8.ofNat ((b.toNat : Int)).toNat = b
  rw [Int.toNat_natCast, UInt8.ofNat_toNat]

theorem tn_app (a b : List UInt8) : tn (a ++ b) = tn a ++ tn b := by simp [tn]

/-- The cells of a text. -/
theorem tn_cells (l : List UInt8) : (tn l).map (Value.int .u8) = l.map (fun b => Value.int .u8 (b.toNat : Int)) := by simp [tn]

theorem first_str (l : List UInt8) (w : World) : (Builtin.firstCells 1 l.length (sv l)).run Tryz.prog w = .ok ((tn l).map (Value.int .u8)).toArray w := by
  rw [tn_cells]
  simp [Builtin.firstCells]

theorem app3 (A B : List Value) (Z : Array Value) : A.toArray ++ (B.toArray ++ Z) = (A ++ B).toArray ++ Z := by
  apply Array.ext'
  simp

theorem run_appS (base : Nat) (ty : TypeId) (v : Value) (n : Nat) (xs : List Int) (l : List UInt8) (w : World) (hown : w.ownsRow base 5 1 v n (xs.map (Value.int .u8))) (hn : n + l.length ≤ 100000000) (hbase : base ≤ w.heap.size) :
    ∃ v' w', (Builtin.append_ #[22, 9] ty #[v, sv l]).run Tryz.prog w = .ok v' w' ∧ w'.ownsRow base 5 1 v' (n + l.length) ((xs ++ tn l).map (Value.int .u8)) ∧ w.grownBy w' v.ownBlock := by
  obtain ⟨i0, hi, hz0, hz1, hz2⟩ := info_parts Tryz.info5
  have hu : ∀ w, Sem.run Tryz.prog (underlying 9) w = .ok .string w := run_underlying Tryz.underlying9
  have hlen : ((xs ++ tn l).map (Value.int .u8)).length = (n + l.length) * 1 := by
    have := hown.1
    simp only [List.length_map, List.length_append, tn_len] at this ⊢
    omega
  have h1 : ∀ u ∈ (tn l).map (Value.int .u8), u.oneCell' = true := fun u hu => by
    obtain ⟨x, _, rfl⟩ := List.mem_map.1 hu
    rfl
  have grown : ∀ (old : Nat), old < n + l.length → ∀ (row : Option Nat),
      (w.drew.alloc (.cells ((xs.map (Value.int .u8)).toArray ++ ((tn l).map (Value.int .u8)).toArray ++ Builtin.zeroCells (Value.cells (.int .u8 0)) (grownCap w (n + l.length) old 5 - (n + l.length))) 5)).ownsRow base 5 1
        (.slice (some ⟨w.heap.size, 0, none⟩) (n + l.length) (grownCap w (n + l.length) old 5)) (n + l.length) ((xs ++ tn l).map (Value.int .u8)) ∧
      w.grownBy (w.drew.alloc (.cells ((xs.map (Value.int .u8)).toArray ++ ((tn l).map (Value.int .u8)).toArray ++ Builtin.zeroCells (Value.cells (.int .u8 0)) (grownCap w (n + l.length) old 5 - (n + l.length))) 5)) row := by
    intro old ho row
    have hge := grownCap_ge w (n + l.length) old 5
    have hcm : grownCap w (n + l.length) old 5 ≤ maxLen := grownCap_le_maxLen w (n + l.length) old 5 (by unfold maxLen; omega)
    refine ⟨⟨hlen, .inr ⟨w.heap.size, _, _, rfl, hbase, heap_alloc_new w.drew _, hge, hcm, ?_, ?_⟩⟩, ⟨rfl, rfl, rfl, by simp, fun k hk _ => by show (w.heap.push _)[k]? = w.heap[k]?; rw [Array.getElem?_push_lt hk, Array.getElem?_eq_getElem hk]⟩⟩
    · have := hown.1
      simp only [List.length_map] at this
      simp only [Array.size_append, List.size_toArray, size_zeroCells, List.length_map, tn_len]
      rw [show (Value.cells (.int .u8 0)).size = 1 from rfl]
      omega
    · simp only [Array.toList_append]
      rw [← List.map_append, ← hlen]
      exact List.take_left
  have hfc := fun W => first_str l W
  rcases hown.2 with ⟨rfl, rfl⟩ | ⟨g, cap, cur, rfl, hbg, hg, hnc, hcm, hcs, htake⟩
  · have hx : xs = [] := List.eq_nil_of_length_eq_zero (by simpa using hown.1)
    subst hx
    by_cases hm : l.length = 0
    · have hl0 : l = [] := List.eq_nil_of_length_eq_zero hm
      subst hl0
      refine ⟨.slice none 0 0, w, ?_, World.ownsRow_nil w base 5 1, ⟨rfl, rfl, rfl, Nat.le_refl _, fun _ _ _ => rfl⟩⟩
      simp [Builtin.append_, run_underlying Tryz.underlying22, hu, sizeOf, typeInfo, hi, Builtin.lenOf, Builtin.firstCells]
      exact if_pos rfl
    · have hr := run_append_nil_string (P := Tryz.prog) w 22 9 ty 5 i0 (.int .u8 0) Tryz.underlying22 Tryz.underlying9 hi hz0 ⟨l.toArray⟩ (by rw [size_sv]; omega) (by rw [size_sv]; omega) (by rw [size_sv, hz2]; omega)
      have hgr := grown 0 (by omega) (Value.ownBlock (.slice none 0 0))
      simp only [Nat.zero_add, List.nil_append, List.map_nil, Array.empty_append, tn_cells, size_sv] at hgr hr ⊢
      rw [show (Array.map (fun b : UInt8 => Value.int IntKind.u8 (b.toNat : Int)) l.toArray) = (List.map (fun b : UInt8 => Value.int IntKind.u8 (b.toNat : Int)) l).toArray by simp] at hr
      exact ⟨_, _, hr, hgr.1, hgr.2⟩
  · by_cases hroom : n + l.length ≤ cap
    · have hfit : n + ((tn l).map (Value.int .u8)).length ≤ cur.size := by rw [List.length_map, tn_len, hcs]; omega
      have hst := run_storeCells_at Tryz.prog g n 5 ((tn l).map (Value.int .u8)) 0 cur w hg (by simpa using hfit) h1
      simp only [Nat.add_zero] at hst
      obtain ⟨R, hR⟩ : ∃ R, R = (cur.toList.take n ++ (tn l).map (Value.int .u8) ++ cur.toList.drop (n + ((tn l).map (Value.int .u8)).length)).toArray := ⟨_, rfl⟩
      have hrun : (Builtin.append_ #[22, 9] ty #[.slice (some ⟨g, 0, none⟩) n cap, sv l]).run Tryz.prog w = .ok (.slice (some ⟨g, 0, none⟩) (n + l.length) cap) (w.setRow g R) := by
        rw [hR]
        simp [Builtin.append_, run_underlying Tryz.underlying22, hu, sizeOf, typeInfo, hi, hz1, Builtin.lenOf, size_sv, hroom, hfc, Addr.add_lit]
        rw [hst]
        simp
      have hRs : R.size = cap * 1 := by
        rw [hR]
        simp only [List.size_toArray, List.length_append, List.length_take, List.length_drop, Array.length_toList]
        omega
      have hRt : R.toList.take ((n + l.length) * 1) = (xs ++ tn l).map (Value.int .u8) := by
        have ht : cur.toList.take n = xs.map (Value.int .u8) := by simpa using htake
        rw [hR, ht, ← List.map_append, ← hlen]
        exact List.take_left
      exact ⟨_, _, hrun, ⟨hlen, .inr ⟨g, cap, R, rfl, hbg, setRow_heap w g cur _ 5 _ hg, hroom, hcm, hRs, hRt⟩⟩, ⟨rfl, rfl, rfl, by simp, fun k _ hk => setRow_other w g k _ (fun e => hk (by simp [Value.ownBlock, e]))⟩⟩
    · have holds : ∀ j u, (xs.map (Value.int .u8))[j]? = some u → w.cell? ((⟨g, 0, none⟩ : Addr).add j) = some u := hown.cells (g := g) rfl
      have hgr := grown cap (by omega) (Value.ownBlock (.slice (some ⟨g, 0, none⟩) n cap))
      have hfo := run_firstCells_some (P := Tryz.prog) w.drew 1 n ⟨g, 0, none⟩ n cap (xs.map (Value.int .u8)) hown.1 (by simpa using holds)
      have h63' : ¬ (9223372036854775807 < ((n : Int) + (l.length : Int))) := by omega
      have h48' : ¬ (281474976710656 < Builtin.nextslicecap (n + l.length) cap) := by have := growslice_fits (need := n + l.length) (old := cap) (bytes := 1) (by omega) (by omega); omega
      refine ⟨_, _, ?_, hgr.1, hgr.2⟩
      simp [Builtin.append_, run_underlying Tryz.underlying22, hu, sizeOf, typeInfo, zeroValue, hi, hz0, hz1, hz2, Builtin.lenOf, size_sv, hroom, h63', h48', Question.forced, hfc, hfo, newRow, grownCap]
      rw [app3]

/-- append(out, s...) of a text, out being one's own. -/
theorem wpList_appS {w : World} {ops : Array Oper} {rest : List Oper} {o : Oper} {a : Act} {Q : Exit → Act → World → Prop} (hgd : o.guard = none) (s x : Operand)
    (ho : o.op = .call { callee := .builtin .append, args := #[s, x], argTypes := #[22, 9] })
    (base n : Nat) (v : Value) (xs : List Int) (l : List UInt8) (hs : a.eval s = v) (hx : a.eval x = sv l) (hown : w.ownsRow base 5 1 v n (xs.map (Value.int .u8))) (hn : n + l.length ≤ 100000000) (hbase : base ≤ w.heap.size)
    (h : ∀ v' w', w'.ownsRow base 5 1 v' (n + l.length) ((xs ++ tn l).map (Value.int .u8)) → w.grownBy w' v.ownBlock → wpList Tryz.prog ops Q rest (a.put o.dst v') w') :
    wpList Tryz.prog ops Q (o :: rest) a w := by
  obtain ⟨v', w', hrun, ho', hg⟩ := run_appS base o.type v n xs l w hown hn hbase
  refine wpList_plain hgd fun K hK => ?_
  unfold Oper.wp
  simp [execOp, ho, resolve, invoke, builtin, hs, hx, hrun, Result.andThen]
  exact hK _ _ (h v' w' ho' hg)

end Go.Proofs.YtojgablpjdlegaaGreatDoor
