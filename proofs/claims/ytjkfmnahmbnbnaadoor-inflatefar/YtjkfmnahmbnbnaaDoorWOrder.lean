/- inOrder. -/
import Derived.Test.YtjkfmnahmbnbnaaDoorWNumb
namespace Go.Proofs.YtjkfmnahmbnbnaaDoor
open Go.RowKit

theorem nbp_lt (L : Nat → Int) (n i : Nat) (hi : i < n) (h0 : 0 < L i) (h15 : L i ≤ 15) : 0 ≤ nb L (pl L n) i ∧ nb L (pl L n) i < pl L n 16 := by
  obtain ⟨x, hx⟩ := Int.eq_ofNat_of_zero_le (show 0 ≤ L i by omega)
  rw [nb_at L (pl L n) i x hx (by omega), C_pos L i x (by omega)]
  have h1 := (pl_nn L n x).1
  have h2 := (cn_nn L x i).1
  have h3 := cn_lt L x i n hi hx
  have h4 := pl_mono L n (x + 1) 16 (by omega)
  simp only [pl] at h4
  rw [C_pos L n x (by omega)] at h4
  simp only [pl]
  omega

theorem nbp_rise (L : Nat → Int) (n i k : Nat) (hi : i < n) (h0 : 0 < L i) (h1 : L i < L k) (h15 : L k ≤ 15) : nb L (pl L n) i < nb L (pl L n) k := by
  obtain ⟨x, hx⟩ := Int.eq_ofNat_of_zero_le (show 0 ≤ L i by omega)
  obtain ⟨y, hy⟩ := Int.eq_ofNat_of_zero_le (show 0 ≤ L k by omega)
  rw [nb_at L (pl L n) i x hx (by omega), nb_at L (pl L n) k y hy (by omega), C_pos L i x (by omega), C_pos L k y (by omega)]
  have h2 := (cn_nn L y k).1
  have h3 := cn_lt L x i n hi hx
  have h4 := pl_mono L n (x + 1) y (by omega)
  simp only [pl] at h4
  rw [C_pos L n x (by omega)] at h4
  omega

theorem nbp_inj (L : Nat → Int) (n i k : Nat) (hi : i < n) (hk : k < n) (h0 : 0 < L i) (h1 : 0 < L k) (h15 : L i ≤ 15) (k15 : L k ≤ 15) (e : nb L (pl L n) i = nb L (pl L n) k) : i = k := by
  rcases Int.lt_trichotomy (L i) (L k) with h | h | h
  · have := nbp_rise L n i k hi h0 h k15; omega
  · obtain ⟨x, hx⟩ := Int.eq_ofNat_of_zero_le (show 0 ≤ L i by omega)
    have hy : L k = (x : Int) := by omega
    rw [nb_at L (pl L n) i x hx (by omega), nb_at L (pl L n) k x hy (by omega), C_pos L i x (by omega), C_pos L k x (by omega)] at e
    rcases Nat.lt_trichotomy i k with h' | h' | h'
    · have := cn_lt L x i k h' hx; omega
    · exact h'
    · have := cn_lt L x k i h' hy; omega
  · have := nbp_rise L n k i hk h1 h h15; omega

/-- The symbols of which the first k are put. -/
def Sym (L : Nat → Int) (n k : Nat) (sy : Nat → Int) : Prop := ∀ i, i < k → 0 < L i → sy (nb L (pl L n) i).toNat = i

theorem Sym.put {L : Nat → Int} {n k : Nat} {sy : Nat → Int} (h : Sym L n k sy) (hL : ∀ j, j < n → Lm (L j)) (hk : k < n) (h0 : 0 < L k) : Sym L n (k + 1) (fun j => if j = (nb L (pl L n) k).toNat then (k : Int) else sy j) := by
  intro i hi hp
  have hk15 := (hL k hk).2
  have bk := nbp_lt L n k hk h0 hk15
  by_cases e : i = k
  · subst e
    simp only [if_pos]
  · have hin : i < n := by omega
    have hi15 := (hL i hin).2
    have bi := nbp_lt L n i hin hp hi15
    simp only
    rw [if_neg, h i (by omega) hp]
    intro e'
    exact e (nbp_inj L n i k hin hk hp h0 hi15 hk15 (by omega))

theorem Sym.skip {L : Nat → Int} {n k : Nat} {sy : Nat → Int} (h : Sym L n k sy) (h0 : L k = 0) : Sym L n (k + 1) sy := by
  intro i hi hp
  by_cases e : i = k
  · subst e; omega
  · exact h i (by omega) hp

set_option maxRecDepth 100000 in
set_option maxHeartbeats 1000000 in
theorem order_any (ao : Option Addr) (n c : Nat) (L : Nat → Int) (w : World) (h : Ri w ao n c L) (hn : n ≤ 288) (hL : ∀ j, j < n → Lm (L j)) (M : Nat) (hM : pl L n 16 = M) :
    Calls Tryd.prog 53 #[.slice ao n c, tal (C L n)] w fun e w' => ∃ g sy, e = .returned (.slice (some ⟨g, 0, none⟩) M M) ∧ w'.rowIs g 3 M (fun j => .int .i64 (sy j)) ∧ Sym L n n sy ∧ w.heap.size ≤ g ∧ Below w.heap.size w w' := by
  obtain ⟨i0, hi, hz0, hz1, hz2⟩ := info_parts Tryd.info3
  have z64 := zero64
  have r0 := box_row w (C L n)
  go_enter Tryd.func53, Tryd.ntmps53
  have r1 := r0.alloc (Obj.cells (vals (fun _ => Value.int IntKind.i64 0) 16).toArray 93)
  go_wp2_with (refine wpList_ld0 rfl 93 _ rfl w.heap.size rfl _ r1 16 (by omega) Tryd.underlying93 rfl size64 ?_)
  have r2 : ((w.alloc (Obj.cells (vals (fun j => Value.int IntKind.i64 (C L n j)) 16).toArray 93)).alloc (Obj.cells (vals (fun _ => Value.int IntKind.i64 0) 16).toArray 93)).rowIs (w.heap.size + 1) 93 16 (fun j => .int .i64 (if j < 0 then pl L n j else 0)) := by
    have := box_row (w.alloc (Obj.cells (vals (fun j => Value.int IntKind.i64 (C L n j)) 16).toArray 93)) (fun _ => 0)
    exact (by simpa using this : World.rowIs _ (w.heap.size + 1) 93 16 (fun _ => Value.int .i64 0)).congr (fun j _ => by rw [if_neg (by omega)])
  have b2 : Below w.heap.size w ((w.alloc (Obj.cells (vals (fun j => Value.int IntKind.i64 (C L n j)) 16).toArray 93)).alloc (Obj.cells (vals (fun _ => Value.int IntKind.i64 0) 16).toArray 93)) := ((Below.refl _ _).alloc (Nat.le_refl _) _).alloc (by simp) _
  generalize ((w.alloc (Obj.cells (vals (fun j => Value.int IntKind.i64 (C L n j)) 16).toArray 93)).alloc (Obj.cells (vals (fun _ => Value.int IntKind.i64 0) 16).toArray 93)) = W at *
  obtain ⟨B, hB⟩ : ∃ B, B = w.heap.size := ⟨_, rfl⟩
  rw [← hB] at r2 ⊢
  have HB : Hid (B = w.heap.size) := hB
  have HM : Hid (pl L n 16 = M) := hM
  have hpl := (pl_nn L n 16).2
  have hM2 : M ≤ 16 * 288 := by omega
  clear hB r0 r1 z64 hM hpl
  have hsz : ∀ w, (sizeOf 3).run Tryd.prog w = .ok 1 w := fun w => by simp [go_sem]
  have hag : ∀ w, (isAgg 3).run Tryd.prog w = .ok false w := fun w => by simp [go_sem]
  go_loopw [6, 7, 8, 13] (fun tot _ _ i wr => ∃ k : Nat, k ≤ 16 ∧ i = .int .i64 k ∧ tot = .int .i64 (pl L n k) ∧ wr.rowIs (B + 1) 93 16 (fun j => .int .i64 (if j < k then pl L n j else 0)) ∧ Below w.heap.size w wr) (fun _ _ _ i _ => 16 - (intOf i).toNat)
  case atStart => exact ⟨0, by omega, rfl, rfl, r2, b2⟩
  case round =>
    obtain ⟨k, hk, rfl, rfl, hP, hb⟩ := hrel
    clear r2 b2
    by_cases hlt : k < 16
    · have hidx := fun w => run_index_row (P := Tryd.prog) 93 3 16 .i64 (fun j => .int .i64 (C L n j)) k hlt Tryd.underlying93 hag hsz w
      have ck := hP.cell (i := k) hlt
      rw [if_neg (by omega)] at ck
      have fk := hP.frozen k
      have a1 := pl_nn L n k
      have a2 := C_nn L n k
      have hP2 := put_row hP
      have hb2 : Below w.heap.size w (wr.setCell ⟨B + 1, k, none⟩ (.int .i64 (pl L n k))) := hb.setCell (by simp [HB.out]) _
      have HS : Hid (pl L n (k + 1) = pl L n k + C L n k) := rfl
      have a3 : pl L n k ≤ 16 * 288 := by
        have := Int.mul_le_mul (show (k : Int) ≤ 16 by omega) (show (n : Int) ≤ 288 by omega) (by omega) (by omega)
        omega
      clear hP hb h hL a1 hi hz0 hz1 hz2
      have a1 := (pl_nn L n k).1
      go_wp2
      go_roundw
      case rel => exact ⟨k + 1, by omega, by go_num, by rw [HS.out], hP2, hb2⟩
      case measure => simp [intOf]; omega
    · obtain rfl : k = 16 := by omega
      have hP1 : wr.rowIs (B + 1) 93 16 (fun j => .int .i64 (pl L n j)) := hP.congr (fun j hj => by rw [if_pos hj])
      have h1 := h.keep hb
      rw [HM.out]
      have hP2 : (wr.alloc (.cells (madeCells #[Value.int IntKind.i64 0] M) 3)).rowIs (B + 1) 93 16 (fun j => .int .i64 (pl L n j)) := hP1.alloc _
      have hS := made_row wr M
      have h2 := h1.keep ((Below.refl _ _).alloc (Nat.le_refl _) (.cells (madeCells #[Value.int IntKind.i64 0] M) 3) : Below wr.heap.size wr (wr.alloc (.cells (madeCells #[Value.int IntKind.i64 0] M) 3)))
      have hb2 : Below w.heap.size w (wr.alloc (.cells (madeCells #[Value.int IntKind.i64 0] M) 3)) := hb.alloc hb.size _
      have HG : Hid (w.heap.size ≤ wr.heap.size) := hb.size
      have HR : Hid (Ri w ao n c L) := h
      clear hP hP1 h h1 hb hsz hag
      go_wp2_with (first
        | (at_make; refine wpList_make_row _ rfl _ _ 23 rfl 3 i0 (.int .i64 0) Tryd.underlying23 hi hz0 hz1 rfl .i64 .i64 M rfl rfl (by rw [hz2]; omega) (by omega) ?_)
        | (refine wpList_ld0 rfl 93 _ rfl (B + 1) rfl _ hP2 16 (by omega) Tryd.underlying93 rfl size64 ?_))
      have hpb : ∀ j, j < 16 → 0 ≤ pl L n j ∧ pl L n j ≤ 1000000 := fun j hj => by
        have h1 := pl_nn L n j
        have := Int.mul_le_mul (show (j : Int) ≤ 16 by omega) (show (n : Int) ≤ 288 by omega) (by omega) (by omega)
        omega
      refine (numb_any ao n c L (pl L n) _ h2 hn hL hpb).mono ?_
      rintro e w3 ⟨g, rfl, hg, hgs, b3⟩
      have hS3 : w3.rowIs wr.heap.size 3 M (fun _ => .int .i64 0) := hS.of_block (b3.block _ hS.lt)
      have B3 := hb2.trans (b3.mono hb2.size)
      have hgne : wr.heap.size ≠ g := by have := hS.lt; omega
      have hgw : w.heap.size ≤ g := by have := hb2.size; omega
      clear hP2 hS h2 hb2 b3 hgs hpb
      generalize wr.heap.size = S at *
      go_wp2_with fail
      go_loopw [10, 11, 30] (fun _ _ i wq => ∃ (k : Nat) (sy : Nat → Int), k ≤ n ∧ i = .int .i64 k ∧ wq.rowIs S 3 M (fun j => .int .i64 (sy j)) ∧ Sym L n k sy ∧ wq.rowIs g 3 n (fun j => .int .i64 (nb L (pl L n) j)) ∧ Below w.heap.size w wq) (fun _ _ i _ => n - (intOf i).toNat)
      case atStart => exact ⟨0, fun _ => 0, by omega, rfl, hS3, fun i hi => by omega, hg, B3⟩
      case round =>
        obtain ⟨k, sy, hk, rfl, hS4, hsy, hg4, B4⟩ := hrel
        clear hS3 hg B3
        by_cases hlt : k < n
        · have cg := hg4.cell (i := k) hlt
          obtain ⟨b, off, rfl, hcell⟩ := (HR.out.keep B4).plain (by omega)
          have ck := hcell k hlt
          obtain ⟨x, hx⟩ := Int.eq_ofNat_of_zero_le (hL k hlt).1
          have hx15 : x ≤ 15 := by have := (hL k hlt).2; omega
          rw [hx] at ck
          by_cases hx0 : x = 0
          · have hsy2 := hsy.skip (show L k = 0 by omega)
            rw [nb_zero L (pl L n) k (by omega)] at cg
            subst hx0
            clear hcell hx hsy hL
            go_wp2
            go_roundw
            case rel => exact ⟨k + 1, sy, by omega, by go_num, hS4, hsy2, hg4, B4⟩
            case measure => simp [intOf]; omega
          · have hp : 0 < L k := by omega
            have hbd := nbp_lt L n k hlt hp (hL k hlt).2
            have hsy2 := hsy.put hL hlt hp
            obtain ⟨y, hy⟩ := Int.eq_ofNat_of_zero_le hbd.1
            rw [hy, Int.toNat_natCast] at hsy2
            rw [hy] at cg
            have hyM : y < M := by have := hbd.2; rw [HM.out, hy] at this; omega
            have cy := hS4.cell (i := y) hyM
            have fy := hS4.frozen y
            have hS5 : (wr.setCell ⟨S, y, none⟩ (.int .i64 (k : Int))).rowIs S 3 M (fun j => .int .i64 (if j = y then (k : Int) else sy j)) := (hS4.set y _).congr (fun j _ => by
              by_cases e : j = y
              · rw [if_pos e, if_pos e]
              · rw [if_neg e, if_neg e])
            have hg5 : (wr.setCell ⟨S, y, none⟩ (.int .i64 (k : Int))).rowIs g 3 n (fun j => .int .i64 (nb L (pl L n) j)) := hg4.setOther (by show g ≠ S; omega) _
            have HSw : w.heap.size ≤ S := HG.out
            have hb5 : Below w.heap.size w (wr.setCell ⟨S, y, none⟩ (.int .i64 (k : Int))) := B4.setCell (by simpa using HSw) _
            have hxp : (0 : Int) < (x : Int) := by omega
            clear hcell hx hsy hL hp hbd hy hS4 hg4 B4
            go_wp2
            go_roundw
            case rel => exact ⟨k + 1, _, by omega, by go_num, hS5, hsy2, hg5, hb5⟩
            case measure => simp [intOf]; omega
        · obtain rfl : k = n := by omega
          clear hL
          go_wp2
          go_ret
          exact ⟨S, sy, rfl, hS4, hsy, HG.out, B4⟩

end Go.Proofs.YtjkfmnahmbnbnaaDoor
