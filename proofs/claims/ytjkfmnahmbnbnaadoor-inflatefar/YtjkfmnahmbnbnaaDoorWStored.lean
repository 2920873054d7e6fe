/- stored. -/
import Derived.Test.YtjkfmnahmbnbnaaDoorWSyms
namespace Go.Proofs.YtjkfmnahmbnbnaaDoor
open Go.RowKit

theorem bx64 (a b : Nat) (ha : a < 2 ^ 62) (hb : b < 2 ^ 62) : bits .xor .i64 (a : Int) (b : Int) = ((a ^^^ b : Nat) : Int) := by
  have hx : a ^^^ b < 2 ^ 62 := Nat.xor_lt_two_pow ha hb
  show IntKind.i64.wrap ((BitVec.ofInt 64 (a : Int) ^^^ BitVec.ofInt 64 (b : Int)).toNat : Nat) = _
  rw [BitVec.toNat_xor, BitVec.ofInt_natCast, BitVec.ofInt_natCast, BitVec.toNat_ofNat, BitVec.toNat_ofNat, Nat.mod_eq_of_lt (by omega), Nat.mod_eq_of_lt (by omega)]
  exact wraps_i64 _ (by omega) (by omega)

theorem xor_ones (a : Nat) (h : a < 65536) : a ^^^ 65535 = 65535 - a := by
  have h1 := BitVec.toNat_not (x := BitVec.ofNat 16 a)
  rw [BitVec.not_def, BitVec.toNat_xor] at h1
  simp at h1
  rw [Nat.mod_eq_of_lt h, Nat.xor_comm] at h1
  exact h1

theorem flip16 (a : Nat) (h : a < 65536) : bits .xor .i64 (a : Int) 65535 = 65535 - (a : Int) := by
  have := bx64 a 65535 (by omega) (by omega)
  rw [xor_ones a h] at this
  rw [show (65535 : Int) = ((65535 : Nat) : Int) from rfl, this]
  omega

theorem salign_any (B S R n : Nat) (X : Int) (p : Nat) (os : List Int) (m : Int) (w : World) (h : Stm w B S R n X p os m) :
    Calls Tryd.prog 38 #[.pointer (some ⟨R, 0, none⟩)] w fun e w' => e = .returned (.tuple #[]) ∧ Stm w' B S R n X (al p) os m ∧ Sw B w w' := by
  obtain ⟨ao, c, v, h⟩ := h
  refine (ralign_any R ao n c X p w h.rd).mono ?_
  rintro e w' ⟨rfl, hr, hf⟩
  obtain ⟨h1, h2⟩ := h.read hr hf
  exact ⟨rfl, ⟨ao, c, v, h1⟩, h2⟩

/-- Bytes as fields. -/
def bfs (bs : List Int) : List Fd := bs.map (fun b => (b, 8))

theorem bfs_fb (bs : List Int) : fb (bfs bs) = 8 * bs.length := by
  induction bs with
  | nil => rfl
  | cons b bs ih =>
    have : fb (bfs (b :: bs)) = 8 + fb (bfs bs) := rfl
    rw [this, ih]
    simp
    omega

theorem bfs_app (a b : List Int) : bfs (a ++ b) = bfs a ++ bfs b := by simp [bfs]

theorem bfs_ft (bs : List Int) (h : ∀ x ∈ bs, 0 ≤ x ∧ x < 256) : Ft (bfs bs) := by
  intro x hx
  obtain ⟨b, hb, rfl⟩ := List.mem_map.1 hx
  exact h b hb

set_option maxRecDepth 100000 in
set_option maxHeartbeats 2000000 in
theorem sstored_yes (B S R n : Nat) (X : Int) (p : Nat) (os bs : List Int) (m : Nat) (w : World) (h : Stm w B S R n X p os m) (h8 : p % 8 = 3) (hb : ∀ x ∈ bs, 0 ≤ x ∧ x < 256) (hbl : bs.length ≤ 65535) (hroom : os.length + bs.length ≤ m) (hm : m ≤ 1000000)
    (hl : Lay X n p ((0, 5) :: ((bs.length : Int), 16) :: (65535 - (bs.length : Int), 16) :: bfs bs)) :
    Calls Tryd.prog 32 #[.pointer (some ⟨S, 0, none⟩)] w fun e w' => e = .returned (.int .i64 0) ∧ Stm w' B S R n X (p + 5 + 16 + 16 + 8 * bs.length) (os ++ bs) m ∧ Sw B w w' := by
  obtain ⟨i0, hi, hz0, hz1, hz2⟩ := info_parts Tryd.info5
  obtain ⟨_, _, hl1⟩ := hl.head
  obtain ⟨e1, p1, hl2⟩ := hl1.head
  obtain ⟨e2, p2', hl3⟩ := hl2.head
  simp only at e1 p1 e2 p2'
  have HL : Hid (Lay X n (p + 5 + 16 + 16) (bfs bs)) := hl3
  have hal : al p = p + 5 := by unfold al; omega
  have hfl := flip16 bs.length (by omega)
  have c0 := h.c0
  obtain ⟨b, hbb⟩ : ∃ b, b = bs.length := ⟨_, rfl⟩
  have HB : Hid (b = bs.length) := hbb
  rw [← hbb] at e1 e2 hfl hroom hbl ⊢
  clear hl hl1 hl2 hl3 hbb
  go_enter Tryd.func32, Tryd.ntmps32
  go_wp2_with fail
  refine (salign_any B S R n X p os m w h).mono ?_
  rintro e w1 ⟨rfl, h1, f1⟩
  rw [hal] at h1
  clear h c0
  go_wp2_with fail
  refine (sget_any B S R n X (p + 5) 16 os m w1 h1 (by omega) p1).mono ?_
  rintro e w2 ⟨rfl, h2, f2⟩
  rw [e1]
  have k2 := h2.c2
  obtain ⟨ao, cc, k1, _⟩ := h2.c1
  obtain ⟨l, hll⟩ : ∃ l, l = os.length := ⟨_, rfl⟩
  have HLL : Hid (l = os.length) := hll
  rw [← hll] at k1 hroom
  have d1 : decide ((m : Int) - (l : Int) < (b : Int)) = false := by simp; omega
  have h2d := h2.drew
  have f12 := (f1.trans f2).drew
  clear hll h1 h2 f1 f2
  go_wp2_with fail
  go_region
  clear k1 k2 d1
  go_wp2_with fail
  refine (sget_any B S R n X (p + 5 + 16) 16 os m w2.drew h2d (by omega) p2').mono ?_
  rintro e w3 ⟨rfl, h3, f3⟩
  rw [e2]
  have H3 : Hid (Stm w3 B S R n X (p + 5 + 16 + 16) os m) := h3
  have F3 : Hid (Sw B w w3) := f12.trans f3
  clear h2d f12 h3 f3 e1 e2 p1 p2'
  go_wp2
  go_loopw [46] (fun iv wr => ∃ k : Nat, k ≤ b ∧ iv = .int .i64 k ∧ Hid (Stm wr B S R n X (p + 5 + 16 + 16 + 8 * k) (os ++ bs.take k) m) ∧ Hid (Lay X n (p + 5 + 16 + 16 + 8 * k) (bfs (bs.drop k))) ∧ Hid (Sw B w wr)) (fun iv _ => b - (intOf iv).toNat)
  case atStart => exact ⟨0, by omega, rfl, by simpa using H3, by simpa using HL, F3⟩
  case round =>
    clear H3 F3 HL
    obtain ⟨k, hk, rfl, HS, HL, HW⟩ := hrel
    by_cases hlt : k < b
    · have hkb : k < bs.length := by have := HB.out; omega
      obtain ⟨x, hx⟩ : ∃ x, x = bs[k] := ⟨_, rfl⟩
      have hdr : bs.drop k = x :: bs.drop (k + 1) := by rw [hx]; exact List.drop_eq_getElem_cons hkb
      have hlay := HL.out
      rw [hdr] at hlay
      obtain ⟨e1, p1, hlay2⟩ := Lay.head (x := (x, 8)) (l := bfs (bs.drop (k + 1))) hlay
      simp only at e1 p1 hlay2
      have hxb := hb x (by rw [hx]; exact List.getElem_mem _)
      have hget := sget_any B S R n X (p + 5 + 16 + 16 + 8 * k) 8 (os ++ bs.take k) m wr HS.out (by omega) p1
      rw [e1] at hget
      have q3 : IntKind.u8.wrap x = x := by simp [IntKind.wrap, IntKind.bits, IntKind.signed]; omega
      have htk : bs.take (k + 1) = bs.take k ++ [x] := by rw [hx]; simp
      have HT : Hid (os ++ bs.take (k + 1) = (os ++ bs.take k) ++ [x]) := by
        show os ++ bs.take (k + 1) = (os ++ bs.take k) ++ [x]
        rw [htk, List.append_assoc]
      have HL2 : Hid (Lay X n (p + 5 + 16 + 16 + 8 * (k + 1)) (bfs (bs.drop (k + 1)))) := by
        show Lay X n (p + 5 + 16 + 16 + 8 * (k + 1)) (bfs (bs.drop (k + 1)))
        rw [show p + 5 + 16 + 16 + 8 * (k + 1) = p + 5 + 16 + 16 + 8 * k + 8 by omega]
        exact hlay2
      obtain ⟨ys, hys⟩ : ∃ ys, ys = os ++ bs.take k := ⟨_, rfl⟩
      rw [← hys] at hget
      have hyl : ys.length ≤ 1000000 := by rw [hys, List.length_append, List.length_take, ← HLL.out, ← HB.out]; omega
      have HYS : Hid (ys = os ++ bs.take k) := hys
      clear hdr hlay hlay2 e1 p1 htk hys HL HS hx
      go_wp2_with fail
      refine hget.mono ?_
      rintro e w4 ⟨rfl, h4, f4⟩
      obtain ⟨aa, ac, av, h5⟩ := h4
      obtain ⟨vo, vc, rfl⟩ := slice_len h5.own
      have c1 := h5.row.cell (i := 1) (by omega)
      simp only [scells] at c1
      have H5 : Hid (IsS w4 B S R aa n ac X (p + 5 + 16 + 16 + 8 * k + 8) (.slice vo ys.length vc) ys m) := h5
      obtain ⟨ly, hly⟩ : ∃ ly, ly = ys.length := ⟨_, rfl⟩
      have HY : Hid (ly = ys.length) := hly
      rw [← hly] at c1 hyl
      clear h5 hget hly
      go_wp2_with (at_builtin; refine wpList_append_lies _ rfl _ _ 30 rfl 0 5 i0 (.int .u8 0) 1 1 Tryd.underlying30 hi hz0 hz1 hz2 rfl (by decide) (.slice vo ly vc) ly (ys.map (Value.int .u8)) rfl (by rw [HY.out]; exact H5.out.own.alloc _) ⟨w4.heap.size, 0, none⟩ 1 1 [_] rfl rfl (cell_one_new _ _ _) (by intro u hu; simp at hu; subst hu; rfl) (by omega) (by unfold maxLen; omega) (by omega) (by omega) (w4.heap.size + 1) (by simp) ?_; intro g c5 w5 o5 g5 l5 s5; rw [HY.out] at o5 g5 l5; have k0 := (s_after H5.out g5).cell (i := 1) (by omega); have k1 := (s_after H5.out g5).frozen 1; have HO : Hid (w5.ownsRow 0 5 1 (.slice (some ⟨g, 0, none⟩) (ys.length + 1) c5) (ys.length + 1) (ys.map (Value.int .u8) ++ [.int .u8 x]) ∧ (w4.alloc (Obj.cells #[Value.int IntKind.u8 x] 5)).grownBy w5 (Value.slice vo ys.length vc).ownBlock ∧ ((Value.slice vo ys.length vc).ownBlock = some g ∨ g = w4.heap.size + 1)) := ⟨o5, g5, l5⟩; clear o5 g5 l5 s5)
      obtain ⟨r1, r2⟩ := s_pushed H5.out hxb.1 hxb.2 HO.out.1 HO.out.2.1 HO.out.2.2
      have R1 : Hid (Stm (w5.setCell ⟨S, 1, none⟩ (.slice (some ⟨g, 0, none⟩) (ly + 1) c5)) B S R n X (p + 5 + 16 + 16 + 8 * (k + 1)) (os ++ bs.take (k + 1)) m) := by
        show Stm _ _ _ _ _ _ _ _ _
        rw [HT.out, ← HYS.out, HY.out, show p + 5 + 16 + 16 + 8 * (k + 1) = p + 5 + 16 + 16 + 8 * k + 8 by omega]
        exact ⟨_, _, _, r1⟩
      have R2 : Hid (Sw B w (w5.setCell ⟨S, 1, none⟩ (.slice (some ⟨g, 0, none⟩) (ly + 1) c5))) := by
        show Sw B w _
        rw [HY.out]
        exact (HW.out.trans f4).trans r2
      clear r1 r2 HO H5 f4 HW k0 k1 c1
      go_roundw
      case rel => exact ⟨k + 1, by omega, by go_num, R1, HL2, R2⟩
      case measure => simp [intOf]; omega
    · obtain rfl : k = b := by omega
      clear hlt
      go_wp2
      go_ret
      refine ⟨rfl, ?_, HW.out⟩
      have := HS.out
      rw [List.take_of_length_le (by have := HB.out; omega)] at this
      exact this

theorem sstored_no (B S R n : Nat) (X : Int) (p : Nat) (os : List Int) (m b : Nat) (t : Int) (w : World) (h : Stm w B S R n X p os m) (h8 : p % 8 = 3) (hbl : b ≤ 65535) (hroom : os.length + b ≤ m) (hm : m ≤ 1000000)
    (hl : Lay X n p [(0, 5), ((b : Int), 16), (t, 16)]) (ht : t ≠ 65535 - (b : Int)) :
    Calls Tryd.prog 32 #[.pointer (some ⟨S, 0, none⟩)] w fun e w' => e = .returned (.int .i64 2) ∧ Sw B w w' := by
  obtain ⟨_, _, hl1⟩ := hl.head
  obtain ⟨e1, p1, hl2⟩ := hl1.head
  obtain ⟨e2, p2', _⟩ := hl2.head
  simp only at e1 p1 e2 p2'
  have hal : al p = p + 5 := by unfold al; omega
  have hfl := flip16 b (by omega)
  have c0 := h.c0
  have d2 : (t == 65535 - (b : Int)) = false := by simp; exact ht
  clear hl hl1 hl2
  go_enter Tryd.func32, Tryd.ntmps32
  go_wp2_with fail
  refine (salign_any B S R n X p os m w h).mono ?_
  rintro e w1 ⟨rfl, h1, f1⟩
  rw [hal] at h1
  clear h c0
  go_wp2_with fail
  refine (sget_any B S R n X (p + 5) 16 os m w1 h1 (by omega) p1).mono ?_
  rintro e w2 ⟨rfl, h2, f2⟩
  rw [e1]
  have k2 := h2.c2
  obtain ⟨ao, cc, k1, _⟩ := h2.c1
  obtain ⟨l, hll⟩ : ∃ l, l = os.length := ⟨_, rfl⟩
  rw [← hll] at k1 hroom
  have d1 : decide ((m : Int) - (l : Int) < (b : Int)) = false := by simp; omega
  have h2d := h2.drew
  have f12 := (f1.trans f2).drew
  clear hll h1 h2 f1 f2
  go_wp2_with fail
  go_region
  clear k1 k2 d1
  go_wp2_with fail
  refine (sget_any B S R n X (p + 5 + 16) 16 os m w2.drew h2d (by omega) p2').mono ?_
  rintro e w3 ⟨rfl, h3, f3⟩
  rw [e2]
  have F3 : Hid (Sw B w w3) := f12.trans f3
  clear h2d f12 h3 f3 e1 e2 p1 p2'
  go_wp2
  go_ret
  exact ⟨rfl, F3.out⟩

end Go.Proofs.YtjkfmnahmbnbnaaDoor
