/- block. -/
import Derived.Test.YtjkfmnahmbnbnaaDoorWStored
namespace Go.Proofs.YtjkfmnahmbnbnaaDoor
open Go.RowKit

theorem block_three (B S R n : Nat) (X : Int) (p : Nat) (os : List Int) (m : Nat) (f : Int) (w : World) (h : Stm w B S R n X p os m) (hl : Lay X n p [(f, 1), (3, 2)]) :
    Calls Tryd.prog 26 #[.pointer (some ⟨S, 0, none⟩)] w fun e w' => e = .returned (.tuple #[.bool (f == 1), .int .i64 2]) ∧ Sw B w w' := by
  obtain ⟨e1, p1, hl1⟩ := hl.head
  obtain ⟨e2, p2', _⟩ := hl1.head
  simp only at e1 p1 e2 p2'
  clear hl hl1
  go_enter Tryd.func26, Tryd.ntmps26
  go_wp2_with fail
  refine (sget_any B S R n X p 1 os m w h (by omega) p1).mono ?_
  rintro e w1 ⟨rfl, h1, f1⟩
  rw [e1]
  clear h
  go_wp2_with fail
  refine (sget_any B S R n X (p + 1) 2 os m w1 h1 (by omega) p2').mono ?_
  rintro e w2 ⟨rfl, h2, f2⟩
  rw [e2]
  have F2 : Hid (Sw B w w2) := f1.trans f2
  clear h1 h2 f1 f2 e1 e2 p1 p2'
  go_wp2
  go_ret2
  exact ⟨rfl, F2.out⟩

theorem block_stored (B S R n : Nat) (X : Int) (p : Nat) (os bs : List Int) (m : Nat) (f : Int) (w : World) (h : Stm w B S R n X p os m) (h8 : p % 8 = 0) (hb : ∀ x ∈ bs, 0 ≤ x ∧ x < 256) (hbl : bs.length ≤ 65535) (hroom : os.length + bs.length ≤ m) (hm : m ≤ 1000000)
    (hl : Lay X n p ((f, 1) :: (0, 2) :: (0, 5) :: ((bs.length : Int), 16) :: (65535 - (bs.length : Int), 16) :: bfs bs)) :
    Calls Tryd.prog 26 #[.pointer (some ⟨S, 0, none⟩)] w fun e w' => e = .returned (.tuple #[.bool (f == 1), .int .i64 0]) ∧ Stm w' B S R n X (p + 40 + 8 * bs.length) (os ++ bs) m ∧ Sw B w w' := by
  obtain ⟨e1, p1, hl1⟩ := hl.head
  obtain ⟨e2, p2', hl2⟩ := hl1.head
  simp only at e1 p1 e2 p2'
  have HL : Hid (Lay X n (p + 1 + 2) ((0, 5) :: ((bs.length : Int), 16) :: (65535 - (bs.length : Int), 16) :: bfs bs)) := hl2
  clear hl hl1 hl2
  go_enter Tryd.func26, Tryd.ntmps26
  go_wp2_with fail
  refine (sget_any B S R n X p 1 os m w h (by omega) p1).mono ?_
  rintro e w1 ⟨rfl, h1, f1⟩
  rw [e1]
  clear h
  go_wp2_with fail
  refine (sget_any B S R n X (p + 1) 2 os m w1 h1 (by omega) p2').mono ?_
  rintro e w2 ⟨rfl, h2, f2⟩
  rw [e2]
  have F2 : Hid (Sw B w w2) := f1.trans f2
  clear h1 f1 f2 e1 e2 p1 p2'
  go_wp2_with (go_at_call 32; refine (sstored_yes B S R n X (p + 1 + 2) os bs m w2 h2 (by omega) hb hbl hroom hm HL.out).mono ?_; rintro e w3 ⟨rfl, h3, f3⟩)
  go_ret2
  rw [show p + 40 + 8 * bs.length = p + 1 + 2 + 5 + 16 + 16 + 8 * bs.length by omega]
  exact ⟨rfl, h3, F2.out.trans f3⟩

theorem block_wrong (B S R n : Nat) (X : Int) (p : Nat) (os : List Int) (m b : Nat) (f t : Int) (w : World) (h : Stm w B S R n X p os m) (h8 : p % 8 = 0) (hbl : b ≤ 65535) (hroom : os.length + b ≤ m) (hm : m ≤ 1000000)
    (hl : Lay X n p ((f, 1) :: (0, 2) :: [(0, 5), ((b : Int), 16), (t, 16)])) (ht : t ≠ 65535 - (b : Int)) :
    Calls Tryd.prog 26 #[.pointer (some ⟨S, 0, none⟩)] w fun e w' => e = .returned (.tuple #[.bool (f == 1), .int .i64 2]) ∧ Sw B w w' := by
  obtain ⟨e1, p1, hl1⟩ := hl.head
  obtain ⟨e2, p2', hl2⟩ := hl1.head
  simp only at e1 p1 e2 p2'
  have HL : Hid (Lay X n (p + 1 + 2) [(0, 5), ((b : Int), 16), (t, 16)]) := hl2
  clear hl hl1 hl2
  go_enter Tryd.func26, Tryd.ntmps26
  go_wp2_with fail
  refine (sget_any B S R n X p 1 os m w h (by omega) p1).mono ?_
  rintro e w1 ⟨rfl, h1, f1⟩
  rw [e1]
  clear h
  go_wp2_with fail
  refine (sget_any B S R n X (p + 1) 2 os m w1 h1 (by omega) p2').mono ?_
  rintro e w2 ⟨rfl, h2, f2⟩
  rw [e2]
  have F2 : Hid (Sw B w w2) := f1.trans f2
  clear h1 f1 f2 e1 e2 p1 p2'
  go_wp2_with (go_at_call 32; refine (sstored_no B S R n X (p + 1 + 2) os m b t w2 h2 (by omega) hbl hroom hm HL.out ht).mono ?_; rintro e w3 ⟨rfl, f3⟩)
  go_ret2
  exact ⟨rfl, F2.out.trans f3⟩

theorem block_fixed (B S R n : Nat) (X : Int) (p : Nat) (os : List Int) (m : Nat) (f : Int) (l : List It) (w : World) (h : Stm w B S R n X p os m) (hok : ∀ i ∈ l, i.ok) (hm : m ≤ 1000000) (hL : os.length ≤ m)
    (hl : Lay X n p ((f, 1) :: (1, 2) :: (encs l ++ [sf 256]))) (G : Int × List Int) (hG : play m l os = G) (P : Nat) (hP : p + 3 + fb (encs l) + 7 = P) :
    Calls Tryd.prog 26 #[.pointer (some ⟨S, 0, none⟩)] w fun e w' => e = .returned (.tuple #[.bool (f == 1), .int .i64 G.1]) ∧ (G.1 = 0 → Stm w' B S R n X P G.2 m) ∧ Sw B w w' := by
  obtain ⟨e1, p1, hl1⟩ := hl.head
  obtain ⟨e2, p2', hl2⟩ := hl1.head
  simp only at e1 p1 e2 p2'
  have HL : Hid (Lay X n (p + 1 + 2) (encs l ++ [sf 256])) := hl2
  have HP : Hid (p + 1 + 2 + fb (encs l) + 7 = P) := by show p + 1 + 2 + fb (encs l) + 7 = P; omega
  have HG : Hid (play m l os = G) := hG
  clear hl hl1 hl2 hP hG
  obtain ⟨G1, G2⟩ := G
  simp only
  go_enter Tryd.func26, Tryd.ntmps26
  go_wp2_with fail
  refine (sget_any B S R n X p 1 os m w h (by omega) p1).mono ?_
  rintro e w1 ⟨rfl, h1, f1⟩
  rw [e1]
  clear h
  go_wp2_with fail
  refine (sget_any B S R n X (p + 1) 2 os m w1 h1 (by omega) p2').mono ?_
  rintro e w2 ⟨rfl, h2, f2⟩
  rw [e2]
  have F2 : Hid (Sw B w w2) := f1.trans f2
  clear h1 f1 f2 e1 e2 p1 p2'
  go_wp2_with (go_at_call 8; refine (fixed_any w2).mono ?_; rintro e w3 ⟨la, lc, da, rfl, r3, d3, b3⟩)
  refine (scoded_any B S R n X (p + 1 + 2) os m la lc da l w3 (h2.keep b3) r3 (Ri.row d3) hok HL.out hm hL (G1, G2) HG.out P HP.out).mono ?_
  rintro e w4 ⟨rfl, h4, f4⟩
  have F4 : Hid (Sw B w w4) := (F2.out.trans (Sw.keep h2.bB b3)).trans f4
  have H4 : Hid (G1 = 0 → Stm w4 B S R n X P G2 m) := h4
  clear h2 h4 f4 r3 d3 b3 F2
  simp only
  go_wp2
  go_ret2
  exact ⟨rfl, H4.out, F4.out⟩

end Go.Proofs.YtjkfmnahmbnbnaaDoor
