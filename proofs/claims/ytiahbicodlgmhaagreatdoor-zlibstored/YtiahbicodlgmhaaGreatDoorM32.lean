/- WBlock, WInf, WDyn, ZInf. -/
import Derived.Test.YtiahbicodlgmhaaGreatDoorM26
import Derived.Test.YtiahbicodlgmhaaGreatDoorM20
/- block. -/
namespace Go.Proofs.YtiahbicodlgmhaaGreatDoor
open Go.RowKit

theorem block_three (B S R n : Nat) (X : Int) (p : Nat) (os : List Int) (m : Nat) (f : Int) (w : World) (h : Stm w B S R n X p os m) (hl : Lay X n p [(f, 1), (3, 2)]) :
    Calls Tryz.prog 34 #[.pointer (some ⟨S, 0, none⟩)] w fun e w' => e = .returned (.tuple #[.bool (f == 1), .int .i64 2]) ∧ Sw B w w' := by
  obtain ⟨e1, p1, hl1⟩ := hl.head
  obtain ⟨e2, p2', _⟩ := hl1.head
  simp only at e1 p1 e2 p2'
  clear hl hl1
  go_enter Tryz.func34, Tryz.ntmps34
  go_wp2_with fail
  refine (sget_any B S R n X p 1 os m w h (by omega) p1).mono ?_
  rintro e w1 ⟨rfl, h1, f1⟩
  rw [e1]
  clear h
  go_wp2_with fail
  refine (sget_any B S R n X (p + 1) 2 os m w1 h1 (by omega) p2').mono ?_
  rintro e w2 ⟨rfl, h2, f2⟩
  rw [e2]
  have F2 : Hid (Sw B w w2) := f1.trans f2
  clear h1 h2 f1 f2 e1 e2 p1 p2'
  go_wp2
  go_ret2
  exact ⟨rfl, F2.out⟩

theorem block_stored (B S R n : Nat) (X : Int) (p : Nat) (os bs : List Int) (m : Nat) (f : Int) (w : World) (h : Stm w B S R n X p os m) (h8 : p % 8 = 0) (hb : ∀ x ∈ bs, 0 ≤ x ∧ x < 256) (hbl : bs.length ≤ 65535) (hroom : os.length + bs.length ≤ m) (hm : m ≤ 1000000)
    (hl : Lay X n p ((f, 1) :: (0, 2) :: (0, 5) :: ((bs.length : Int), 16) :: (65535 - (bs.length : Int), 16) :: bfs bs)) :
    Calls Tryz.prog 34 #[.pointer (some ⟨S, 0, none⟩)] w fun e w' => e = .returned (.tuple #[.bool (f == 1), .int .i64 0]) ∧ Stm w' B S R n X (p + 40 + 8 * bs.length) (os ++ bs) m ∧ Sw B w w' := by
  obtain ⟨e1, p1, hl1⟩ := hl.head
  obtain ⟨e2, p2', hl2⟩ := hl1.head
  simp only at e1 p1 e2 p2'
  have HL : Hid (Lay X n (p + 1 + 2) ((0, 5) :: ((bs.length : Int), 16) :: (65535 - (bs.length : Int), 16) :: bfs bs)) := hl2
  clear hl hl1 hl2
  go_enter Tryz.func34, Tryz.ntmps34
  go_wp2_with fail
  refine (sget_any B S R n X p 1 os m w h (by omega) p1).mono ?_
  rintro e w1 ⟨rfl, h1, f1⟩
  rw [e1]
  clear h
  go_wp2_with fail
  refine (sget_any B S R n X (p + 1) 2 os m w1 h1 (by omega) p2').mono ?_
  rintro e w2 ⟨rfl, h2, f2⟩
  rw [e2]
  have F2 : Hid (Sw B w w2) := f1.trans f2
  clear h1 f1 f2 e1 e2 p1 p2'
  go_wp2_with (go_at_call 61; refine (sstored_yes B S R n X (p + 1 + 2) os bs m w2 h2 (by omega) hb hbl hroom hm HL.out).mono ?_; rintro e w3 ⟨rfl, h3, f3⟩)
  go_ret2
  rw [show p + 40 + 8 * bs.length = p + 1 + 2 + 5 + 16 + 16 + 8 * bs.length by omega]
  exact ⟨rfl, h3, F2.out.trans f3⟩

theorem block_wrong (B S R n : Nat) (X : Int) (p : Nat) (os : List Int) (m b : Nat) (f t : Int) (w : World) (h : Stm w B S R n X p os m) (h8 : p % 8 = 0) (hbl : b ≤ 65535) (hroom : os.length + b ≤ m) (hm : m ≤ 1000000)
    (hl : Lay X n p ((f, 1) :: (0, 2) :: [(0, 5), ((b : Int), 16), (t, 16)])) (ht : t ≠ 65535 - (b : Int)) :
    Calls Tryz.prog 34 #[.pointer (some ⟨S, 0, none⟩)] w fun e w' => e = .returned (.tuple #[.bool (f == 1), .int .i64 2]) ∧ Sw B w w' := by
  obtain ⟨e1, p1, hl1⟩ := hl.head
  obtain ⟨e2, p2', hl2⟩ := hl1.head
  simp only at e1 p1 e2 p2'
  have HL : Hid (Lay X n (p + 1 + 2) [(0, 5), ((b : Int), 16), (t, 16)]) := hl2
  clear hl hl1 hl2
  go_enter Tryz.func34, Tryz.ntmps34
  go_wp2_with fail
  refine (sget_any B S R n X p 1 os m w h (by omega) p1).mono ?_
  rintro e w1 ⟨rfl, h1, f1⟩
  rw [e1]
  clear h
  go_wp2_with fail
  refine (sget_any B S R n X (p + 1) 2 os m w1 h1 (by omega) p2').mono ?_
  rintro e w2 ⟨rfl, h2, f2⟩
  rw [e2]
  have F2 : Hid (Sw B w w2) := f1.trans f2
  clear h1 f1 f2 e1 e2 p1 p2'
  go_wp2_with (go_at_call 61; refine (sstored_no B S R n X (p + 1 + 2) os m b t w2 h2 (by omega) hbl hroom hm HL.out ht).mono ?_; rintro e w3 ⟨rfl, f3⟩)
  go_ret2
  exact ⟨rfl, F2.out.trans f3⟩

theorem block_fixed (B S R n : Nat) (X : Int) (p : Nat) (os : List Int) (m : Nat) (f : Int) (l : List It) (w : World) (h : Stm w B S R n X p os m) (hok : ∀ i ∈ l, i.ok) (hm : m ≤ 1000000) (hL : os.length ≤ m)
    (hl : Lay X n p ((f, 1) :: (1, 2) :: (encs l ++ [sf 256]))) (G : Int × List Int) (hG : play m l os = G) (P : Nat) (hP : p + 3 + fb (encs l) + 7 = P) :
    Calls Tryz.prog 34 #[.pointer (some ⟨S, 0, none⟩)] w fun e w' => e = .returned (.tuple #[.bool (f == 1), .int .i64 G.1]) ∧ (G.1 = 0 → Stm w' B S R n X P G.2 m) ∧ Sw B w w' := by
  obtain ⟨e1, p1, hl1⟩ := hl.head
  obtain ⟨e2, p2', hl2⟩ := hl1.head
  simp only at e1 p1 e2 p2'
  have HL : Hid (Lay X n (p + 1 + 2) (encs l ++ [sf 256])) := hl2
  have HP : Hid (p + 1 + 2 + fb (encs l) + 7 = P) := by show p + 1 + 2 + fb (encs l) + 7 = P; omega
  have HG : Hid (play m l os = G) := hG
  clear hl hl1 hl2 hP hG
  obtain ⟨G1, G2⟩ := G
  simp only
  go_enter Tryz.func34, Tryz.ntmps34
  go_wp2_with fail
  refine (sget_any B S R n X p 1 os m w h (by omega) p1).mono ?_
  rintro e w1 ⟨rfl, h1, f1⟩
  rw [e1]
  clear h
  go_wp2_with fail
  refine (sget_any B S R n X (p + 1) 2 os m w1 h1 (by omega) p2').mono ?_
  rintro e w2 ⟨rfl, h2, f2⟩
  rw [e2]
  have F2 : Hid (Sw B w w2) := f1.trans f2
  clear h1 f1 f2 e1 e2 p1 p2'
  go_wp2_with (go_at_call 63; refine (fixed_any w2).mono ?_; rintro e w3 ⟨la, lc, da, rfl, r3, d3, b3⟩)
  refine (scoded_any B S R n X (p + 1 + 2) os m la lc da l w3 (h2.keep b3) r3 (Ri.row d3) hok HL.out hm hL (G1, G2) HG.out P HP.out).mono ?_
  rintro e w4 ⟨rfl, h4, f4⟩
  have F4 : Hid (Sw B w w4) := (F2.out.trans (Sw.keep h2.bB b3)).trans f4
  have H4 : Hid (G1 = 0 → Stm w4 B S R n X P G2 m) := h4
  clear h2 h4 f4 r3 d3 b3 F2
  simp only
  go_wp2
  go_ret2
  exact ⟨rfl, H4.out, F4.out⟩

end Go.Proofs.YtiahbicodlgmhaaGreatDoor

/- Inflate. -/
namespace Go.Proofs.YtiahbicodlgmhaaGreatDoor
open Go.RowKit

/-- In at most k blocks from bit p on, os being there already: the error, or 0 and what came, and where it ended. -/
inductive Inf (X : Int) (n m : Nat) : Nat → Nat → List Int → Int → List Int → Nat → Prop
  | last (k p : Nat) (os bs : List Int) : Lay X n p ((1, 1) :: (0, 2) :: (0, 5) :: ((bs.length : Int), 16) :: (65535 - (bs.length : Int), 16) :: bfs bs) → p % 8 = 0 → (∀ x ∈ bs, 0 ≤ x ∧ x < 256) → bs.length ≤ 65535 → os.length + bs.length ≤ m → Inf X n m (k + 1) p os 0 (os ++ bs) (p + 40 + 8 * bs.length)
  | more (k p : Nat) (os bs : List Int) (g : Int) (os' : List Int) (p' : Nat) : Lay X n p ((0, 1) :: (0, 2) :: (0, 5) :: ((bs.length : Int), 16) :: (65535 - (bs.length : Int), 16) :: bfs bs) → p % 8 = 0 → (∀ x ∈ bs, 0 ≤ x ∧ x < 256) → bs.length ≤ 65535 → os.length + bs.length ≤ m → Inf X n m k (p + 40 + 8 * bs.length) (os ++ bs) g os' p' → Inf X n m (k + 1) p os g os' p'
  | wrong (k p : Nat) (os : List Int) (f t : Int) (b : Nat) (os' : List Int) (p' : Nat) : Lay X n p ((f, 1) :: (0, 2) :: [(0, 5), ((b : Int), 16), (t, 16)]) → p % 8 = 0 → b ≤ 65535 → os.length + b ≤ m → t ≠ 65535 - (b : Int) → Inf X n m (k + 1) p os 2 os' p'
  | fixed (k p : Nat) (os : List Int) (l : List It) (g : Int) (os' : List Int) (p' : Nat) : Lay X n p ((1, 1) :: (1, 2) :: (encs l ++ [sf 256])) → (∀ i ∈ l, i.ok) → os.length ≤ m → play m l os = (g, os') → p + 3 + fb (encs l) + 7 = p' → Inf X n m (k + 1) p os g os' p'
  | three (k p : Nat) (os : List Int) (f : Int) (os' : List Int) (p' : Nat) : Lay X n p [(f, 1), (3, 2)] → Inf X n m (k + 1) p os 2 os' p'

theorem Inf.inv {X : Int} {n m gk p : Nat} {os : List Int} {g : Int} {os' : List Int} {P : Nat} (h : Inf X n m gk p os g os' P) : ∃ k, gk = k + 1 ∧
    ((∃ bs, Lay X n p ((1, 1) :: (0, 2) :: (0, 5) :: ((bs.length : Int), 16) :: (65535 - (bs.length : Int), 16) :: bfs bs) ∧ p % 8 = 0 ∧ (∀ x ∈ bs, 0 ≤ x ∧ x < 256) ∧ bs.length ≤ 65535 ∧ os.length + bs.length ≤ m ∧ g = 0 ∧ os' = os ++ bs ∧ P = p + 40 + 8 * bs.length) ∨
     (∃ bs, Lay X n p ((0, 1) :: (0, 2) :: (0, 5) :: ((bs.length : Int), 16) :: (65535 - (bs.length : Int), 16) :: bfs bs) ∧ p % 8 = 0 ∧ (∀ x ∈ bs, 0 ≤ x ∧ x < 256) ∧ bs.length ≤ 65535 ∧ os.length + bs.length ≤ m ∧ Inf X n m k (p + 40 + 8 * bs.length) (os ++ bs) g os' P) ∨
     (∃ f t b, Lay X n p ((f, 1) :: (0, 2) :: [(0, 5), (((b : Nat) : Int), 16), (t, 16)]) ∧ p % 8 = 0 ∧ b ≤ 65535 ∧ os.length + b ≤ m ∧ t ≠ 65535 - (b : Int) ∧ g = 2) ∨
     (∃ l, Lay X n p ((1, 1) :: (1, 2) :: (encs l ++ [sf 256])) ∧ (∀ i ∈ l, i.ok) ∧ os.length ≤ m ∧ play m l os = (g, os') ∧ p + 3 + fb (encs l) + 7 = P) ∨
     (∃ f, Lay X n p [(f, 1), (3, 2)] ∧ g = 2)) := by
  cases h with
  | last k p os bs a b c d e => exact ⟨k, rfl, .inl ⟨bs, a, b, c, d, e, rfl, rfl, rfl⟩⟩
  | more k p os bs g os' p' a b c d e f => exact ⟨k, rfl, .inr (.inl ⟨bs, a, b, c, d, e, f⟩)⟩
  | wrong k p os f t b os' p' a c d e x => exact ⟨k, rfl, .inr (.inr (.inl ⟨f, t, b, a, c, d, e, x, rfl⟩))⟩
  | fixed k p os l g os' p' a b c d e => exact ⟨k, rfl, .inr (.inr (.inr (.inl ⟨l, a, b, c, d, e⟩)))⟩
  | three k p os f os' p' a => exact ⟨k, rfl, .inr (.inr (.inr (.inr ⟨f, a, rfl⟩)))⟩

/-- What Inflate answers. -/
def Fin7 (g : Int) (os : List Int) (p : Nat) (xs : List Int) (u : Nat) : Prop := (g = 0 ∧ xs = os ∧ u = (p + 7) / 8) ∨ (g ≠ 0 ∧ xs = [] ∧ u = 0)

theorem new_stm {w w1 : World} {R : Nat} {ao : Option Addr} {n c : Nat} {X : Int} (m : Int) (hr : IsR w1 R ao n c X 0) (hR : w.heap.size ≤ R) (hb : Below w.heap.size w w1) :
    Stm (w1.alloc (Obj.cells #[Value.pointer (some ⟨R, 0, none⟩), Value.slice none 0 0, Value.int .i64 m] 71)) w.heap.size w1.heap.size R n X 0 [] m := by
  have bA : Below w1.heap.size w1 (w1.alloc (Obj.cells #[Value.pointer (some ⟨R, 0, none⟩), Value.slice none 0 0, Value.int .i64 m] 71)) := (Below.refl _ _).alloc (Nat.le_refl _) _
  refine ⟨ao, c, .slice none 0 0, ⟨?_, hr.keep bA, ?_, (fun x hx => by cases hx), (by simp [Value.ownBlock]), (by simp [Value.ownBlock]), ?_, (fun _ _ _ => by simp [Value.ownBlock]), ?_, hb.size, hR, (fun k hk => by simp [Value.ownBlock] at hk)⟩⟩
  · exact World.rowIs_alloc w1 _ 71 _ (fun i hi => by
      simp at hi
      rcases i with _ | _ | _ | i <;> first | rfl | omega)
  · exact World.ownsRow_nil _ _ _ _
  · intro ad had hn e
    have hc := hr.rd.cells ad had 0 hn
    have := World.block_lt_of_cell? w1 _ hc
    rw [show (ad.add 0).block = ad.block by unfold Addr.add; split <;> rfl] at this
    omega
  · have := hb.size
    simp
    omega

set_option maxRecDepth 100000 in
set_option maxHeartbeats 2000000 in
theorem inflate_any (ao : Option Addr) (n c : Nat) (X : Int) (m k : Nat) (g : Int) (os : List Int) (P : Nat) (xs : List Int) (u : Nat) (w : World) (h : Rd w ao n c (by8 X n)) (hn : n ≤ 1000000000) (hm : m ≤ 262144) (hI : Inf X n m k 0 [] g os P) (hF : Fin7 g os P xs u) :
    Calls Tryz.prog 16 #[.slice ao n c, .int .i64 m] w fun e w' => ∃ xo xc, e = .returned (.tuple #[.slice xo xs.length xc, .int .i64 u, .int .i64 g]) ∧ Rd w' xo xs.length xc xs ∧ Below w.heap.size w w' := by
  have d1 : decide ((m : Int) < 0) = false := by simp
  have d2 : decide ((262144 : Int) < m) = false := by simp; omega
  have HI : Hid (Inf X n m k 0 [] g os P) := hI
  have HF : Hid (Fin7 g os P xs u) := hF
  obtain ⟨lx', hlx⟩ : ∃ l, l = xs.length := ⟨_, rfl⟩
  have HX : Hid (lx' = xs.length) := hlx
  rw [← hlx]
  clear hI hF hlx
  go_enter Tryz.func16, Tryz.ntmps16
  go_wp2_with (go_at_call 33; refine (newR_any ao n c X w h hn).mono ?_; rintro e w1 ⟨R, ra, rc, rfl, hr, hR, _, b1⟩)
  have hs := new_stm (m : Int) hr hR b1
  have bA : Below w.heap.size w (w1.alloc (Obj.cells #[Value.pointer (some ⟨R, 0, none⟩), Value.slice none 0 0, Value.int .i64 m] 71)) := b1.alloc b1.size _
  have HS : Hid (Stm (w1.alloc (Obj.cells #[Value.pointer (some ⟨R, 0, none⟩), Value.slice none 0 0, Value.int .i64 m] 71)) w.heap.size w1.heap.size R n X 0 [] m) := hs
  have HB : Hid (Below w.heap.size w (w1.alloc (Obj.cells #[Value.pointer (some ⟨R, 0, none⟩), Value.slice none 0 0, Value.int .i64 m] 71))) := bA
  clear hs bA hr hR b1 h
  generalize w1.heap.size = S at *
  generalize (w1.alloc (Obj.cells #[Value.pointer (some ⟨R, 0, none⟩), Value.slice none 0 0, Value.int .i64 m] 71)) = W at *
  go_loopg [6, 8] k (fun gk ev lv wr => Hid (Below w.heap.size w wr) ∧ ((lv = .bool false ∧ ∃ p1 os1, Hid (Inf X n m gk p1 os1 g os P) ∧ Hid (Stm wr w.heap.size S R n X p1 os1 m)) ∨ (lv = .bool true ∧ Hid (g = 0) ∧ Hid (Stm wr w.heap.size S R n X P os m))))
  case atStart => exact ⟨HB, .inl ⟨rfl, 0, [], HI, HS⟩⟩
  case round =>
    clear HB HI HS
    obtain ⟨HB, ⟨rfl, p1, os1, HI, HS⟩ | ⟨rfl, HG, HS⟩⟩ := hrel
    · obtain ⟨k1, hk1, hcase⟩ := HI.out.inv
      have HK : Hid (gk = k1 + 1) := hk1
      clear hk1 HI
      rcases hcase with ⟨bs, a1, a2, a3, a4, a5, a6, a7, a8⟩ | ⟨bs, a1, a2, a3, a4, a5, a6⟩ | ⟨f, t, b, a1, a2, a3, a4, a5, a6⟩ | ⟨l, a1, a2, a3, a4, a5⟩ | ⟨f, a1, a6⟩
      · have HC : Hid (g = 0 ∧ os = os1 ++ bs ∧ P = p1 + 40 + 8 * bs.length) := ⟨a6, a7, a8⟩
        clear a6 a7 a8
        go_wp2_with fail
        refine (block_stored w.heap.size S R n X p1 os1 bs m 1 wr HS.out a2 a3 a4 a5 (by omega) a1).mono ?_
        rintro e w2 ⟨rfl, h2, f2⟩
        have H2 : Hid (Stm w2 w.heap.size S R n X P os m) := by
          show Stm _ _ _ _ _ _ _ _ _
          rw [HC.out.2.1, HC.out.2.2]
          exact h2
        have B2 : Hid (Below w.heap.size w w2) := HB.out.trans f2.bel
        clear h2 f2 a1 a2 a3 a4 a5 HS HB
        go_wp2
        go_roundg k1
        case measure => have := HK.out; omega
        case rel => exact ⟨B2, .inr ⟨rfl, HC.out.1, H2⟩⟩
      · have HC : Hid (Inf X n m k1 (p1 + 40 + 8 * bs.length) (os1 ++ bs) g os P) := a6
        clear a6
        go_wp2_with fail
        refine (block_stored w.heap.size S R n X p1 os1 bs m 0 wr HS.out a2 a3 a4 a5 (by omega) a1).mono ?_
        rintro e w2 ⟨rfl, h2, f2⟩
        have H2 : Hid (Stm w2 w.heap.size S R n X (p1 + 40 + 8 * bs.length) (os1 ++ bs) m) := h2
        have B2 : Hid (Below w.heap.size w w2) := HB.out.trans f2.bel
        clear h2 f2 a1 a2 a3 a4 a5 HS HB
        go_wp2
        go_roundg k1
        case measure => have := HK.out; omega
        case rel => exact ⟨B2, .inl ⟨rfl, _, _, HC, H2⟩⟩
      · have HC : Hid (g = 2) := a6
        clear a6
        go_wp2_with fail
        refine (block_wrong w.heap.size S R n X p1 os1 m b f t wr HS.out a2 a3 a4 (by omega) a1 a5).mono ?_
        rintro e w2 ⟨rfl, f2⟩
        have B2 : Hid (Below w.heap.size w w2) := HB.out.trans f2.bel
        clear f2 a1 a2 a3 a4 a5 HS HB
        go_wp2
        go_ret3
        obtain ⟨x1, x2, x3⟩ | ⟨x1, x2, x3⟩ := HF.out
        · have := HC.out; omega
        · have hx0 : lx' = 0 := by rw [HX.out, x2]; rfl
          rw [hx0, x3, HC.out, x2]
          exact ⟨none, 0, rfl, Rd.nil _, B2.out⟩
      · have HC : Hid (play m l os1 = (g, os)) := a4
        have HP : Hid (p1 + 3 + fb (encs l) + 7 = P) := a5
        clear a4 a5
        go_wp2_with fail
        refine (block_fixed w.heap.size S R n X p1 os1 m 1 l wr HS.out a2 (by omega) a3 a1 (g, os) HC.out P HP.out).mono ?_
        rintro e w2 ⟨rfl, h2, f2⟩
        simp only
        have H2 : Hid (g = 0 → Stm w2 w.heap.size S R n X P os m) := h2
        have B2 : Hid (Below w.heap.size w w2) := HB.out.trans f2.bel
        clear h2 f2 a1 a2 a3 HS HB
        by_cases hg : g = 0
        · have HG : Hid (g = 0) := hg
          have dg : (g == 0) = true := by simp [hg]
          clear hg
          go_wp2
          go_roundg k1
          case measure => have := HK.out; omega
          case rel => exact ⟨B2, .inr ⟨rfl, HG, H2.out HG.out⟩⟩
        · have dg : (g == 0) = false := by simp [hg]
          go_wp2
          go_ret3
          obtain ⟨x1, x2, x3⟩ | ⟨x1, x2, x3⟩ := HF.out
          · exact absurd x1 hg
          · have hx0 : lx' = 0 := by rw [HX.out, x2]; rfl
            rw [hx0, x3, x2]
            exact ⟨none, 0, rfl, Rd.nil _, B2.out⟩
      · have HC : Hid (g = 2) := a6
        clear a6
        go_wp2_with fail
        refine (block_three w.heap.size S R n X p1 os1 m f wr HS.out a1).mono ?_
        rintro e w2 ⟨rfl, f2⟩
        have B2 : Hid (Below w.heap.size w w2) := HB.out.trans f2.bel
        clear f2 a1 HS HB
        go_wp2
        go_ret3
        obtain ⟨x1, x2, x3⟩ | ⟨x1, x2, x3⟩ := HF.out
        · have := HC.out; omega
        · have hx0 : lx' = 0 := by rw [HX.out, x2]; rfl
          rw [hx0, x3, HC.out, x2]
          exact ⟨none, 0, rfl, Rd.nil _, B2.out⟩
    · obtain ⟨x1, x2, x3⟩ | ⟨x1, x2, x3⟩ := HF.out
      · have c0 := HS.out.c0
        obtain ⟨ya, yc, c1, hrd⟩ := HS.out.c1
        obtain ⟨ra', rc', vv, hS⟩ := HS.out.drew
        rw [← x2, ← HX.out] at c1
        rw [← x2, ← HX.out] at hrd
        have hrd' : Rd wr.drew ya lx' yc xs := hrd.keep (Below.refl _ _).drew
        have HR : Hid (Rd wr.drew ya lx' yc xs) := hrd'
        have HU : Hid (u = (P + 7) / 8) := x3
        have hpast := past_any R ra' n rc' X P wr.drew hS.rd
        clear hrd hrd' x1 x2 x3 hS HS
        go_wp2_with fail
        go_region_with (go_at_call 35; refine hpast.mono ?_; rintro e w9 ⟨rfl, hw⟩; subst w9)
        all_goals
          go_wp2_with fail
          go_ret3
          rw [HG.out, HU.out]
          exact ⟨ya, yc, rfl, HR.out, HB.out.drew⟩
      · exact absurd HG.out x1

end Go.Proofs.YtiahbicodlgmhaaGreatDoor

/- told: a block ahead of which its own codes stand. -/
namespace Go.Proofs.YtiahbicodlgmhaaGreatDoor
open Go.RowKit

/-- What stands ahead of the symbols of a block of its own codes: how many lengths, the lengths' code, the lengths. -/
structure Hd (vs : List Nat) (qs : List Cl) (fs : List Int) (nl nd : Nat) : Prop where
  l0 : 257 ≤ nl
  l1 : nl ≤ 286
  d0 : 1 ≤ nd
  d1 : nd ≤ 30
  v4 : 4 ≤ vs.length
  v19 : vs.length ≤ 19
  cn : nw (ck vs vs.length) 19 false = 0
  cf : Fits (ck vs vs.length) 19
  ok : clsOk (ck vs vs.length) qs []
  all : cls qs [] = fs
  len : fs.length = nl + nd
  an : nw (fun j => fs.getD j 0) nl true = 0
  af : Fits (fun j => fs.getD j 0) nl
  dn : nw (fun j => fs.getD (nl + j) 0) nd true = 0
  df : Fits (fun j => fs.getD (nl + j) 0) nd
  e0 : 0 < fs.getD 256 0
  e15 : fs.getD 256 0 ≤ 15

/-- Its fields. -/
def hdf (vs : List Nat) (qs : List Cl) (nl nd : Nat) : List Fd :=
  (((nl - 257 : Nat) : Int), 5) :: (((nd - 1 : Nat) : Int), 5) :: ((((vs.length - 4 : Nat) : Int), 4) :: vfs vs) ++ encC (ck vs vs.length) qs

theorem vfs_fb (vs : List Nat) : fb (vfs vs) = 3 * vs.length := by
  induction vs with
  | nil => rfl
  | cons v vs ih => simp only [vfs, fb, ih, List.length_cons]; omega

theorem IsS.sw {w w' : World} {B S R : Nat} {ao : Option Addr} {n c : Nat} {X : Int} {p : Nat} {v : Value} {os : List Int} {m : Int} (h : IsS w B S R ao n c X p v os m) (hf : Fr (fun k => k = R) w w') : Sw B w w' :=
  ⟨hf.below B h.bB (fun i hi e => by have := h.bR; omega), Kt.row h.rd.row (by decide) hf⟩

set_option maxRecDepth 100000 in
set_option maxHeartbeats 2000000 in
theorem stold_any (B S R : Nat) (ao : Option Addr) (n c : Nat) (X : Int) (p : Nat) (v : Value) (os : List Int) (m : Nat) (vs : List Nat) (qs : List Cl) (fs : List Int) (nl nd : Nat) (l : List It) (w : World) (h : IsS w B S R ao n c X p v os m) (hT : Tab w 0) (hB0 : 0 < B) (hH : Hd vs qs fs nl nd)
    (hok : ∀ i ∈ l, i.okG (fun j => fs.getD j 0) nl (fun j => fs.getD (nl + j) 0) nd) (hl : Lay X n p (hdf vs qs nl nd ++ (encsG (fun j => fs.getD j 0) nl (fun j => fs.getD (nl + j) 0) nd l ++ [gf (fun j => fs.getD j 0) nl 256]))) (hm : m ≤ 1000000) (hL : os.length ≤ m) (G : Int × List Int) (hG : play m l os = G) (P : Nat)
    (hP : p + fb (hdf vs qs nl nd) + fb (encsG (fun j => fs.getD j 0) nl (fun j => fs.getD (nl + j) 0) nd l) + (fs.getD 256 0).toNat = P) :
    Calls Tryz.prog 64 #[.pointer (some ⟨S, 0, none⟩)] w fun e w' => e = .returned (.int .i64 G.1) ∧ (G.1 = 0 → Stm w' B S R n X P G.2 m) ∧ Sw B w w' := by
  obtain ⟨G1, G2⟩ := G
  simp only
  have hl0 := hl.front
  have htl := hl.tail
  simp only [hdf, List.cons_append] at hl0
  obtain ⟨e1, p1, hl1⟩ := hl0.head
  obtain ⟨e2, p2', hl2⟩ := hl1.head
  simp only at e1 p1 e2 p2'
  have hl2' : Lay X n (p + 5 + 5) (((((vs.length - 4 : Nat) : Int), 4) :: vfs vs) ++ encC (ck vs vs.length) qs) := hl2
  have hl3 := hl2'.front
  have hl4 := hl2'.tail
  simp only [fb, vfs_fb] at hl4
  have hc1 := scount_S B S R ao n c X p v os m 5 257 286 w h (by omega) p1 (by omega) (by rw [e1]; have := hH.l1; omega)
  rw [e1, show ((257 : Nat) : Int) + ((nl - 257 : Nat) : Int) = (nl : Int) by have := hH.l0; omega] at hc1
  have hpp : p + fb (hdf vs qs nl nd) = p + 5 + 5 + (4 + 3 * vs.length) + fb (encC (ck vs vs.length) qs) := by
    simp only [hdf, List.cons_append, fb, fb_app, vfs_fb]
    omega
  rw [hpp] at htl hP
  have HS : Hid (IsS w B S R ao n c X p v os m) := h
  have HH : Hid (Hd vs qs fs nl nd) := hH
  have HL3 : Hid (Lay X n (p + 5 + 5) ((((vs.length - 4 : Nat) : Int), 4) :: vfs vs)) := hl3
  have HL4 : Hid (Lay X n (p + 5 + 5 + (4 + 3 * vs.length)) (encC (ck vs vs.length) qs)) := hl4
  have HTL : Hid (Lay X n (p + 5 + 5 + (4 + 3 * vs.length) + fb (encC (ck vs vs.length) qs)) (encsG (fun j => fs.getD j 0) nl (fun j => fs.getD (nl + j) 0) nd l ++ [gf (fun j => fs.getD j 0) nl 256])) := htl
  have HP : Hid (p + 5 + 5 + (4 + 3 * vs.length) + fb (encC (ck vs vs.length) qs) + fb (encsG (fun j => fs.getD j 0) nl (fun j => fs.getD (nl + j) 0) nd l) + (fs.getD 256 0).toNat = P) := hP
  have HT : Hid (Tab w 0) := hT
  have HOK : Hid (∀ i ∈ l, i.okG (fun j => fs.getD j 0) nl (fun j => fs.getD (nl + j) 0) nd) := hok
  have HG : Hid (play m l os = (G1, G2)) := hG
  have HE2 : Hid (X / 2 ^ (p + 5) % 2 ^ 5 = ((nd - 1 : Nat) : Int) ∧ p + 5 + 5 ≤ 8 * n) := ⟨e2, p2'⟩
  have hl01 := hH.l0
  have hl02 := hH.l1
  have hd01 := hH.d0
  have hd02 := hH.d1
  clear hl hl0 htl hl1 hl2 hl2' hl3 hl4 e1 p1 e2 p2' hpp hP hT hok hG h hH
  go_enter Tryz.func64, Tryz.ntmps64
  go_wp2_with fail
  refine hc1.mono ?_
  rintro e w1 ⟨rfl, hs1, _, hf1⟩
  have hc2 := scount_S B S R ao n c X (p + 5) v os m 5 1 30 w1 hs1 (by omega) HE2.out.2 (by omega) (by rw [HE2.out.1]; omega)
  rw [HE2.out.1, show ((1 : Nat) : Int) + ((nd - 1 : Nat) : Int) = (nd : Int) by omega] at hc2
  clear hc1
  go_wp2_with fail
  refine hc2.mono ?_
  rintro e w2 ⟨rfl, hs2, _, hf2⟩
  have F2 : Fr (fun k => k = R) w w2 := hf1.trans hf2 (fun _ _ e => e)
  have hT2 : Tab w2 0 := fun k hk => by
    have h0 := HT.out k hk
    rw [World.cell?_of_block (F2.block 0 (World.block_lt_of_cell? w _ h0) (fun e => by have := HS.out.bR; omega))]
    exact h0
  have hc3 := slcode_S B S R ao n c X (p + 5 + 5) v os m vs w2 hs2 hT2 hB0 HH.out.v4 HH.out.v19 HL3.out HH.out.cn
  clear hc2 hs1 hf1 hf2 hs2 hT2
  go_wp2_with fail
  refine hc3.mono ?_
  rintro e w3 ⟨A, rfl, hC, hs3, hf3⟩
  have F3 : Fr (fun k => k = R) w w3 := F2.trans hf3 (fun _ _ e => e)
  rw [show p + 5 + 5 + 4 + 3 * vs.length = p + 5 + 5 + (4 + 3 * vs.length) by omega] at hs3
  have hc4 := slens_S (ck vs vs.length) HH.out.cf B S R ao n c X _ v os m A qs fs (nl + nd) _ w3 hs3 hC HH.out.ok HH.out.all HH.out.len (by omega) HL4.out rfl
  have HF3 : Hid (Fr (fun k => k = R) w w3) := F3
  clear hc3 hf3 F2 F3 hs3 hC
  go_wp2_with fail
  refine hc4.mono ?_
  rintro e w4 ⟨v4, rfl, o4, hs4, hf4⟩
  rw [lens_iv fs (nl + nd) HH.out.len] at o4
  obtain ⟨la, lc, rfl, r4, _⟩ := own_ri o4
  obtain ⟨g, off, rfl, hcell⟩ := r4.plain (by omega)
  have hle := r4.le
  have hc256 := hcell 256 (by omega)
  have he0 := HH.out.e0
  obtain ⟨x, hx⟩ : ∃ x, x = fs.getD 256 0 := ⟨_, rfl⟩
  rw [← hx] at hc256 he0
  have z0 : (x == 0) = false := by simp; omega
  have z1 : 256 < nl + nd := by omega
  have HA : Hid (Ri w4 (some ⟨g, off, none⟩) nl lc (fun j => fs.getD j 0)) := ⟨by omega, (fun e => by cases e), fun ad had j hj => r4.cells ad had j (by omega)⟩
  have HD : Hid (Ri w4 (some ⟨g, off + nl, none⟩) nd (lc - nl) (fun j => fs.getD (nl + j) 0)) := ⟨by omega, (fun e => by cases e), fun ad had j hj => by
    cases had
    rw [Addr.add_lit, Nat.add_assoc]
    exact hcell (nl + j) (by omega)⟩
  have F4 : Hid (Fr (fun k => k = R) w w4) := HF3.out.trans hf4 (fun _ _ e => e)
  have HS4 : Hid (IsS w4 B S R ao n c X (p + 5 + 5 + (4 + 3 * vs.length) + fb (encC (ck vs vs.length) qs)) v os m) := hs4
  have z2 : ¬ lc = nl := by omega
  have z3 : nl ≤ lc := by omega
  have z4 : nl + nd ≤ lc := hle
  clear hc4 o4 r4 hcell hs4 hf4 HF3 hx
  have hcod := scoded_g (fun j => fs.getD j 0) nl (fun j => fs.getD (nl + j) 0) nd HH.out.an HH.out.dn HH.out.af HH.out.df ⟨by omega, HH.out.e0, HH.out.e15⟩ B S R n X _ os m (some ⟨g, off, none⟩) lc (some ⟨g, off + nl, none⟩) (lc - nl) l w4.drew ⟨ao, c, v, HS4.out.drew⟩ HA.out.drew HD.out.drew HOK.out HTL.out hm hL (G1, G2) HG.out P HP.out
  have z5 : nl + nd - nl = nd := by omega
  go_wp2_with fail
  go_region_with (go_at_call 62; refine hcod.mono ?_; rintro e w5 ⟨rfl, h5, f5⟩)
  all_goals
    (try simp only [List.getElem_toArray, List.getElem_cons_zero, List.getElem_cons_succ, Act.put, List.setIfInBounds_toArray, List.set_cons_zero, List.set_cons_succ])
    have HW5 : Hid (Sw B w w5) := (HS.out.sw F4.out).drew.trans f5
    have H5 : Hid (G1 = 0 → Stm w5 B S R n X P G2 m) := h5
    clear h5 f5 hcod HA HD
    go_wp2
    go_ret
    exact ⟨rfl, H5.out, HW5.out⟩

end Go.Proofs.YtiahbicodlgmhaaGreatDoor

/- Inflate, over whatever its blocks do. -/
namespace Go.Proofs.YtiahbicodlgmhaaGreatDoor.Z
open Go.RowKit

/-- What one block does from bit p on, os being there: the error, or 0, what is there then, and where it ends. -/
def Blk (X : Int) (n m p : Nat) (os : List Int) (f : Bool) (g : Int) (os' : List Int) (p' : Nat) : Prop :=
  ∀ (w : World) (B S R : Nat), Stm w B S R n X p os m → Tab w 0 → 0 < B → Calls Tryz.prog 34 #[.pointer (some ⟨S, 0, none⟩)] w fun e w' => ∃ f', e = .returned (.tuple #[.bool f', .int .i64 g]) ∧ (g = 0 → f' = f ∧ Stm w' B S R n X p' os' m) ∧ Sw B w w'

/-- Blocks one after the other. -/
inductive InfB (X : Int) (n m : Nat) : Nat → Nat → List Int → Int → List Int → Nat → Prop
  | last (k p : Nat) (os os' : List Int) (p' : Nat) : Blk X n m p os true 0 os' p' → InfB X n m (k + 1) p os 0 os' p'
  | more (k p : Nat) (os os1 : List Int) (p1 : Nat) (g : Int) (os' : List Int) (p' : Nat) : Blk X n m p os false 0 os1 p1 → InfB X n m k p1 os1 g os' p' → InfB X n m (k + 1) p os g os' p'
  | err (k p : Nat) (os : List Int) (f : Bool) (g : Int) (os1 : List Int) (p1 : Nat) (os' : List Int) (p' : Nat) : Blk X n m p os f g os1 p1 → g ≠ 0 → InfB X n m (k + 1) p os g os' p'

theorem InfB.inv {X : Int} {n m gk p : Nat} {os : List Int} {g : Int} {os' : List Int} {P : Nat} (h : InfB X n m gk p os g os' P) : ∃ k, gk = k + 1 ∧
    ((Blk X n m p os true 0 os' P ∧ g = 0) ∨ (∃ os1 p1, Blk X n m p os false 0 os1 p1 ∧ InfB X n m k p1 os1 g os' P) ∨ (∃ f os1 p1, Blk X n m p os f g os1 p1 ∧ g ≠ 0)) := by
  cases h with
  | last k p os os' p' a => exact ⟨k, rfl, .inl ⟨a, rfl⟩⟩
  | more k p os os1 p1 g os' p' a b => exact ⟨k, rfl, .inr (.inl ⟨os1, p1, a, b⟩)⟩
  | err k p os f g os1 p1 os' p' a b => exact ⟨k, rfl, .inr (.inr ⟨f, os1, p1, a, b⟩)⟩

theorem tab_below {w w' : World} {G : Nat} (h : Tab w G) (hb : Below w.heap.size w w') : Tab w' G := fun j hj => by
  have := h j hj
  rw [hb.cell (World.block_lt_of_cell? _ _ this)]
  exact this

theorem tab_pos {w : World} (h : Tab w 0) : 0 < w.heap.size := World.block_lt_of_cell? _ _ (h 0 (by omega))

set_option maxRecDepth 100000 in
set_option maxHeartbeats 2000000 in
theorem inflate_b (ao : Option Addr) (n c : Nat) (X : Int) (m k : Nat) (g : Int) (os : List Int) (P : Nat) (xs : List Int) (u : Nat) (w : World) (h : Rd w ao n c (by8 X n)) (hn : n ≤ 1000000000) (hm : m ≤ 262144) (hT : Tab w 0) (hI : InfB X n m k 0 [] g os P) (hF : Fin7 g os P xs u) :
    Calls Tryz.prog 16 #[.slice ao n c, .int .i64 m] w fun e w' => ∃ xo xc, e = .returned (.tuple #[.slice xo xs.length xc, .int .i64 u, .int .i64 g]) ∧ Rd w' xo xs.length xc xs ∧ Below w.heap.size w w' := by
  have d1 : decide ((m : Int) < 0) = false := by simp
  have d2 : decide ((262144 : Int) < m) = false := by simp; omega
  have HI : Hid (InfB X n m k 0 [] g os P) := hI
  have HF : Hid (Fin7 g os P xs u) := hF
  have HT : Hid (Tab w 0) := hT
  obtain ⟨lx', hlx⟩ : ∃ l, l = xs.length := ⟨_, rfl⟩
  have HX : Hid (lx' = xs.length) := hlx
  rw [← hlx]
  clear hI hF hlx hT
  go_enter Tryz.func16, Tryz.ntmps16
  go_wp2_with (go_at_call 33; refine (newR_any ao n c X w h hn).mono ?_; rintro e w1 ⟨R, ra, rc, rfl, hr, hR, _, b1⟩)
  have hs := new_stm (m : Int) hr hR b1
  have bA : Below w.heap.size w (w1.alloc (Obj.cells #[Value.pointer (some ⟨R, 0, none⟩), Value.slice none 0 0, Value.int .i64 m] 71)) := b1.alloc b1.size _
  have HS : Hid (Stm (w1.alloc (Obj.cells #[Value.pointer (some ⟨R, 0, none⟩), Value.slice none 0 0, Value.int .i64 m] 71)) w.heap.size w1.heap.size R n X 0 [] m) := hs
  have HB : Hid (Below w.heap.size w (w1.alloc (Obj.cells #[Value.pointer (some ⟨R, 0, none⟩), Value.slice none 0 0, Value.int .i64 m] 71))) := bA
  clear hs bA hr hR b1 h
  generalize w1.heap.size = S at *
  generalize (w1.alloc (Obj.cells #[Value.pointer (some ⟨R, 0, none⟩), Value.slice none 0 0, Value.int .i64 m] 71)) = W at *
  go_loopg [6, 8] k (fun gk ev lv wr => Hid (Below w.heap.size w wr) ∧ ((lv = .bool false ∧ ∃ p1 os1, Hid (InfB X n m gk p1 os1 g os P) ∧ Hid (Stm wr w.heap.size S R n X p1 os1 m)) ∨ (lv = .bool true ∧ Hid (g = 0) ∧ Hid (Stm wr w.heap.size S R n X P os m))))
  case atStart => exact ⟨HB, .inl ⟨rfl, 0, [], HI, HS⟩⟩
  case round =>
    clear HB HI HS
    obtain ⟨HB, ⟨rfl, p1, os1, HI, HS⟩ | ⟨rfl, HG, HS⟩⟩ := hrel
    · obtain ⟨k1, hk1, hcase⟩ := HI.out.inv
      have HK : Hid (gk = k1 + 1) := hk1
      clear hk1 HI
      rcases hcase with ⟨a1, a2⟩ | ⟨os2, p2, a1, a2⟩ | ⟨f, os2, p2, a1, a2⟩
      · have HC : Hid (g = 0) := a2
        clear a2
        go_wp2_with fail
        refine (a1 wr w.heap.size S R HS.out (tab_below HT.out HB.out) (tab_pos HT.out)).mono ?_
        rintro e w2 ⟨f', rfl, h2, f2⟩
        obtain ⟨hf, h3⟩ := h2 rfl
        subst hf
        have H2 : Hid (Stm w2 w.heap.size S R n X P os m) := h3
        have B2 : Hid (Below w.heap.size w w2) := HB.out.trans f2.bel
        clear h2 h3 f2 a1 HS HB
        go_wp2
        go_roundg k1
        case measure => have := HK.out; omega
        case rel => exact ⟨B2, .inr ⟨rfl, HC, H2⟩⟩
      · have HC : Hid (InfB X n m k1 p2 os2 g os P) := a2
        clear a2
        go_wp2_with fail
        refine (a1 wr w.heap.size S R HS.out (tab_below HT.out HB.out) (tab_pos HT.out)).mono ?_
        rintro e w2 ⟨f', rfl, h2, f2⟩
        obtain ⟨hf, h3⟩ := h2 rfl
        subst hf
        have H2 : Hid (Stm w2 w.heap.size S R n X p2 os2 m) := h3
        have B2 : Hid (Below w.heap.size w w2) := HB.out.trans f2.bel
        clear h2 h3 f2 a1 HS HB
        go_wp2
        go_roundg k1
        case measure => have := HK.out; omega
        case rel => exact ⟨B2, .inl ⟨rfl, _, _, HC, H2⟩⟩
      · have dg : (g == 0) = false := by simp [a2]
        have HC : Hid (g ≠ 0) := a2
        clear a2
        go_wp2_with fail
        refine (a1 wr w.heap.size S R HS.out (tab_below HT.out HB.out) (tab_pos HT.out)).mono ?_
        rintro e w2 ⟨f', rfl, _, f2⟩
        have B2 : Hid (Below w.heap.size w w2) := HB.out.trans f2.bel
        clear f2 a1 HS HB
        go_wp2
        go_ret3
        obtain ⟨x1, x2, x3⟩ | ⟨x1, x2, x3⟩ := HF.out
        · exact absurd x1 HC.out
        · have hx0 : lx' = 0 := by rw [HX.out, x2]; rfl
          rw [hx0, x3, x2]
          exact ⟨none, 0, rfl, Rd.nil _, B2.out⟩
    · obtain ⟨x1, x2, x3⟩ | ⟨x1, x2, x3⟩ := HF.out
      · have c0 := HS.out.c0
        obtain ⟨ya, yc, c1, hrd⟩ := HS.out.c1
        obtain ⟨ra', rc', vv, hS⟩ := HS.out.drew
        rw [← x2, ← HX.out] at c1
        rw [← x2, ← HX.out] at hrd
        have hrd' : Rd wr.drew ya lx' yc xs := hrd.keep (Below.refl _ _).drew
        have HR : Hid (Rd wr.drew ya lx' yc xs) := hrd'
        have HU : Hid (u = (P + 7) / 8) := x3
        have hpast := past_any R ra' n rc' X P wr.drew hS.rd
        clear hrd hrd' x1 x2 x3 hS HS
        go_wp2_with fail
        go_region_with (go_at_call 35; refine hpast.mono ?_; rintro e w9 ⟨rfl, hw⟩; subst w9)
        all_goals
          go_wp2_with fail
          go_ret3
          rw [HG.out, HU.out]
          exact ⟨ya, yc, rfl, HR.out, HB.out.drew⟩
      · exact absurd HG.out x1

/-- A block of its own codes. -/
theorem block_told (B S R : Nat) (n : Nat) (X : Int) (p : Nat) (os : List Int) (m : Nat) (f : Int) (vs : List Nat) (qs : List Cl) (fs : List Int) (nl nd : Nat) (l : List It) (w : World) (h : Stm w B S R n X p os m) (hT : Tab w 0) (hB0 : 0 < B) (hH : Hd vs qs fs nl nd)
    (hok : ∀ i ∈ l, i.okG (fun j => fs.getD j 0) nl (fun j => fs.getD (nl + j) 0) nd) (hl : Lay X n p ((f, 1) :: (2, 2) :: (hdf vs qs nl nd ++ (encsG (fun j => fs.getD j 0) nl (fun j => fs.getD (nl + j) 0) nd l ++ [gf (fun j => fs.getD j 0) nl 256])))) (hm : m ≤ 1000000) (hL : os.length ≤ m) (G : Int × List Int) (hG : play m l os = G) (P : Nat)
    (hP : p + 3 + fb (hdf vs qs nl nd) + fb (encsG (fun j => fs.getD j 0) nl (fun j => fs.getD (nl + j) 0) nd l) + (fs.getD 256 0).toNat = P) :
    Calls Tryz.prog 34 #[.pointer (some ⟨S, 0, none⟩)] w fun e w' => e = .returned (.tuple #[.bool (f == 1), .int .i64 G.1]) ∧ (G.1 = 0 → Stm w' B S R n X P G.2 m) ∧ Sw B w w' := by
  obtain ⟨e1, p1, hl1⟩ := hl.head
  obtain ⟨e2, p2', hl2⟩ := hl1.head
  simp only at e1 p1 e2 p2'
  have HL : Hid (Lay X n (p + 1 + 2) (hdf vs qs nl nd ++ (encsG (fun j => fs.getD j 0) nl (fun j => fs.getD (nl + j) 0) nd l ++ [gf (fun j => fs.getD j 0) nl 256]))) := hl2
  have HP : Hid (p + 1 + 2 + fb (hdf vs qs nl nd) + fb (encsG (fun j => fs.getD j 0) nl (fun j => fs.getD (nl + j) 0) nd l) + (fs.getD 256 0).toNat = P) := by show _ = _; omega
  have HG : Hid (play m l os = G) := hG
  have HH : Hid (Hd vs qs fs nl nd) := hH
  have HT : Hid (Tab w 0) := hT
  have HOK : Hid (∀ i ∈ l, i.okG (fun j => fs.getD j 0) nl (fun j => fs.getD (nl + j) 0) nd) := hok
  clear hl hl1 hl2 hP hG hH hT hok
  obtain ⟨G1, G2⟩ := G
  simp only
  go_enter Tryz.func34, Tryz.ntmps34
  go_wp2_with fail
  refine (sget_any B S R n X p 1 os m w h (by omega) p1).mono ?_
  rintro e w1 ⟨rfl, h1, f1⟩
  rw [e1]
  clear h
  go_wp2_with fail
  refine (sget_any B S R n X (p + 1) 2 os m w1 h1 (by omega) p2').mono ?_
  rintro e w2 ⟨rfl, h2, f2⟩
  rw [e2]
  have F2 : Hid (Sw B w w2) := f1.trans f2
  clear h1 f1 f2 e1 e2 p1 p2'
  obtain ⟨ao, c, v, h2⟩ := h2
  have HT2 : Tab w2 0 := fun j hj => by
    rw [F2.out.bel.cell hB0]
    exact HT.out j hj
  have hst := stold_any B S R ao n c X (p + 1 + 2) v os m vs qs fs nl nd l w2 h2 HT2 hB0 HH.out HOK.out HL.out hm hL (G1, G2) HG.out P HP.out
  clear h2 HT2 HL HP
  go_wp2_with (go_at_call 64; refine hst.mono ?_; rintro e w4 ⟨rfl, h4, f4⟩)
  have F4 : Hid (Sw B w w4) := F2.out.trans f4
  have H4 : Hid (G1 = 0 → Stm w4 B S R n X P G2 m) := h4
  clear h4 f4 F2 hst
  go_wp2
  go_ret2
  exact ⟨rfl, H4.out, F4.out⟩

end Go.Proofs.YtiahbicodlgmhaaGreatDoor.Z
