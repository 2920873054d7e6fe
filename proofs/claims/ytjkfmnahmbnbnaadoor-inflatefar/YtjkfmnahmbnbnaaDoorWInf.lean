/- Inflate. -/
import Derived.Test.YtjkfmnahmbnbnaaDoorWBlock
namespace Go.Proofs.YtjkfmnahmbnbnaaDoor
open Go.RowKit

/-- In at most k blocks from bit p on, os being there already: the error, or 0 and what came, and where it ended. -/
inductive Inf (X : Int) (n m : Nat) : Nat → Nat → List Int → Int → List Int → Nat → Prop
  | last (k p : Nat) (os bs : List Int) : Lay X n p ((1, 1) :: (0, 2) :: (0, 5) :: ((bs.length : Int), 16) :: (65535 - (bs.length : Int), 16) :: bfs bs) → p % 8 = 0 → (∀ x ∈ bs, 0 ≤ x ∧ x < 256) → bs.length ≤ 65535 → os.length + bs.length ≤ m → Inf X n m (k + 1) p os 0 (os ++ bs) (p + 40 + 8 * bs.length)
  | more (k p : Nat) (os bs : List Int) (g : Int) (os' : List Int) (p' : Nat) : Lay X n p ((0, 1) :: (0, 2) :: (0, 5) :: ((bs.length : Int), 16) :: (65535 - (bs.length : Int), 16) :: bfs bs) → p % 8 = 0 → (∀ x ∈ bs, 0 ≤ x ∧ x < 256) → bs.length ≤ 65535 → os.length + bs.length ≤ m → Inf X n m k (p + 40 + 8 * bs.length) (os ++ bs) g os' p' → Inf X n m (k + 1) p os g os' p'
  | wrong (k p : Nat) (os : List Int) (f t : Int) (b : Nat) (os' : List Int) (p' : Nat) : Lay X n p ((f, 1) :: (0, 2) :: [(0, 5), ((b : Int), 16), (t, 16)]) → p % 8 = 0 → b ≤ 65535 → os.length + b ≤ m → t ≠ 65535 - (b : Int) → Inf X n m (k + 1) p os 2 os' p'
  | fixed (k p : Nat) (os : List Int) (l : List It) (g : Int) (os' : List Int) (p' : Nat) : Lay X n p ((1, 1) :: (1, 2) :: (encs l ++ [sf 256])) → (∀ i ∈ l, i.ok) → os.length ≤ m → play m l os = (g, os') → p + 3 + fb (encs l) + 7 = p' → Inf X n m (k + 1) p os g os' p'
  | three (k p : Nat) (os : List Int) (f : Int) (os' : List Int) (p' : Nat) : Lay X n p [(f, 1), (3, 2)] → Inf X n m (k + 1) p os 2 os' p'

theorem Inf.inv {X : Int} {n m gk p : Nat} {os : List Int} {g : Int} {os' : List Int} {P : Nat} (h : Inf X n m gk p os g os' P) : ∃ k, gk = k + 1 ∧
    ((∃ bs, Lay X n p ((1, 1) :: (0, 2) :: (0, 5) :: ((bs.length : Int), 16) :: (65535 - (bs.length : Int), 16) :: bfs bs) ∧ p % 8 = 0 ∧ (∀ x ∈ bs, 0 ≤ x ∧ x < 256) ∧ bs.length ≤ 65535 ∧ os.length + bs.length ≤ m ∧ g = 0 ∧ os' = os ++ bs ∧ P = p + 40 + 8 * bs.length) ∨
     (∃ bs, Lay X n p ((0, 1) :: (0, 2) :: (0, 5) :: ((bs.length : Int), 16) :: (65535 - (bs.length : Int), 16) :: bfs bs) ∧ p % 8 = 0 ∧ (∀ x ∈ bs, 0 ≤ x ∧ x < 256) ∧ bs.length ≤ 65535 ∧ os.length + bs.length ≤ m ∧ Inf X n m k (p + 40 + 8 * bs.length) (os ++ bs) g os' P) ∨
     (∃ f t b, Lay X n p ((f, 1) :: (0, 2) :: [(0, 5), (((b : Nat) : Int), 16), (t, 16)]) ∧ p % 8 = 0 ∧ b ≤ 65535 ∧ os.length + b ≤ m ∧ t ≠ 65535 - (b : Int) ∧ g = 2) ∨
     (∃ l, Lay X n p ((1, 1) :: (1, 2) :: (encs l ++ [sf 256])) ∧ (∀ i ∈ l, i.ok) ∧ os.length ≤ m ∧ play m l os = (g, os') ∧ p + 3 + fb (encs l) + 7 = P) ∨
     (∃ f, Lay X n p [(f, 1), (3, 2)] ∧ g = 2)) := by
  cases h with
  | last k p os bs a b c d e => exact ⟨k, rfl, .inl ⟨bs, a, b, c, d, e, rfl, rfl, rfl⟩⟩
  | more k p os bs g os' p' a b c d e f => exact ⟨k, rfl, .inr (.inl ⟨bs, a, b, c, d, e, f⟩)⟩
  | wrong k p os f t b os' p' a c d e x => exact ⟨k, rfl, .inr (.inr (.inl ⟨f, t, b, a, c, d, e, x, rfl⟩))⟩
  | fixed k p os l g os' p' a b c d e => exact ⟨k, rfl, .inr (.inr (.inr (.inl ⟨l, a, b, c, d, e⟩)))⟩
  | three k p os f os' p' a => exact ⟨k, rfl, .inr (.inr (.inr (.inr ⟨f, a, rfl⟩)))⟩

/-- What Inflate answers. -/
def Fin7 (g : Int) (os : List Int) (p : Nat) (xs : List Int) (u : Nat) : Prop := (g = 0 ∧ xs = os ∧ u = (p + 7) / 8) ∨ (g ≠ 0 ∧ xs = [] ∧ u = 0)

theorem new_stm {w w1 : World} {R : Nat} {ao : Option Addr} {n c : Nat} {X : Int} (m : Int) (hr : IsR w1 R ao n c X 0) (hR : w.heap.size ≤ R) (hb : Below w.heap.size w w1) :
    Stm (w1.alloc (Obj.cells #[Value.pointer (some ⟨R, 0, none⟩), Value.slice none 0 0, Value.int .i64 m] 59)) w.heap.size w1.heap.size R n X 0 [] m := by
  have bA : Below w1.heap.size w1 (w1.alloc (Obj.cells #[Value.pointer (some ⟨R, 0, none⟩), Value.slice none 0 0, Value.int .i64 m] 59)) := (Below.refl _ _).alloc (Nat.le_refl _) _
  refine ⟨ao, c, .slice none 0 0, ⟨?_, hr.keep bA, ?_, (fun x hx => by cases hx), (by simp [Value.ownBlock]), (by simp [Value.ownBlock]), ?_, (fun _ _ _ => by simp [Value.ownBlock]), ?_, hb.size, hR, (fun k hk => by simp [Value.ownBlock] at hk)⟩⟩
  · exact World.rowIs_alloc w1 _ 59 _ (fun i hi => by
      simp at hi
      rcases i with _ | _ | _ | i <;> first | rfl | omega)
  · exact World.ownsRow_nil _ _ _ _
  · intro ad had hn e
    have hc := hr.rd.cells ad had 0 hn
    have := World.block_lt_of_cell? w1 _ hc
    rw [show (ad.add 0).block = ad.block by unfold Addr.add; split <;> rfl] at this
    omega
  · have := hb.size
    simp
    omega

set_option maxRecDepth 100000 in
set_option maxHeartbeats 2000000 in
theorem inflate_any (ao : Option Addr) (n c : Nat) (X : Int) (m k : Nat) (g : Int) (os : List Int) (P : Nat) (xs : List Int) (u : Nat) (w : World) (h : Rd w ao n c (by8 X n)) (hn : n ≤ 1000000000) (hm : m ≤ 262144) (hI : Inf X n m k 0 [] g os P) (hF : Fin7 g os P xs u) :
    Calls Tryd.prog 15 #[.slice ao n c, .int .i64 m] w fun e w' => ∃ xo xc, e = .returned (.tuple #[.slice xo xs.length xc, .int .i64 u, .int .i64 g]) ∧ Rd w' xo xs.length xc xs ∧ Below w.heap.size w w' := by
  have d1 : decide ((m : Int) < 0) = false := by simp
  have d2 : decide ((262144 : Int) < m) = false := by simp; omega
  have HI : Hid (Inf X n m k 0 [] g os P) := hI
  have HF : Hid (Fin7 g os P xs u) := hF
  obtain ⟨lx', hlx⟩ : ∃ l, l = xs.length := ⟨_, rfl⟩
  have HX : Hid (lx' = xs.length) := hlx
  rw [← hlx]
  clear hI hF hlx
  go_enter Tryd.func15, Tryd.ntmps15
  go_wp2_with (go_at_call 25; refine (newR_any ao n c X w h hn).mono ?_; rintro e w1 ⟨R, ra, rc, rfl, hr, hR, _, b1⟩)
  have hs := new_stm (m : Int) hr hR b1
  have bA : Below w.heap.size w (w1.alloc (Obj.cells #[Value.pointer (some ⟨R, 0, none⟩), Value.slice none 0 0, Value.int .i64 m] 59)) := b1.alloc b1.size _
  have HS : Hid (Stm (w1.alloc (Obj.cells #[Value.pointer (some ⟨R, 0, none⟩), Value.slice none 0 0, Value.int .i64 m] 59)) w.heap.size w1.heap.size R n X 0 [] m) := hs
  have HB : Hid (Below w.heap.size w (w1.alloc (Obj.cells #[Value.pointer (some ⟨R, 0, none⟩), Value.slice none 0 0, Value.int .i64 m] 59))) := bA
  clear hs bA hr hR b1 h
  generalize w1.heap.size = S at *
  generalize (w1.alloc (Obj.cells #[Value.pointer (some ⟨R, 0, none⟩), Value.slice none 0 0, Value.int .i64 m] 59)) = W at *
  go_loopg [6, 8] k (fun gk ev lv wr => Hid (Below w.heap.size w wr) ∧ ((lv = .bool false ∧ ∃ p1 os1, Hid (Inf X n m gk p1 os1 g os P) ∧ Hid (Stm wr w.heap.size S R n X p1 os1 m)) ∨ (lv = .bool true ∧ Hid (g = 0) ∧ Hid (Stm wr w.heap.size S R n X P os m))))
  case atStart => exact ⟨HB, .inl ⟨rfl, 0, [], HI, HS⟩⟩
  case round =>
    clear HB HI HS
    obtain ⟨HB, ⟨rfl, p1, os1, HI, HS⟩ | ⟨rfl, HG, HS⟩⟩ := hrel
    · obtain ⟨k1, hk1, hcase⟩ := HI.out.inv
      have HK : Hid (gk = k1 + 1) := hk1
      clear hk1 HI
      rcases hcase with ⟨bs, a1, a2, a3, a4, a5, a6, a7, a8⟩ | ⟨bs, a1, a2, a3, a4, a5, a6⟩ | ⟨f, t, b, a1, a2, a3, a4, a5, a6⟩ | ⟨l, a1, a2, a3, a4, a5⟩ | ⟨f, a1, a6⟩
      · have HC : Hid (g = 0 ∧ os = os1 ++ bs ∧ P = p1 + 40 + 8 * bs.length) := ⟨a6, a7, a8⟩
        clear a6 a7 a8
        go_wp2_with fail
        refine (block_stored w.heap.size S R n X p1 os1 bs m 1 wr HS.out a2 a3 a4 a5 (by omega) a1).mono ?_
        rintro e w2 ⟨rfl, h2, f2⟩
        have H2 : Hid (Stm w2 w.heap.size S R n X P os m) := by
          show Stm _ _ _ _ _ _ _ _ _
          rw [HC.out.2.1, HC.out.2.2]
          exact h2
        have B2 : Hid (Below w.heap.size w w2) := HB.out.trans f2.bel
        clear h2 f2 a1 a2 a3 a4 a5 HS HB
        go_wp2
        go_roundg k1
        case measure => have := HK.out; omega
        case rel => exact ⟨B2, .inr ⟨rfl, HC.out.1, H2⟩⟩
      · have HC : Hid (Inf X n m k1 (p1 + 40 + 8 * bs.length) (os1 ++ bs) g os P) := a6
        clear a6
        go_wp2_with fail
        refine (block_stored w.heap.size S R n X p1 os1 bs m 0 wr HS.out a2 a3 a4 a5 (by omega) a1).mono ?_
        rintro e w2 ⟨rfl, h2, f2⟩
        have H2 : Hid (Stm w2 w.heap.size S R n X (p1 + 40 + 8 * bs.length) (os1 ++ bs) m) := h2
        have B2 : Hid (Below w.heap.size w w2) := HB.out.trans f2.bel
        clear h2 f2 a1 a2 a3 a4 a5 HS HB
        go_wp2
        go_roundg k1
        case measure => have := HK.out; omega
        case rel => exact ⟨B2, .inl ⟨rfl, _, _, HC, H2⟩⟩
      · have HC : Hid (g = 2) := a6
        clear a6
        go_wp2_with fail
        refine (block_wrong w.heap.size S R n X p1 os1 m b f t wr HS.out a2 a3 a4 (by omega) a1 a5).mono ?_
        rintro e w2 ⟨rfl, f2⟩
        have B2 : Hid (Below w.heap.size w w2) := HB.out.trans f2.bel
        clear f2 a1 a2 a3 a4 a5 HS HB
        go_wp2
        go_ret3
        obtain ⟨x1, x2, x3⟩ | ⟨x1, x2, x3⟩ := HF.out
        · have := HC.out; omega
        · have hx0 : lx' = 0 := by rw [HX.out, x2]; rfl
          rw [hx0, x3, HC.out, x2]
          exact ⟨none, 0, rfl, Rd.nil _, B2.out⟩
      · have HC : Hid (play m l os1 = (g, os)) := a4
        have HP : Hid (p1 + 3 + fb (encs l) + 7 = P) := a5
        clear a4 a5
        go_wp2_with fail
        refine (block_fixed w.heap.size S R n X p1 os1 m 1 l wr HS.out a2 (by omega) a3 a1 (g, os) HC.out P HP.out).mono ?_
        rintro e w2 ⟨rfl, h2, f2⟩
        simp only
        have H2 : Hid (g = 0 → Stm w2 w.heap.size S R n X P os m) := h2
        have B2 : Hid (Below w.heap.size w w2) := HB.out.trans f2.bel
        clear h2 f2 a1 a2 a3 HS HB
        by_cases hg : g = 0
        · have HG : Hid (g = 0) := hg
          have dg : (g == 0) = true := by simp [hg]
          clear hg
          go_wp2
          go_roundg k1
          case measure => have := HK.out; omega
          case rel => exact ⟨B2, .inr ⟨rfl, HG, H2.out HG.out⟩⟩
        · have dg : (g == 0) = false := by simp [hg]
          go_wp2
          go_ret3
          obtain ⟨x1, x2, x3⟩ | ⟨x1, x2, x3⟩ := HF.out
          · exact absurd x1 hg
          · have hx0 : lx' = 0 := by rw [HX.out, x2]; rfl
            rw [hx0, x3, x2]
            exact ⟨none, 0, rfl, Rd.nil _, B2.out⟩
      · have HC : Hid (g = 2) := a6
        clear a6
        go_wp2_with fail
        refine (block_three w.heap.size S R n X p1 os1 m f wr HS.out a1).mono ?_
        rintro e w2 ⟨rfl, f2⟩
        have B2 : Hid (Below w.heap.size w w2) := HB.out.trans f2.bel
        clear f2 a1 HS HB
        go_wp2
        go_ret3
        obtain ⟨x1, x2, x3⟩ | ⟨x1, x2, x3⟩ := HF.out
        · have := HC.out; omega
        · have hx0 : lx' = 0 := by rw [HX.out, x2]; rfl
          rw [hx0, x3, HC.out, x2]
          exact ⟨none, 0, rfl, Rd.nil _, B2.out⟩
    · obtain ⟨x1, x2, x3⟩ | ⟨x1, x2, x3⟩ := HF.out
      · have c0 := HS.out.c0
        obtain ⟨ya, yc, c1, hrd⟩ := HS.out.c1
        obtain ⟨ra', rc', vv, hS⟩ := HS.out.drew
        rw [← x2, ← HX.out] at c1
        rw [← x2, ← HX.out] at hrd
        have hrd' : Rd wr.drew ya lx' yc xs := hrd.keep (Below.refl _ _).drew
        have HR : Hid (Rd wr.drew ya lx' yc xs) := hrd'
        have HU : Hid (u = (P + 7) / 8) := x3
        have hpast := past_any R ra' n rc' X P wr.drew hS.rd
        clear hrd hrd' x1 x2 x3 hS HS
        go_wp2_with fail
        go_region_with (go_at_call 27; refine hpast.mono ?_; rintro e w9 ⟨rfl, hw⟩; subst w9)
        all_goals
          go_wp2_with fail
          go_ret3
          rw [HG.out, HU.out]
          exact ⟨ya, yc, rfl, HR.out, HB.out.drew⟩
      · exact absurd HG.out x1

end Go.Proofs.YtjkfmnahmbnbnaaDoor
