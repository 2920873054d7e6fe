/- The walk of HuffReads. -/
import Derived.Test.YtjipohcacimkmaaWKnown
import Derived.Test.YtjipohcacimkmaaXNext
namespace Go.Proofs.Ytjipohcacimkmaa
open Go.RowKit

theorem reads_skip (ao lo : Option Addr) (n c k d : Nat) (half : Bool) (w : World) (h : 400 < n ∨ 200 < k) :
    Calls Try.prog 4 #[.slice ao n c, .bool half, .slice lo k d] w fun e w' => e = .returned (.bool true) ∧ Below w.heap.size w w' := by
  by_cases h1 : 400 < n
  · have d1 : decide ((400 : Int) < (n : Int)) = true := by simp; omega
    clear h h1
    go_enter Try.func4, Try.ntmps4
    go_wp2_with (go_at_call 9; refine (known_any _).mono ?_; rintro e w1 ⟨rfl, hb⟩)
    go_ret
    exact ⟨rfl, hb⟩
  · have d1 : decide ((400 : Int) < (n : Int)) = false := by simp; omega
    have d2 : decide ((200 : Int) < (k : Int)) = true := by simp; omega
    clear h h1
    go_enter Try.func4, Try.ntmps4
    go_wp2_with (go_at_call 9; refine (known_any _).mono ?_; rintro e w1 ⟨rfl, hb⟩)
    go_ret
    exact ⟨rfl, hb⟩

set_option maxRecDepth 100000 in
set_option maxHeartbeats 4000000 in
theorem reads_none (ao lo : Option Addr) (n c k d : Nat) (half : Bool) (L : Nat → Int) (w : World) (hn : n ≤ 400) (hk : k ≤ 200) (hl : Ri w ao n c L) (he : nw L n half ≠ 0) :
    Calls Try.prog 4 #[.slice ao n c, .bool half, .slice lo k d] w fun e w' => e = .returned (.bool true) ∧ Below w.heap.size w w' := by
  have d1 : decide ((400 : Int) < (n : Int)) = false := by simp; omega
  have d2 : decide ((200 : Int) < (k : Int)) = false := by simp; omega
  have q1 : (nw L n half == 0) = false := by simp [he]
  go_enter Try.func4, Try.ntmps4
  go_wp2_with (go_at_call 9; refine (known_any _).mono ?_; rintro e w1 ⟨rfl, b1⟩)
  have r1 := hl.keep b1
  refine (new_no ao n c L half w1 r1 he).mono ?_
  rintro e w2 ⟨rfl, b2⟩
  have B2 := b1.trans (b2.mono b1.size)
  have r2 := r1.keep b2
  clear hl b1 b2 r1
  go_wp2_with fail
  refine (xnew_no ao n c L half w2 r2 he).mono ?_
  rintro e w2' ⟨rfl, hw⟩
  subst w2'
  clear r2
  generalize nw L n half = x at *
  go_wp2_with fail
  go_ret
  exact ⟨congrArg (fun b => Ending.returned (Value.bool b)) (show (x != 0) = true by simp [he]), B2⟩

/-- What holds in the loop of HuffReads. -/
structure RS (w wr : World) (R K : Nat) (L : Nat → Int) (n : Nat) (Y K' : Nat) (la : Option Addr) (lc cg : Nat) (Q : Nat) (ro : Option Addr) (rc : Nat) (Z : Nat) (bo : Option Addr) (bc nb : Nat) (X : Int) (p : Nat) : Prop where
  cod : Cod wr R K L n
  x : IsX wr Y K' L n la lc cg
  r : IsR wr Q ro nb rc X p
  y : IsY wr Z bo nb bc X p
  bel : Below w.heap.size w wr

theorem RS.fr1 {w wr w' : World} {R K : Nat} {L : Nat → Int} {n Y K' : Nat} {la : Option Addr} {lc cg Q : Nat} {ro : Option Addr} {rc Z : Nat} {bo : Option Addr} {bc nb : Nat} {X : Int} {p q : Nat} (h : RS w wr R K L n Y K' la lc cg Q ro rc Z bo bc nb X p)
    (hf : Fr (fun k => k = Q) wr w') (hr : IsR w' Q ro nb rc X q) (hK : K ≤ Q) (hK' : K' ≤ Q) (hw : w.heap.size ≤ Q) (hZ : Z ≠ Q) (hb : ∀ ad, bo = some ad → 0 < nb → ad.block ≠ Q) :
    Cod w' R K L n ∧ IsX w' Y K' L n la lc cg ∧ IsR w' Q ro nb rc X q ∧ IsY w' Z bo nb bc X p ∧ Below w.heap.size w w' :=
  ⟨h.cod.keep (hf.below K h.cod.kw (fun i hi e => by omega)), h.x.keep (hf.below K' h.x.kw (fun i hi e => by omega)), hr, h.y.fr hf hZ hb, h.bel.trans (hf.below _ h.bel.size (fun i hi e => by omega))⟩

set_option maxRecDepth 100000 in
set_option maxHeartbeats 4000000 in
theorem reads_go (ao lo : Option Addr) (n c nb d : Nat) (half : Bool) (L : Nat → Int) (X : Int) (w : World) (hn : n ≤ 400) (hk : nb ≤ 200) (hl : Ri w ao n c L) (hb : Rd w lo nb d (by8 X nb)) (he : nw L n half = 0) :
    Calls Try.prog 4 #[.slice ao n c, .bool half, .slice lo nb d] w fun e w' => e = .returned (.bool true) ∧ Below w.heap.size w w' := by
  have d1 : decide ((400 : Int) < (n : Int)) = false := by simp; omega
  have d2 : decide ((200 : Int) < (nb : Int)) = false := by simp; omega
  go_enter Try.func4, Try.ntmps4
  go_wp2_with (go_at_call 9; refine (known_any _).mono ?_; rintro e w1 ⟨rfl, b1⟩)
  have r1 := hl.keep b1
  refine (new_yes ao n c L half w1 r1 he).mono ?_
  rintro e w2 ⟨R, K, rfl, hC2, b2⟩
  have B2 := b1.trans (b2.mono b1.size)
  have r2 := r1.keep b2
  clear hl b1 b2 r1
  go_wp2_with fail
  refine (xnew_yes ao n c L half w2 r2 he).mono ?_
  rintro e w3 ⟨Y, K', la, lc, cg, rfl, hX3, b3⟩
  have B3 := B2.trans (b3.mono B2.size)
  have hC3 := hC2.keep (b3.mono hC2.kw)
  have hb3 := hb.keep B3
  clear B2 b3 r2 hC2
  go_wp2_with fail
  refine (newR_any lo nb d X w3 hb3 (by omega)).mono ?_
  rintro e w4 ⟨Q, ro, rc, rfl, hR4, hQ, hro, b4⟩
  have B4 := B3.trans (b4.mono B3.size)
  have hC4 := hC3.keep (b4.mono hC3.kw)
  have hX4 := hX3.keep (b4.mono hX3.kw)
  have hb4 := hb.keep B4
  have hKQ : K ≤ Q := by have := hC3.kw; omega
  have hKQ' : K' ≤ Q := by have := hX3.kw; omega
  have hwQ : w.heap.size ≤ Q := by have := B3.size; omega
  have hQ4 : Q < w4.heap.size := hR4.row.lt
  have bA : Below w4.heap.size w4 (w4.alloc (Obj.cells #[.slice lo nb d, .int .i64 0] 46)) := (Below.refl _ _).alloc (Nat.le_refl _) _
  have sX : ∀ ad, lo = some ad → 0 < nb → ad.block < w.heap.size := by
    intro ad had h0
    have hc := World.block_lt_of_cell? w _ (hb.cells ad had 0 h0)
    have hbk : (ad.add 0).block = ad.block := by unfold Addr.add; split <;> rfl
    omega
  have hY5 : IsY (w4.alloc (Obj.cells #[.slice lo nb d, .int .i64 0] 46)) w4.heap.size lo nb d X 0 :=
    ⟨World.rowIs_alloc w4 _ 46 _ (fun i hi => by
      simp at hi
      rcases i with _ | _ | i <;> first | rfl | omega), hb4.keep bA, fun ad had h0 e => by have := sX ad had h0; have := B4.size; omega, by omega, by omega⟩
  have sR : ∀ ad, ro = some ad → 0 < nb → ad.block ≠ w4.heap.size := by
    intro ad had h0 e
    have hc := World.block_lt_of_cell? w4 _ (hR4.rd.cells ad had 0 h0)
    have hbk : (ad.add 0).block = ad.block := by unfold Addr.add; split <;> rfl
    omega
  have hS : RS w (w4.alloc (Obj.cells #[.slice lo nb d, .int .i64 0] 46)) R K L n Y K' la lc cg Q ro rc w4.heap.size lo d nb X 0 := ⟨hC4.keep (bA.mono hC4.kw), hX4.keep (bA.mono hX4.kw), hR4.keep bA, hY5, B4.trans (bA.mono B4.size)⟩
  have hKZ : K ≤ w4.heap.size := hC4.kw
  have hKZ' : K' ≤ w4.heap.size := hX4.kw
  have hwZ : w.heap.size ≤ w4.heap.size := B4.size
  have HS1 : Hid (∀ ad, lo = some ad → 0 < nb → ad.block ≠ Q) := fun ad had h0 e => by have := sX ad had h0; omega
  have HS2 : Hid (∀ ad, ro = some ad → 0 < nb → ad.block ≠ w4.heap.size) := sR
  clear hb B3 b4 hC3 hX3 hC4 hX4 hb3 hb4 hR4 hro hQ hY5 bA sX sR B4 he
  go_wp2_with fail
  generalize w4.heap.size = Z at *
  go_loopw [13, 14, 15, 16, 17] (fun i _ _ _ _ wr => ∃ (t p : Nat), t ≤ 2000 ∧ i = .int .i64 t ∧ RS w wr R K L n Y K' la lc cg Q ro rc Z lo d nb X p) (fun i _ _ _ _ _ => 2000 - (intOf i).toNat)
  case atStart => exact ⟨0, 0, by omega, rfl, hS⟩
  case round =>
    obtain ⟨t, p, ht, rfl, hs⟩ := hrel
    clear hS
    by_cases htk : t < 2000
    · go_wp2_with fail
      refine (next_any R K L n Q ro nb rc X p wr hs.cod hs.r hKQ).mono ?_
      rintro e w5 ⟨s, g, q, rfl, hN, hR5, f5⟩
      obtain ⟨hC5, hX5, _, hY5, B5⟩ := hs.fr1 f5 hR5 hKQ hKQ' hwQ (by omega) HS1.out
      clear hs f5
      go_wp2_with fail
      refine (xnext_any Y K' L n la lc cg Z lo nb d X p w5 hX5 hY5 hKZ').mono ?_
      rintro e w6 ⟨s', g', q', rfl, hN', hY6, f6⟩
      obtain ⟨rfl, rfl, rfl⟩ := Nx.one (by omega) hN hN'
      have hC6 := hC5.keep (f6.below K hC5.kw (fun i hi e => by omega))
      have hX6 := hX5.keep (f6.below K' hX5.kw (fun i hi e => by omega))
      have hR6 := hR5.fr f6 (by omega) HS2.out
      have B6 := B5.trans (f6.below _ B5.size (fun i hi e => by omega))
      clear hN hN' hC5 hX5 hR5 hY5 f6 B5
      by_cases hg : g = 0
      · subst hg
        have y7 := hY6.drew
        have hS7 : RS w w6.drew.drew R K L n Y K' la lc cg Q ro rc Z lo d nb X q := ⟨hC6.keep (((Below.refl _ _).drew).drew), hX6.keep (((Below.refl _ _).drew).drew), hR6.drew.drew, hY6.drew.drew, B6.drew.drew⟩
        clear hC6 hX6 B6
        go_wp2_with (first
          | (go_at_call 20; refine (left_any Q ro nb rc X q w6 hR6).mono ?_; rintro e w9 ⟨rfl, hw⟩; subst w9)
          | (go_at_call 21; refine (yleft_any Z lo nb d X q w6.drew y7).mono ?_; rintro e w9 ⟨rfl, hw⟩; subst w9))
        go_roundw
        case rel => exact ⟨t + 1, q, by omega, by go_num, hS7⟩
        case measure => simp [intOf]; omega
      · have q0 : (g == 0) = false := by simp [hg]
        clear hg hC6 hX6 hR6 hY6
        go_wp2_with fail
        go_ret
        exact ⟨rfl, B6⟩
    · have hb8 := hs.bel
      clear hs
      go_wp2_with fail
      go_ret
      exact ⟨rfl, hb8⟩

end Go.Proofs.Ytjipohcacimkmaa
