/- DeltaInserts. -/
import Derived.Test.YthaibdflehnbbabWKnown
import Derived.Test.YthaibdflehnbbabArgs2
namespace Go.Proofs.Ythaibdflehnbbab
open Go.RowKit

theorem gd_okr {bs ts : List Int} {l : List Op} (h : Gd bs l ts) : ∀ o ∈ l, okr o := fun o ho => by
  rcases h.ok o ho with h1 | h1
  · exact ⟨fun _ => ⟨h1.2.1, by have := h1.2.2.1; omega, h1.2.2.2.1, by have := h1.2.2.2.2.1; omega, List.eq_nil_of_length_eq_zero h1.2.2.2.2.2⟩, (fun e => by rw [h1.1] at e; cases e), h.byt o ho⟩
  · exact ⟨(fun e => by rw [h1.1] at e; cases e), fun _ => ⟨h1.2.1, h1.2.2.1, h1.2.2.2.1, h1.2.2.2.2⟩, h.byt o ho⟩

theorem gd_tot {bs ts : List Int} {l : List Op} (h : Gd bs l ts) : tot l = ts.length := by
  have := mks_len bs l (gd_okr h) h.win
  rw [h.mks] at this
  exact this.symm

theorem apy_gd {bs ts : List Int} {l : List Op} {N M : Nat} {most : Int} (h : Gd bs l ts) (hN : bs.length = N) (hM : ts.length = M) (hm : (M : Int) ≤ most) (h65 : N ≤ 65536) (h66 : M ≤ 65536) : apy bs (prt N M l) most = (ts, 0) := by
  have hp := prs_prt (N : Int) (M : Int) l (by omega) (by omega) (by omega) (by omega) h.ok
  have := apy_yes bs (prt N M l) most (by rw [hp]) (by rw [hp, hN]) (by rw [hp]; show ¬ most < (M : Int); omega) (by rw [hp]; exact h.win) (by rw [hp]; show tot l = (M : Int); rw [gd_tot h, hM])
  rw [this, hp]
  show (mks bs l, _) = _
  rw [h.mks]

theorem apy_gd_less {bs ts : List Int} {l : List Op} {N M : Nat} {most : Int} (h : Gd bs l ts) (hN : bs.length = N) (hm : most < M) (h65 : N ≤ 65536) (h66 : M ≤ 65536) : apy bs (prt N M l) most = ([], 5) := by
  have hp := prs_prt (N : Int) (M : Int) l (by omega) (by omega) (by omega) (by omega) h.ok
  exact apy_long bs (prt N M l) most (by rw [hp]) (by rw [hp, hN]) (by rw [hp]; exact hm)

theorem apy_gd_other {bs ts cs : List Int} {l : List Op} {N M : Nat} {most : Int} (h : Gd bs l ts) (hN : cs.length ≠ N) (h65 : N ≤ 65536) (h66 : M ≤ 65536) : apy cs (prt N M l) most = ([], 2) := by
  have hp := prs_prt (N : Int) (M : Int) l (by omega) (by omega) (by omega) (by omega) h.ok
  exact apy_len cs (prt N M l) most (by rw [hp]) (by rw [hp]; show (N : Int) ≠ _; omega)

theorem apy_gd_wrong {bs ts : List Int} {l : List Op} {N M : Nat} {most : Int} (h : Gd bs l ts) (hN : bs.length = N) (hM : ts.length ≠ M) (hm : (M : Int) ≤ most) (h65 : N ≤ 65536) (h66 : M ≤ 65536) : apy bs (prt N M l) most = ([], 2) := by
  have hp := prs_prt (N : Int) (M : Int) l (by omega) (by omega) (by omega) (by omega) h.ok
  exact apy_no bs (prt N M l) most (by rw [hp]) (by rw [hp, hN]) (by rw [hp]; show ¬ most < (M : Int); omega) (fun hh => by
    have := hh.2
    rw [hp] at this
    have : tot l = (M : Int) := this
    rw [gd_tot h] at this
    omega)

theorem gd_byt {bs ts : List Int} {l : List Op} (h : Gd bs l ts) (a b : Nat) : ∀ x ∈ prt a b l, 0 ≤ x ∧ x < 256 := prt_byt a b l (by omega) (by omega) h.ok h.byt

theorem gd_len {bs ts : List Int} {l : List Op} (h : Gd bs l ts) (hM : ts.length ≤ 65536) (a b : Nat) : (prt a b l).length ≤ 1000000 := by
  have := h.cost
  have := sz_len_le 9 (a : Int)
  have := sz_len_le 9 (b : Int)
  unfold prt
  simp only [List.length_append]
  omega

/-- The first k parts as steps, and together. -/
def ol (Z : Nat → List Int) (k : Nat) : List Op := (List.range k).map fun j => ⟨false, 0, 0, Z j⟩
def wt (Z : Nat → List Int) (k : Nat) : List Int := (List.range k).flatMap Z

theorem ol_succ (Z : Nat → List Int) (k : Nat) : ol Z (k + 1) = ol Z k ++ [⟨false, 0, 0, Z k⟩] := by simp [ol, List.range_succ]
theorem wt_succ (Z : Nat → List Int) (k : Nat) : wt Z (k + 1) = wt Z k ++ Z k := by simp [wt, List.range_succ]

theorem ol_good (bs : List Int) (Z : Nat → List Int) (k : Nat) (h : ∀ j, j < k → 1 ≤ (Z j).length ∧ (Z j).length ≤ 127 ∧ ∀ x ∈ Z j, 0 ≤ x ∧ x < 256) : Gd bs (ol Z k) (wt Z k) := by
  induction k with
  | zero => exact Gd.nil bs
  | succ k ih =>
    rw [ol_succ, wt_succ]
    have hk := h k (by omega)
    exact (ih (fun j hj => h j (by omega))).app (Gd.put bs (Z k) hk.1 hk.2.1 hk.2.2)

theorem wt_len (Z : Nat → List Int) (k : Nat) (h : ∀ j, j < k → (Z j).length ≤ 127) : (wt Z k).length ≤ 127 * k := by
  induction k with
  | zero => simp [wt]
  | succ k ih =>
    rw [wt_succ, List.length_append]
    have := ih (fun j hj => h j (by omega))
    have := h k (by omega)
    omega

/-- What is there of the texts. -/
def Tx (w : World) (b off n : Nat) (A : Nat → Option Addr) (L C : Nat → Nat) (Z : Nat → List Int) : Prop :=
  ∀ j, j < n → w.cell? ⟨b, off + j, none⟩ = some (.slice (A j) (L j) (C j)) ∧ Rd w (A j) (L j) (C j) (Z j)

theorem Tx.keep {w w' : World} {b off n : Nat} {A : Nat → Option Addr} {L C : Nat → Nat} {Z : Nat → List Int} (h : Tx w b off n A L C Z) (hb : Below w.heap.size w w') : Tx w' b off n A L C Z := fun j hj => by
  obtain ⟨h1, h2⟩ := h j hj
  exact ⟨by rw [hb.cell (World.block_lt_of_cell? w _ h1)]; exact h1, h2.keep hb⟩

theorem one_own (w : World) (x : Int) (B : Nat) (hB : B ≤ w.heap.size) : (w.alloc (.cells #[.int .u8 x] 5)).ownsRow B 5 1 (.slice (some ⟨w.heap.size, 0, none⟩) 1 1) 1 ([x].map (Value.int .u8)) :=
  World.ownsRow_lit (base := B) (e := 5) (size := 1) w #[.int .u8 x] 1 hB (by unfold maxLen; omega) rfl

/-- Two rows of unlike elements are two. -/
theorem own_apart {w : World} {B B' e e' s s' n n' : Nat} {v v' : Value} {xs xs' : List Value} (h : w.ownsRow B e s v n xs) (h' : w.ownsRow B' e' s' v' n' xs') (hne : e ≠ e') (g : Nat) (hg : v.ownBlock = some g) : v'.ownBlock ≠ some g := by
  intro hg'
  rcases h.2 with ⟨rfl, _⟩ | ⟨g1, cap, cur, rfl, _, hh, _⟩
  · cases hg
  · rcases h'.2 with ⟨rfl, _⟩ | ⟨g2, cap2, cur2, rfl, _, hh2, _⟩
    · cases hg'
    · have e1 : g1 = g := by simpa [Value.ownBlock] using hg
      have e2 : g2 = g := by simpa [Value.ownBlock] using hg'
      subst e1 e2
      rw [hh] at hh2
      simp at hh2
      exact hne hh2.2

theorem inserts_skip (a : Option Addr) (n c : Nat) (bo : Option Addr) (N C : Nat) (w : World) (h : 20 < n ∨ 300 < N) :
    Calls Try.prog 3 #[.slice a n c, .slice bo N C] w fun e w' => e = .returned (.bool true) ∧ Below w.heap.size w w' := by
  by_cases h0 : 20 < n
  · have z : (20 : Int) < n := by omega
    go_enter Try.func3, Try.ntmps3
    go_wp2_with (first | (go_at_call 4; refine (known_any w).mono ?_; rintro e w1 ⟨rfl, hB⟩))
    go_ret
    exact ⟨rfl, hB⟩
  · have z0 : decide ((20 : Int) < (n : Int)) = false := decide_eq_false (by omega)
    have z : (300 : Int) < N := by omega
    go_enter Try.func3, Try.ntmps3
    go_wp2_with (first | (go_at_call 4; refine (known_any w).mono ?_; rintro e w1 ⟨rfl, hB⟩))
    go_ret
    exact ⟨rfl, hB⟩

/-- The way of the law: k parts are put together. -/
structure Iw (w1 wr : World) (Z : Nat → List Int) (lv wv : Value) (ms : List MO) (k : Nat) : Prop where
  own : OwO wr 27 w1.heap.size lv k ms (ol Z k)
  want : wr.ownsRow w1.heap.size 5 1 wv (wt Z k).length ((wt Z k).map (Value.int .u8))
  bel : Below w1.heap.size w1 wr
  dat : ∀ j, j < k → ∀ ad, (ms.getD j mz).a = some ad → 0 < (ms.getD j mz).m → ad.block < w1.heap.size

end Go.Proofs.Ythaibdflehnbbab
