/- The walk along a chain, as plain mathematics. -/
import Derived.Test.YtgdodphpomkakaaChain
namespace Go.Proofs.Ytgdodphpomkakaa
open Go.RowKit

/-- Behind k steps along the chain of p: y is the place to come, l, n, d the best token. -/
structure Lb (b : List Int) (p m k : Nat) (y l : Int) (n d : Nat) : Prop where
  bst : (n = 0 ∧ d = 0 ∧ l = b.getD p 0) ∨ (l = 0 ∧ 3 ≤ n ∧ 1 ≤ d ∧ d ≤ 32768 ∧ d ≤ p ∧ ∀ i, i < n → b.getD (p + i) 0 = b.getD (p + i - d) 0)
  nm : n ≤ m
  ylo : -1 ≤ y
  yhi : y + k < p
  chn : 0 ≤ y → p + 3 ≤ b.length ∧ y.toNat + 3 ≤ b.length ∧ H3 b y.toNat = H3 b p
  mis : ∀ q, Per b q → 1 ≤ q → q ≤ p → p + 3 ≤ b.length → n < m → ((p - q : Nat) : Int) ≤ y

theorem per_H3 {b : List Int} {q p : Nat} (h : Per b q) (hq : q ≤ p) (hp : p + 3 ≤ b.length) : H3 b (p - q) = H3 b p := by
  have h0 := h p hq (by omega)
  have h1 := h (p + 1) (by omega) (by omega)
  have h2 := h (p + 2) (by omega) (by omega)
  rw [show p + 1 - q = p - q + 1 by omega] at h1
  rw [show p + 2 - q = p - q + 2 by omega] at h2
  unfold H3
  rw [h0, h1, h2]

theorem Lb.start (b : List Int) (p m : Nat) : Lb b p m 0 (if p + 3 ≤ b.length then pv b (H3 b p) p else -1) (b.getD p 0) 0 0 := by
  have hl := pv_lt b (H3 b p) p
  refine ⟨.inl ⟨rfl, rfl, rfl⟩, by omega, by split <;> omega, by split <;> omega, ?_, ?_⟩
  · intro h
    split at h
    · rename_i h3
      rw [if_pos h3]
      obtain ⟨i, hi⟩ : ∃ i : Nat, pv b (H3 b p) p = i := ⟨(pv b (H3 b p) p).toNat, by omega⟩
      rw [hi]
      have := pv_spec b (H3 b p) p i hi
      exact ⟨h3, this.2.1, this.2.2⟩
    · omega
  · intro q hq q1 qp h3 _
    rw [if_pos h3]
    exact pv_max b (H3 b p) p (p - q) (by omega) (by omega) (per_H3 hq qp h3)

/-- What comes behind the place i of p's chain. -/
def nx (b : List Int) (i : Nat) : Int := pv b (H3 b i) i

theorem Lb.next {b : List Int} {p m k n d n' d' : Nat} {i : Nat} {l l' : Int} (h : Lb b p m k i l n d) (hb : (n' = 0 ∧ d' = 0 ∧ l' = b.getD p 0) ∨ (l' = 0 ∧ 3 ≤ n' ∧ 1 ≤ d' ∧ d' ≤ 32768 ∧ d' ≤ p ∧ ∀ i, i < n' → b.getD (p + i) 0 = b.getD (p + i - d') 0)) (hm : n' ≤ m) (hnn : n ≤ n')
    (hq : ∀ q, Per b q → 1 ≤ q → q ≤ p → p + 3 ≤ b.length → n' < m → p - q ≠ i) : Lb b p m (k + 1) (nx b i) l' n' d' := by
  have hl := pv_lt b (H3 b i) i
  have hy := h.yhi
  obtain ⟨c1, c2, c3⟩ := h.chn (by omega)
  simp only [Int.toNat_natCast] at c2 c3
  refine ⟨hb, hm, hl.1, by unfold nx; omega, ?_, ?_⟩
  · intro hh
    obtain ⟨j, hj⟩ : ∃ j : Nat, nx b i = j := ⟨(nx b i).toNat, by omega⟩
    rw [hj]
    have := pv_spec b (H3 b i) i j hj
    exact ⟨c1, this.2.1, this.2.2.trans c3⟩
  · intro q q0 q1 qp h3 hlt
    have a := h.mis q q0 q1 qp h3 (by omega)
    have a' := hq q q0 q1 qp h3 hlt
    have e := per_H3 q0 qp h3
    exact pv_max b (H3 b i) i (p - q) (by omega) (by omega) (by rw [e, c3])

/-- A byte tells that it is no longer. -/
theorem Lb.skip {b : List Int} {p m k n d i : Nat} {l : Int} (h : Lb b p m k i l n d) (hm : p + m ≤ b.length) (hn : n < m) (hne : b.getD (i + n) 0 ≠ b.getD (p + n) 0) : Lb b p m (k + 1) (nx b i) l n d := by
  refine h.next h.bst h.nm (Nat.le_refl _) ?_
  rintro q q0 q1 qp h3 hlt rfl
  have := q0 (p + n) (by omega) (by omega)
  rw [show p + n - q = p - q + n by omega] at this
  exact hne this.symm

/-- It is as long, or less. -/
theorem Lb.less {b : List Int} {p m k n d i n' : Nat} {l : Int} (h : Lb b p m k i l n d) (hm : p + m ≤ b.length) (hn : n < m) (hs : Sm b i p m n') (hle : n' ≤ n) : Lb b p m (k + 1) (nx b i) l n d := by
  refine h.next h.bst h.nm (Nat.le_refl _) ?_
  rintro q q0 q1 qp h3 hlt rfl
  have := q0 (p + n') (by omega) (by omega)
  rw [show p + n' - q = p - q + n' by omega] at this
  exact hs.2.2 (by omega) this.symm

/-- It is longer. -/
theorem Lb.more {b : List Int} {p m k n d i n' : Nat} {l : Int} (hbt : ∀ x ∈ b, 0 ≤ x ∧ x < 256) (h : Lb b p m k i l n d) (hm : p + m ≤ b.length) (hm3 : p + 3 ≤ b.length → 3 ≤ m) (hs : Sm b i p m n') (hlt : n < n') (hd : p - i ≤ 32768) : Lb b p m (k + 1) (nx b i) 0 n' (p - i) := by
  have hy := h.yhi
  obtain ⟨c1, c2, c3⟩ := h.chn (by omega)
  simp only [Int.toNat_natCast] at c2 c3
  have h3 : 3 ≤ n' := by
    rcases Nat.lt_or_ge n' 3 with h' | h'
    · exfalso
      have := H3_inj hbt c3 n' h'
      exact hs.2.2 (by have := hm3 c1; omega) this
    · exact h'
  refine h.next (.inr ⟨rfl, h3, by omega, hd, by omega, ?_⟩) hs.1 (by omega) ?_
  · intro j hj
    rw [← hs.2.1 j hj, show p + j - (p - i) = i + j by omega]
  · rintro q q0 q1 qp _ hlt rfl
    have := q0 (p + n') (by omega) (by omega)
    rw [show p + n' - q = p - q + n' by omega] at this
    exact hs.2.2 hlt this.symm

theorem Lb.good {b : List Int} {p m k n d : Nat} {y l : Int} (h : Lb b p m k y l n d) (hm : p + m ≤ b.length) (hm2 : m ≤ 258) : Good b p (l, (n : Int), (d : Int)) := by
  have := h.nm
  rcases h.bst with ⟨rfl, rfl, rfl⟩ | ⟨rfl, h1, h2, h3, h4, h5⟩
  · exact .inl rfl
  · exact .inr ⟨n, d, rfl, h1, by omega, h2, h3, h4, by omega, h5⟩

/-- What was found at the walk's end. -/
theorem Lb.done {b : List Int} {p m k n d : Nat} {y l eff : Int} (h : Lb b p m k y l n d) (hm : m = min 258 (b.length - p)) (hend : eff ≤ k ∨ m ≤ n ∨ y = -1 ∨ 32768 < (p : Int) - y) :
    ∀ q, Per b q → 1 ≤ q → (q : Int) ≤ eff → q ≤ 32768 → q ≤ p → p + 3 ≤ b.length → sz (l, (n : Int), (d : Int)) = min 258 (b.length - p) := by
  intro q q0 q1 qe q2 qp h3
  have hnm : n = m := by
    rcases Nat.lt_or_ge n m with hlt | hge
    · exfalso
      have a := h.mis q q0 q1 qp h3 hlt
      have := h.yhi
      omega
    · have := h.nm
      omega
  have h3m : 3 ≤ m := by omega
  rw [← hm, ← hnm]
  have : ¬ ((n : Int) = 0) := by omega
  simp only [sz]
  rw [if_neg this, if_neg (by omega)]
  omega

end Go.Proofs.Ytgdodphpomkakaa
