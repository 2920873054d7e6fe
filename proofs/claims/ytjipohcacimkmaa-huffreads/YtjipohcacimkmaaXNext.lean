/- The document's Next. -/
import Derived.Test.YtjipohcacimkmaaXNews
import Derived.Test.YtjipohcacimkmaaXReader
import Derived.Test.YtjipohcacimkmaaWFind
namespace Go.Proofs.Ytjipohcacimkmaa
open Go.RowKit

theorem IsY.drew {w : World} {R : Nat} {ao : Option Addr} {n c : Nat} {X : Int} {p : Nat} (r : IsY w R ao n c X p) : IsY w.drew R ao n c X p := r.fr (Fr.refl (fun _ => False) _).drew (fun h => h) (fun _ _ _ h => h)

theorem yget_short (R : Nat) (ao : Option Addr) (n c : Nat) (X : Int) (p : Nat) (w : World) (h : IsY w R ao n c X p) (hs : 8 * n < p + 1) :
    Calls Try.prog 39 #[.pointer (some ⟨R, 0, none⟩), .int .i64 1] w fun e w' => e = .returned (.tuple #[.int .i64 0, .bool false]) ∧ IsY w' R ao n c X p ∧ Fr (fun k => k = R) w w' := by
  refine (yget_no R ao n c X p 1 w h (by omega)).mono ?_
  rintro e w' ⟨rfl, hw | hw⟩
  · subst hw; exact ⟨rfl, h, Fr.refl _ _⟩
  · subst hw; exact ⟨rfl, h.drew, (Fr.refl _ _).drew⟩

/-- Where the document's walk stands. -/
structure Bt (L : Nat → Int) (n : Nat) (X : Int) (nb p k : Nat) (v : Int) : Prop where
  k1 : 1 ≤ k
  k16 : k ≤ 16
  v0 : 0 ≤ v
  v1 : v < 2 ^ (k - 1)
  go : ∀ s g q, Nx L n X nb (16 - k) k v (p + (k - 1)) s g q → Nx L n X nb 15 1 0 p s g q

theorem Bt.short {L : Nat → Int} {n : Nat} {X : Int} {nb p k : Nat} {v : Int} (h : Bt L n X nb p k v) (hk : k < 16) (hs : 8 * nb < p + (k - 1) + 1) : Nx L n X nb 15 1 0 p 0 3 (p + (k - 1)) := by
  refine h.go _ _ _ ?_
  rw [show 16 - k = (15 - k) + 1 by omega]
  simp only [Nx]
  exact Or.inl ⟨hs, trivial, trivial, trivial⟩

theorem Bt.hit {L : Nat → Int} {n : Nat} {X : Int} {nb p k : Nat} {v : Int} (h : Bt L n X nb p k v) (hk : k < 16) (hs : p + (k - 1) + 1 ≤ 8 * nb) (i : Nat) (hi : Hit L n k (2 * v + X / 2 ^ (p + (k - 1)) % 2) i) : Nx L n X nb 15 1 0 p i 0 (p + (k - 1) + 1) := by
  refine h.go _ _ _ ?_
  rw [show 16 - k = (15 - k) + 1 by omega]
  simp only [Nx]
  exact Or.inr (Or.inl ⟨hs, i, hi, rfl, trivial, trivial⟩)

theorem Bt.last {L : Nat → Int} {n : Nat} {X : Int} {nb p k : Nat} {v : Int} (h : Bt L n X nb p k v) (hk : k < 16) (hs : p + (k - 1) + 1 ≤ 8 * nb) (hno : ∀ i, ¬ Hit L n k (2 * v + X / 2 ^ (p + (k - 1)) % 2) i) (hl : ∀ i, i < n → ¬ (k : Int) < L i) : Nx L n X nb 15 1 0 p 0 2 (p + (k - 1) + 1) := by
  refine h.go _ _ _ ?_
  rw [show 16 - k = (15 - k) + 1 by omega]
  simp only [Nx]
  exact Or.inr (Or.inr (Or.inl ⟨hs, hno, hl, trivial, trivial, trivial⟩))

theorem Bt.next {L : Nat → Int} {n : Nat} {X : Int} {nb p k : Nat} {v : Int} (h : Bt L n X nb p k v) (hk : k < 16) (hs : p + (k - 1) + 1 ≤ 8 * nb) (hno : ∀ i, ¬ Hit L n k (2 * v + X / 2 ^ (p + (k - 1)) % 2) i) (hl : ∃ i, i < n ∧ (k : Int) < L i) : Bt L n X nb p (k + 1) (2 * v + X / 2 ^ (p + (k - 1)) % 2) := by
  have h1 := h.k1
  have h2 := h.v1
  have h3 := h.v0
  have hb : 0 ≤ X / 2 ^ (p + (k - 1)) % 2 ∧ X / 2 ^ (p + (k - 1)) % 2 < 2 := by omega
  refine ⟨by omega, by omega, by omega, ?_, fun s g q hn => h.go _ _ _ ?_⟩
  · rw [show k + 1 - 1 = (k - 1) + 1 by omega, Int.pow_succ]
    omega
  · rw [show 16 - k = (16 - (k + 1)) + 1 by omega]
    simp only [Nx]
    rw [show p + (k + 1 - 1) = p + (k - 1) + 1 by omega] at hn
    exact Or.inr (Or.inr (Or.inr ⟨hs, hno, hl, hn⟩))

theorem Bt.end {L : Nat → Int} {n : Nat} {X : Int} {nb p : Nat} {v : Int} (h : Bt L n X nb p 16 v) : Nx L n X nb 15 1 0 p 0 2 (p + 15) := by
  refine h.go _ _ _ ?_
  simp only [Nx, Nat.sub_self]
  exact ⟨trivial, trivial, trivial⟩

set_option maxRecDepth 100000 in
set_option maxHeartbeats 4000000 in
theorem xnext_any (Y K : Nat) (L : Nat → Int) (n : Nat) (la : Option Addr) (lc cg : Nat) (Q : Nat) (ao : Option Addr) (nb c : Nat) (X : Int) (p : Nat) (w : World) (hX : IsX w Y K L n la lc cg) (hR : IsY w Q ao nb c X p) (hQ : K ≤ Q) :
    Calls Try.prog 19 #[.pointer (some ⟨Y, 0, none⟩), .pointer (some ⟨Q, 0, none⟩)] w fun e w' => ∃ s g q, e = .returned (.tuple #[.int .i64 s, .int .i64 g]) ∧ Nx L n X nb 15 1 0 p s g q ∧ IsY w' Q ao nb c X q ∧ Fr (fun k => k = Q) w w' := by
  obtain ⟨h288, hL, hf⟩ := er_zero L n hX.ok
  have hkw := hX.kw
  have h0 : Bt L n X nb p 1 0 := ⟨by omega, by omega, by omega, by simp, fun s g q h => by simpa using h⟩
  have HX : Hid (∀ wz, Fr (fun k => k = Q) w wz → IsX wz Y K L n la lc cg) := fun wz fz => hX.keep (fz.below K hkw (fun i hi e => by omega))
  clear hX hL hf hkw
  go_enter Try.func19, Try.ntmps19
  go_wp2
  go_loopw [6, 7, 8, 9, 10, 11] (fun vv kv _ _ _ _ wr => ∃ (k : Nat) (v : Int), kv = .int .i64 k ∧ vv = .int .i64 v ∧ Bt L n X nb p k v ∧ IsY wr Q ao nb c X (p + (k - 1)) ∧ Fr (fun k => k = Q) w wr) (fun _ kv _ _ _ _ _ => 17 - (intOf kv).toNat)
  case atStart => exact ⟨1, 0, rfl, rfl, h0, hR, Fr.refl _ _⟩
  case round =>
    obtain ⟨k, v, rfl, rfl, hB, hr, fr⟩ := hrel
    clear h0 hR
    have hk1 := hB.k1
    have hk16 := hB.k16
    have HB : Hid (Bt L n X nb p k v) := hB
    have HR : Hid (Fr (fun k => k = Q) w wr) := fr
    clear hB fr
    by_cases hlt : k < 16
    · by_cases hs : 8 * nb < p + (k - 1) + 1
      · go_wp2_with (go_at_call 39; refine (yget_short Q ao nb c X _ wr hr hs).mono ?_; rintro e w3 ⟨rfl, r3, f3⟩)
        go_ret2
        exact ⟨0, 3, _, rfl, HB.out.short hlt hs, r3, HR.out.trans f3 (fun _ _ e => e)⟩
      · have hs' : p + (k - 1) + 1 ≤ 8 * nb := by omega
        clear hs
        have hv0 : 0 ≤ v := HB.out.v0
        have hv1 : v < 65536 := by
          have h1 := HB.out.v1
          have h2 := p2_le (k - 1) 15 (by omega)
          have h3 : (2 : Int) ^ 15 = 32768 := rfl
          omega
        obtain ⟨b, hb⟩ : ∃ b, b = X / 2 ^ (p + (k - 1)) % 2 := ⟨_, rfl⟩
        have hb01 : b = 0 ∨ b = 1 := by omega
        have HBt : Hid (b = X / 2 ^ (p + (k - 1)) % 2) := hb
        have HO : Hid (bits .or .i64 (wrap64 (v * 2)) b = 2 * v + b) := or_bit v b hv0 hv1 hb01
        go_wp2_with fail
        refine (yget_yes Q ao nb c X (p + (k - 1)) 1 wr hr (by omega) hs').mono ?_
        rintro e w3 ⟨rfl, r3, f3⟩
        have F3 := HR.out.trans f3 (fun _ _ e => e)
        have hX3 := HX.out w3 F3
        rw [show X / 2 ^ (p + (k - 1)) % 2 ^ 1 = b from hb.symm]
        have HO' : bits .or .i64 (v * 2) b = 2 * v + b := by
          rw [← HO.out, IntWalk.wrap64_in (v * 2) (by omega)]
        obtain ⟨v', hv'⟩ : ∃ v', v' = 2 * v + b := ⟨_, rfl⟩
        rw [← hv'] at HO'
        have HV : Hid (v' = 2 * v + X / 2 ^ (p + (k - 1)) % 2) := by
          show v' = 2 * v + X / 2 ^ (p + (k - 1)) % 2
          rw [← hb]; exact hv'
        have c0 := hX3.row.cell (i := 0) (by omega)
        have c1 := hX3.row.cell (i := 1) (by omega)
        simp only [xcells] at c0 c1
        have HC : Hid (IsX w3 Y K L n la lc cg) := hX3
        clear hr f3 hb hv' HO hX3
        go_wp2_with fail
        clear HO'
        go_loop [10, 11] (fun sv i => ∃ (j : Nat) (t : Bool), j ≤ n ∧ i = .int .i64 j ∧ sv = .bool t ∧ (∀ i, i < j → ¬ Hit L n k v' i) ∧ (t = true ↔ ∃ i, i < j ∧ (k : Int) < L i)) (fun _ i => n - (intOf i).toNat)
        case atStart => exact ⟨0, false, by omega, rfl, rfl, fun i hi => by omega, by simp⟩
        case round =>
          obtain ⟨j, t, hj, rfl, rfl, hno, ht⟩ := hrel
          by_cases hjn : j < n
          · obtain ⟨bb, off, rfl, hcell⟩ := HC.out.rl.plain (by omega)
            have cl := hcell j hjn
            have cc := HC.out.rc.cell (i := j) hjn
            clear hcell
            by_cases hq : L j = k
            · rw [hq] at cl
              by_cases hc : cd L n j = v'
              · have HH : Hid (Hit L n k (2 * v + X / 2 ^ (p + (k - 1)) % 2) j) := by
                  refine ⟨hjn, hq, ?_⟩
                  rw [hc, HV.out]
                rw [hc] at cc
                clear hno ht hc hq
                go_wp2
                go_ret2
                exact ⟨j, 0, rfl, _, HB.out.hit hlt hs' j HH.out, r3, F3⟩
              · have hd : (cd L n j == v') = false := by simp [hc]
                have HN : Hid (∀ i, i < j + 1 → ¬ Hit L n k v' i) := fun i hi hh => by
                  rcases Nat.lt_or_ge i j with h' | h'
                  · exact hno i h' hh
                  · obtain rfl : i = j := by omega
                    exact hc hh.2.2
                have HT : Hid (t = true ↔ ∃ i, i < j + 1 ∧ (k : Int) < L i) := by
                  show t = true ↔ _
                  rw [ht]
                  constructor
                  · rintro ⟨i, h1, h2⟩
                    exact ⟨i, by omega, h2⟩
                  · rintro ⟨i, h1, h2⟩
                    refine ⟨i, ?_, h2⟩
                    rcases Nat.lt_or_ge i j with h' | h'
                    · exact h'
                    · obtain rfl : i = j := by omega
                      omega
                clear hno ht hc hq
                cases t with
                | true =>
                  go_wp2
                  exact ⟨⟨j + 1, true, by omega, by go_num, rfl, HN.out, HT.out⟩, by simp [intOf]; omega⟩
                | false =>
                  go_wp2
                  exact ⟨⟨j + 1, false, by omega, by go_num, by simp, HN.out, HT.out⟩, by simp [intOf]; omega⟩
            · have hd : (L j == (k : Int)) = false := by simp [hq]
              have HN : Hid (∀ i, i < j + 1 → ¬ Hit L n k v' i) := fun i hi hh => by
                rcases Nat.lt_or_ge i j with h' | h'
                · exact hno i h' hh
                · obtain rfl : i = j := by omega
                  exact hq hh.2.1
              have HT : Hid ((t || decide ((k : Int) < L j)) = true ↔ ∃ i, i < j + 1 ∧ (k : Int) < L i) := by
                show (t || decide ((k : Int) < L j)) = true ↔ _
                rw [Bool.or_eq_true, decide_eq_true_eq, ht]
                constructor
                · rintro (⟨i, h1, h2⟩ | h2)
                  · exact ⟨i, by omega, h2⟩
                  · exact ⟨j, by omega, h2⟩
                · rintro ⟨i, h1, h2⟩
                  rcases Nat.lt_or_ge i j with h' | h'
                  · exact .inl ⟨i, h', h2⟩
                  · obtain rfl : i = j := by omega
                    exact .inr h2
              clear hno ht hq
              cases t with
              | true =>
                go_wp2
                exact ⟨⟨j + 1, true, by omega, by go_num, rfl, HN.out, HT.out⟩, by simp [intOf]; omega⟩
              | false =>
                go_wp2
                exact ⟨⟨j + 1, _, by omega, by go_num, rfl, HN.out, HT.out⟩, by simp [intOf]; omega⟩
          · obtain rfl : j = n := by omega
            have HN : Hid (∀ i, ¬ Hit L j k (2 * v + X / 2 ^ (p + (k - 1)) % 2) i) := fun i hh => hno i hh.1 (by rw [HV.out]; exact hh)
            clear hno
            cases t with
            | false =>
              have HT : Hid (∀ i, i < j → ¬ (k : Int) < L i) := fun i hi hl => by
                have := ht.2 ⟨i, hi, hl⟩
                cases this
              clear ht
              go_wp2
              go_ret2
              exact ⟨0, 2, rfl, _, HB.out.last hlt hs' HN.out (fun i hi h => by have := HT.out i hi; omega), r3, F3⟩
            | true =>
              have HT : Hid (∃ i, i < j ∧ (k : Int) < L i) := ht.1 rfl
              clear ht
              go_wp2
              refine ⟨⟨k + 1, v', by go_num, rfl, ?_, ?_, F3⟩, by simp [intOf]; omega⟩
              · rw [HV.out]
                exact HB.out.next hlt hs' HN.out HT.out
              · rw [show p + (k + 1 - 1) = p + (k - 1) + 1 by omega]
                exact r3
    · obtain rfl : k = 16 := by omega
      go_wp2
      go_ret2
      exact ⟨0, 2, _, rfl, HB.out.end, hr, HR.out⟩

end Go.Proofs.Ytjipohcacimkmaa
