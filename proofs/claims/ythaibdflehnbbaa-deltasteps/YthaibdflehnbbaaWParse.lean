/- sizes, parse, Sizes, Parse. -/
import Derived.Test.YthaibdflehnbbaaWRSteps
namespace Go.Proofs.Ythaibdflehnbbaa
open Go.RowKit

theorem rdSize_bound : ∀ (xs : List Int) (p : Int × Nat), (∀ x ∈ xs, 0 ≤ x ∧ x < 256) → rdSize xs = some p → 1 ≤ p.2 ∧ p.2 ≤ xs.length ∧ 0 ≤ p.1 ∧ p.1 < 128 ^ p.2 := by
  intro xs
  induction xs with
  | nil => intro p _ h; simp [rdSize] at h
  | cons c cs ih =>
    intro p hb h
    have hc := hb c (by simp)
    unfold rdSize at h
    split at h
    · cases h
      simp
      omega
    · rw [Option.map_eq_some_iff] at h
      obtain ⟨q, hq, rfl⟩ := h
      have := ih q (fun x hx => hb x (by simp [hx])) hq
      have e : (128 : Int) ^ (q.2 + 1) = 128 ^ q.2 * 128 := Int.pow_succ _ _
      simp only [List.length_cons]
      refine ⟨by omega, by omega, by omega, ?_⟩
      rw [e]
      omega

theorem sizeAns_ok (xs : List Int) (hb : ∀ x ∈ xs, 0 ≤ x ∧ x < 256) (h : (sizeAns xs).2.2 = 0) : ∃ k : Nat, (sizeAns xs).2.1 = k ∧ 1 ≤ k ∧ k ≤ 9 ∧ k ≤ xs.length ∧ 0 ≤ (sizeAns xs).1 ∧ (sizeAns xs).1 ≤ 9223372036854775807 := by
  unfold sizeAns at h ⊢
  cases hr : rdSize (xs.take 9) with
  | none =>
    rw [hr] at h
    simp only at h
    split at h <;> omega
  | some p =>
    have := rdSize_bound _ p (fun x hx => hb x (List.mem_of_mem_take hx)) hr
    have e9 := pow128_le p.2 9 (by have := this.2.1; simp at this; omega)
    have h9 : (128 : Int) ^ 9 = 9223372036854775808 := rfl
    simp only [List.length_take] at this
    exact ⟨p.2, rfl, by omega, by omega, by omega, by show 0 ≤ p.1; omega, by show p.1 ≤ _; omega⟩

theorem szs_bad1 (d : List Int) (h : (sizeAns d).2.2 ≠ 0) : szs d = (0, 0, 0, (sizeAns d).2.2) := by unfold szs; rw [if_pos h]

theorem szs_bad2 (d : List Int) (k : Nat) (h : (sizeAns d).2.2 = 0) (hk : (sizeAns d).2.1 = k) (h2 : (sizeAns (d.drop k)).2.2 ≠ 0) : szs d = (0, 0, 0, (sizeAns (d.drop k)).2.2) := by
  unfold szs
  rw [if_neg (by simp [h]), hk, Int.toNat_natCast, if_pos h2]

theorem szs_good (d : List Int) (k m : Nat) (h : (sizeAns d).2.2 = 0) (hk : (sizeAns d).2.1 = k) (h2 : (sizeAns (d.drop k)).2.2 = 0) (hm : (sizeAns (d.drop k)).2.1 = m) : szs d = ((sizeAns d).1, (sizeAns (d.drop k)).1, k + m, 0) := by
  unfold szs
  rw [if_neg (by simp [h]), hk, Int.toNat_natCast, if_neg (by simp [h2]), hm, Int.toNat_natCast]

theorem szs_ok (d : List Int) (hb : ∀ x ∈ d, 0 ≤ x ∧ x < 256) : (szs d).2.2.1 ≤ d.length ∧ 0 ≤ (szs d).1 ∧ (szs d).1 ≤ 9223372036854775807 ∧ 0 ≤ (szs d).2.1 ∧ (szs d).2.1 ≤ 9223372036854775807 := by
  by_cases h : (sizeAns d).2.2 = 0
  · obtain ⟨k, hk, k1, k2, k3, k4, k5⟩ := sizeAns_ok d hb h
    by_cases h2 : (sizeAns (d.drop k)).2.2 = 0
    · obtain ⟨m, hm, m1, m2, m3, m4, m5⟩ := sizeAns_ok (d.drop k) (fun x hx => hb x (List.mem_of_mem_drop hx)) h2
      rw [szs_good d k m h hk h2 hm]
      simp only [List.length_drop] at m3
      exact ⟨by show k + m ≤ _; omega, k4, k5, m4, m5⟩
    · rw [szs_bad2 d k h hk h2]
      simp
  · rw [szs_bad1 d h]
    simp

theorem results_tmp4 {fn : Func} {t u v x : Tmp} (h : fn.results = #[.tmp t, .tmp u, .tmp v, .tmp x]) (tmps : Array Value) (P : Program) (w : World) :
    (results fn tmps).run P w = .ok (.tuple #[tmps.getD t undef, tmps.getD u undef, tmps.getD v undef, tmps.getD x undef]) w := by
  simp [results, h]

theorem Rd.rest {w : World} {n : Nat} {xs : List Int} {ao' : Option Addr} {c' : Nat} {p : Nat} (h : Rd w ao' (n - p) c' ((xs.drop p).take (n - p))) (hl : xs.length = n) : Rd w ao' (n - p) c' (xs.drop p) := by
  rwa [List.take_of_length_le (by simp; omega)] at h

set_option maxRecDepth 100000 in
set_option maxHeartbeats 1000000 in
theorem sizes_any (ao : Option Addr) (n c : Nat) (d : List Int) (w : World) (h : Rd w ao n c d) (hn : n ≤ 1000000) :
    Calls Try.prog 21 #[.slice ao n c] w fun e w' => e = .returned (.tuple #[.int .i64 (szs d).1, .int .i64 (szs d).2.1, .int .i64 ((szs d).2.2.1 : Nat), .int .i64 (szs d).2.2.2]) ∧ w' = w := by
  have hl := h.len
  have HR : Hid (Rd w ao n c d) := h
  have h1 := size_any ao n c d w h (by omega)
  by_cases hz : (sizeAns d).2.2 = 0
  · obtain ⟨k, hk, k1, k2, k3, k4, k5⟩ := sizeAns_ok d h.byt hz
    rw [hk, hz] at h1
    have hs2 := fun a b (hh : Rd w a (n - k) b (d.drop k)) => size_any a (n - k) b (d.drop k) w hh (by omega)
    by_cases hz2 : (sizeAns (d.drop k)).2.2 = 0
    · obtain ⟨m, hm, m1, m2, m3, m4, m5⟩ := sizeAns_ok (d.drop k) (fun x hx => h.byt x (List.mem_of_mem_drop hx)) hz2
      rw [hm, hz2] at hs2
      rw [szs_good d k m hz hk hz2 hm]
      generalize (sizeAns d).1 = v1 at *
      generalize (sizeAns (d.drop k)).1 = v2 at *
      have hkn : k + (n - k) ≤ n := by omega
      clear hz hk hz2 hm h m3
      go_enter Try.func21, Try.ntmps21
      go_wp2_with (first
        | (go_at_call 33; refine (hs2 _ _ (hr2.rest hl)).mono ?_; rintro e w2 ⟨rfl, rfl⟩)
        | (go_at_call 33; refine h1.mono ?_; rintro e w1 ⟨rfl, rfl⟩)
        | (refine wpList_sub rfl _ _ _ rfl HR.out k (n - k) hkn rfl (.inl rfl) (.inr ⟨rfl, by omega⟩) ?_; intro ao2 c2 hr2 _))
      refine bodyPost_ret (results_tmp4 rfl _ _ _) rfl ?_
      exact ⟨by simp, rfl⟩
    · rw [szs_bad2 d k hz hk hz2]
      generalize (sizeAns d).1 = v1 at *
      generalize (sizeAns (d.drop k)).1 = v2 at *
      generalize (sizeAns (d.drop k)).2.1 = v3 at *
      generalize (sizeAns (d.drop k)).2.2 = v4 at *
      have q4 : (v4 != 0) = true := by simp [hz2]
      have hkn : k + (n - k) ≤ n := by omega
      clear hz hk h
      go_enter Try.func21, Try.ntmps21
      go_wp2_with (first
        | (go_at_call 33; refine (hs2 _ _ (hr2.rest hl)).mono ?_; rintro e w2 ⟨rfl, rfl⟩)
        | (go_at_call 33; refine h1.mono ?_; rintro e w1 ⟨rfl, rfl⟩)
        | (refine wpList_sub rfl _ _ _ rfl HR.out k (n - k) hkn rfl (.inl rfl) (.inr ⟨rfl, by omega⟩) ?_; intro ao2 c2 hr2 _))
      refine bodyPost_ret (results_tmp4 rfl _ _ _) rfl ?_
      exact ⟨by simp, rfl⟩
  · rw [szs_bad1 d hz]
    generalize (sizeAns d).1 = v1 at *
    generalize (sizeAns d).2.1 = v2 at *
    generalize (sizeAns d).2.2 = v3 at *
    have q4 : (v3 != 0) = true := by simp [hz]
    clear h
    go_enter Try.func21, Try.ntmps21
    go_wp2_with (first
      | (go_at_call 33; refine h1.mono ?_; rintro e w1 ⟨rfl, rfl⟩))
    refine bodyPost_ret (results_tmp4 rfl _ _ _) rfl ?_
    exact ⟨by simp, rfl⟩

theorem own_low {w : World} {e B B' s n : Nat} {v : Value} {xs : List Value} (h : w.ownsRow B e s v n xs) (hb : B' ≤ B) : w.ownsRow B' e s v n xs := by
  refine ⟨h.1, ?_⟩
  rcases h.2 with h' | ⟨g, cap, cur, h0, h1, h2⟩
  · exact .inl h'
  · exact .inr ⟨g, cap, cur, h0, Nat.le_trans hb h1, h2⟩

theorem OwO.low {w : World} {e B B' : Nat} {v : Value} {n : Nat} {xs : List MO} {l : List Op} (h : OwO w e B v n xs l) (hb : B' ≤ B) : OwO w e B' v n xs l := ⟨own_low h.own hb, h.len, h.is, h.sep⟩

theorem prs_bad1 (d : List Int) (h : (szs d).2.2.2 ≠ 0) : prs d = (0, 0, [], (szs d).2.2.2) := by unfold prs; rw [if_pos h]

theorem prs_bad2 (d : List Int) (h : (szs d).2.2.2 = 0) (h2 : (psl (d.drop (szs d).2.2.1)).1 ≠ 0) : prs d = (0, 0, [], (psl (d.drop (szs d).2.2.1)).1) := by
  unfold prs
  rw [if_neg (by simp [h]), if_pos h2]

theorem prs_good (d : List Int) (h : (szs d).2.2.2 = 0) (h2 : (psl (d.drop (szs d).2.2.1)).1 = 0) : prs d = ((szs d).1, (szs d).2.1, (psl (d.drop (szs d).2.2.1)).2, 0) := by
  unfold prs
  rw [if_neg (by simp [h]), if_neg (by simp [h2])]

set_option maxRecDepth 100000 in
set_option maxHeartbeats 1000000 in
theorem parse_any (ao : Option Addr) (n c : Nat) (d : List Int) (w : World) (h : Rd w ao n c d) (hn : n ≤ 1000000) :
    Calls Try.prog 23 #[.slice ao n c] w fun e w' => ∃ v m ms, e = .returned (.tuple #[.int .i64 (prs d).1, .int .i64 (prs d).2.1, v, .int .i64 (prs d).2.2.2]) ∧ OwO w' 42 w.heap.size v m ms (prs d).2.2.1 ∧ Below w.heap.size w w' := by
  have hl := h.len
  have HR : Hid (Rd w ao n c d) := h
  have h1 := sizes_any ao n c d w h hn
  have hok := szs_ok d h.byt
  by_cases hz : (szs d).2.2.2 = 0
  · have hk : (szs d).2.2.1 ≤ n := by omega
    have hp1 := prs_bad2 d hz
    have hp2 := prs_good d hz
    rw [hz] at h1
    generalize (szs d).1 = v1 at *
    generalize (szs d).2.1 = v2 at *
    generalize (szs d).2.2.1 = k at *
    have hkn : k + (n - k) ≤ n := by omega
    clear h hok
    by_cases hq : (psl (d.drop k)).1 = 0
    · have HP : Hid (prs d = (v1, v2, (psl (d.drop k)).2, 0)) := hp2 hq
      have HQ : Hid ((psl (d.drop k)).1 = 0) := hq
      clear hp1 hp2 hq hz
      go_enter Try.func23, Try.ntmps23
      go_wp2_with (first
        | (go_at_call 21; refine h1.mono ?_; rintro e w1 ⟨rfl, rfl⟩)
        | (refine wpList_sub rfl _ _ _ rfl HR.out k (n - k) hkn rfl (.inl rfl) (.inr ⟨rfl, by omega⟩) ?_; intro ao2 c2 hr2 _)
        | (go_at_call 34; refine (readSteps_at R ao3 (n - k) c3 (d.drop k) (d.drop k) w3 ⟨0, hR, rfl⟩ (by omega)).mono ?_; rintro e w4 ⟨v, m, ms, rfl, hO, hF⟩; rw [HQ.out])
        | (go_at_call 35; refine (new_any ao2 (n - k) c2 _ _ (hr2.rest hl) (by omega)).mono ?_; rintro e w3 ⟨R, ao3, c3, rfl, hR, hRb, hRs, hB⟩))
      refine bodyPost_ret (results_tmp4 rfl _ _ _) rfl ?_
      rw [HP.out]
      refine ⟨v, m, ms, by simp, ?_, ?_⟩
      · exact hO.low hB.size
      · exact hB.trans (hF.below _ hB.size (fun i hi e => by omega))
    · have HP : Hid (prs d = (0, 0, [], (psl (d.drop k)).1)) := hp1 hq
      clear hp1 hp2 hz
      go_enter Try.func23, Try.ntmps23
      go_wp2_with (first
        | (go_at_call 21; refine h1.mono ?_; rintro e w1 ⟨rfl, rfl⟩)
        | (refine wpList_sub rfl _ _ _ rfl HR.out k (n - k) hkn rfl (.inl rfl) (.inr ⟨rfl, by omega⟩) ?_; intro ao2 c2 hr2 _)
        | (go_at_call 34; refine (readSteps_at R ao3 (n - k) c3 (d.drop k) (d.drop k) w3 ⟨0, hR, rfl⟩ (by omega)).mono ?_; rintro e w4 ⟨v, m, ms, rfl, hO, hF⟩; generalize (psl (d.drop k)).1 = er at *; have q4 : (er != 0) = true := by simp [hq])
        | (go_at_call 35; refine (new_any ao2 (n - k) c2 _ _ (hr2.rest hl) (by omega)).mono ?_; rintro e w3 ⟨R, ao3, c3, rfl, hR, hRb, hRs, hB⟩))
      refine bodyPost_ret (results_tmp4 rfl _ _ _) rfl ?_
      rw [HP.out]
      exact ⟨_, 0, [], by simp, OwO.nil _ _ _, hB.trans (hF.below _ hB.size (fun i hi e => by omega))⟩
  · have HP : Hid (prs d = (0, 0, [], (szs d).2.2.2)) := prs_bad1 d hz
    generalize (szs d).1 = v1 at *
    generalize (szs d).2.1 = v2 at *
    generalize (szs d).2.2.1 = k at *
    generalize (szs d).2.2.2 = er at *
    have q4 : (er != 0) = true := by simp [hz]
    clear h hok
    go_enter Try.func23, Try.ntmps23
    go_wp2_with (first
      | (go_at_call 21; refine h1.mono ?_; rintro e w1 ⟨rfl, rfl⟩))
    refine bodyPost_ret (results_tmp4 rfl _ _ _) rfl ?_
    rw [HP.out]
    exact ⟨_, 0, [], by simp, OwO.nil _ _ _, Below.refl _ _⟩

theorem Sizes_any (ao : Option Addr) (n c : Nat) (d : List Int) (w : World) (h : Rd w ao n c d) (hn : n ≤ 1000000) :
    Calls Try.prog 10 #[.slice ao n c] w fun e w' => e = .returned (.tuple #[.int .i64 (szs d).1, .int .i64 (szs d).2.1, .int .i64 (szs d).2.2.2]) ∧ w' = w := by
  have h1 := sizes_any ao n c d w h hn
  generalize szs d = s at *
  obtain ⟨v1, v2, k, er⟩ := s
  clear h
  go_enter Try.func10, Try.ntmps10
  go_wp2_with (first
    | (go_at_call 21; refine h1.mono ?_; rintro e w1 ⟨rfl, rfl⟩))
  go_ret3
  exact ⟨by simp, rfl⟩

theorem Parse_any (ao : Option Addr) (n c : Nat) (d : List Int) (w : World) (h : Rd w ao n c d) (hn : n ≤ 1000000) :
    Calls Try.prog 12 #[.slice ao n c] w fun e w' => ∃ v m ms, e = .returned (.tuple #[.int .i64 (prs d).1, .int .i64 (prs d).2.1, v, .int .i64 (prs d).2.2.2]) ∧ OwO w' 42 w.heap.size v m ms (prs d).2.2.1 ∧ Below w.heap.size w w' := by
  have h1 := parse_any ao n c d w h hn
  generalize prs d = s at *
  obtain ⟨v1, v2, k, er⟩ := s
  clear h
  go_enter Try.func12, Try.ntmps12
  go_wp2_with (first
    | (go_at_call 23; refine h1.mono ?_; rintro e w1 ⟨v, m, ms, rfl, hO, hB⟩))
  refine bodyPost_ret (results_tmp4 rfl _ _ _) rfl ?_
  exact ⟨_, m, ms, by simp, hO, hB⟩

end Go.Proofs.Ythaibdflehnbbaa
