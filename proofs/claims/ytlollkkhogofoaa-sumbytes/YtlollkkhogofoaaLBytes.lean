/- The walk of SumBytes. -/
import Derived.Test.YtlollkkhogofoaaWSums
namespace Go.Proofs.Ytlollkkhogofoaa
open Go.RowKit

/-- What the regions read. -/
structure BS (w : World) (ao : Option Addr) (n c : Nat) (ys : List Int) (w' : World) : Prop where
  r : Rd w' ao n c ys
  bel : Below w.heap.size w w'

theorem BS.keep {w : World} {ao : Option Addr} {n c : Nat} {ys : List Int} {w' w'' : World} (h : BS w ao n c ys w') (hb : Below w'.heap.size w' w'') : BS w ao n c ys w'' := ⟨h.r.keep hb, h.bel.trans (hb.mono h.bel.size)⟩

theorem BS.lo {w : World} {ao : Option Addr} {n c : Nat} {ys : List Int} {w' : World} (h : BS w ao n c ys w') (M : Nat) (hM : M ≤ n) : Rd w' (cutAt ao c 0) M (c - 0) (ys.take M) := by
  have := h.r.part 0 M (by omega)
  rw [List.drop_zero] at this
  exact this

theorem BS.hi {w : World} {ao : Option Addr} {n c : Nat} {ys : List Int} {w' : World} (h : BS w ao n c ys w') (M : Nat) (hM : M ≤ n) : Rd w' (cutAt ao c M) (n - M) (c - M) (ys.drop M) := by
  have := h.r.part M (n - M) (by omega)
  rw [List.take_of_length_le (by have := h.r.len; simp; omega)] at this
  exact this

theorem bytes_skip (ao : Option Addr) (n c : Nat) (cut : Int) (w : World) (h : 8000 < n ∨ cut < 0 ∨ (n : Int) < cut) :
    Calls Try.prog 3 #[.slice ao n c, .int .i64 cut] w fun e w' => e = .returned (.bool true) ∧ Below w.heap.size w w' := by
  by_cases h1 : 8000 < n
  · have d1 : decide ((8000 : Int) < (n : Int)) = true := by simp; omega
    clear h
    go_enter Try.func3, Try.ntmps3
    go_wp2_with (go_at_call 8; refine (known_any _).mono ?_; rintro e w1 ⟨rfl, hb⟩)
    go_ret
    exact ⟨rfl, hb⟩
  have d1 : decide ((8000 : Int) < (n : Int)) = false := by simp; omega
  by_cases h2 : cut < 0
  · have d2 : decide (cut < 0) = true := by simp; omega
    clear h
    go_enter Try.func3, Try.ntmps3
    go_wp2_with (go_at_call 8; refine (known_any _).mono ?_; rintro e w1 ⟨rfl, hb⟩)
    go_ret
    exact ⟨rfl, hb⟩
  · have d2 : decide (cut < 0) = false := by simp; omega
    have d3 : decide ((n : Int) < cut) = true := by simp; omega
    clear h
    go_enter Try.func3, Try.ntmps3
    go_wp2_with (go_at_call 8; refine (known_any _).mono ?_; rintro e w1 ⟨rfl, hb⟩)
    go_ret
    exact ⟨rfl, hb⟩

set_option maxRecDepth 100000 in
set_option maxHeartbeats 8000000 in
theorem bytes_go (ao : Option Addr) (n c M : Nat) (ys : List Int) (w : World) (hn : n ≤ 8000) (hM : M ≤ n) (hr : Rd w ao n c ys) :
    Calls Try.prog 3 #[.slice ao n c, .int .i64 (M : Int)] w fun e w' => e = .returned (.bool true) ∧ Below w.heap.size w w' := by
  have d1 : decide ((8000 : Int) < (n : Int)) = false := by simp; omega
  have d2 : decide ((M : Int) < 0) = false := by simp
  have d3 : decide (n < M) = false := by simp; omega
  have HR : Hid (Rd w ao n c ys) := hr
  have hj : ys.take M ++ ys.drop M = ys := List.take_append_drop M ys
  have hdl : ((ys.drop M).length : Int) = (n : Int) - M := by have := hr.len; simp; omega
  have hbt : ∀ x ∈ ys.take M, 0 ≤ x ∧ x < 256 := fun x hx => hr.byt x (List.mem_of_mem_take hx)
  have k1 : ∀ wq, BS w ao n c ys wq → Calls Try.prog 11 #[.slice ao n c] wq (fun e w' => e = .returned (.int .u32 (CR ys)) ∧ BS w ao n c ys w') := fun wq h => (rcrcR ao n c ys wq h.r (by omega)).mono (fun e w'' hh => ⟨hh.1, by rw [hh.2]; exact h⟩)
  have k2 : ∀ wq, BS w ao n c ys wq → Calls Try.prog 12 #[.slice ao n c] wq (fun e w' => e = .returned (.int .u32 (AL ys)) ∧ BS w ao n c ys w') := fun wq h => (radlR ao n c ys wq h.r (by omega)).mono (fun e w'' hh => ⟨hh.1, by rw [hh.2]; exact h⟩)
  have k3 : ∀ wq, BS w ao n c ys wq → Calls Try.prog 9 #[.slice (cutAt ao c 0) M (c - 0)] wq (fun e w' => e = .returned (.int .u32 (CR (ys.take M))) ∧ BS w ao n c ys w') := fun wq h => (crcR _ M _ _ wq (h.lo M hM) (by omega)).mono (fun e w'' hh => ⟨hh.1, h.keep hh.2⟩)
  have k4 : ∀ wq, BS w ao n c ys wq → Calls Try.prog 13 #[.int .u32 (CR (ys.take M)), .slice (cutAt ao c M) (n - M) (c - M)] wq (fun e w' => e = .returned (.int .u32 (CR ys)) ∧ BS w ao n c ys w') := fun wq h => (moreR _ (n - M) _ (ys.take M) _ wq hbt (h.hi M hM) (by omega)).mono (fun e w'' hh => ⟨by rw [hh.1, hj], h.keep hh.2⟩)
  have k5 : ∀ wq, BS w ao n c ys wq → Calls Try.prog 10 #[.slice (cutAt ao c 0) M (c - 0)] wq (fun e w' => e = .returned (.int .u32 (AL (ys.take M))) ∧ BS w ao n c ys w') := fun wq h => (adlR _ M _ _ wq (h.lo M hM) (by omega)).mono (fun e w'' hh => ⟨hh.1, by rw [hh.2]; exact h⟩)
  have k6 : ∀ wq, BS w ao n c ys wq → Calls Try.prog 14 #[.int .u32 (AL (ys.take M)), .slice (cutAt ao c M) (n - M) (c - M)] wq (fun e w' => e = .returned (.int .u32 (AL ys)) ∧ BS w ao n c ys w') := fun wq h => (amoreR _ (n - M) _ (ys.take M) _ wq (h.hi M hM) (by omega)).mono (fun e w'' hh => ⟨by rw [hh.1, hj], by rw [hh.2]; exact h⟩)
  have k7 : ∀ wq, BS w ao n c ys wq → Calls Try.prog 10 #[.slice (cutAt ao c M) (n - M) (c - M)] wq (fun e w' => e = .returned (.int .u32 (AL (ys.drop M))) ∧ BS w ao n c ys w') := fun wq h => (adlR _ (n - M) _ _ wq (h.hi M hM) (by omega)).mono (fun e w'' hh => ⟨hh.1, by rw [hh.2]; exact h⟩)
  have k8 : ∀ wq, BS w ao n c ys wq → Calls Try.prog 15 #[.int .u32 (AL (ys.take M)), .int .u32 (AL (ys.drop M)), .int .i64 ((n : Int) - M)] wq (fun e w' => e = .returned (.int .u32 (AL ys)) ∧ BS w ao n c ys w') := fun wq h => by
    have := joinR (ys.take M) (ys.drop M) wq (by omega)
    rw [hdl, hj] at this
    exact this.mono (fun e w'' hh => ⟨hh.1, by rw [hh.2]; exact h⟩)
  have hw1 : IntKind.i64.wrap ((n : Int) - M) = (n : Int) - M := by rw [IntKind.wrap_i64]; omega
  clear hr hj hdl hbt
  go_enter Try.func3, Try.ntmps3
  go_wp2_with fail
  refine (known_any _).mono ?_
  rintro e w1 ⟨rfl, b1⟩
  have H1 : Hid (Below w.heap.size w w1) := b1
  clear b1
  go_wp2_with fail
  refine (crcR ao n c ys _ (HR.out.keep H1.out) (by omega)).mono ?_
  rintro e w2 ⟨rfl, b2⟩
  have H2 : Hid (Below w.heap.size w w2) := H1.out.trans (b2.mono H1.out.size)
  clear b2 H1
  go_wp2_with fail
  refine (adlR ao n c ys _ (HR.out.keep H2.out) (by omega)).mono ?_
  rintro e wq ⟨rfl, hw⟩
  subst hw
  go_wp2_with fail
  refine wp_region_quiet (C := fun w' => BS w ao n c ys w') (by kernel_rfl) (by kernel_rfl) (BS.keep ⟨HR.out.keep H2.out, H2.out⟩ (Below.refl _ _).drew) ?_
  refine wpQuiet_step (fun K hK => ?_)
  (go_simp; refine ⟨_, fun wq hs => rfl, hK _ ?_⟩; clear hK K)
  refine wpQuiet_step (fun K hK => ?_)
  (go_simp; refine ⟨_, fun wq hs => rfl, hK _ ?_⟩; clear hK K)
  refine wpQuiet_step (fun K hK => ?_)
  (refine q_call1 (by rfl) 11 cf11 _ _ rfl (.slice ao n c) rfl _ k1 (hK _ ?_); clear hK K)
  refine wpQuiet_step (fun K hK => ?_)
  (go_simp; refine ⟨_, fun wq hs => rfl, hK _ ?_⟩; clear hK K)
  refine wpQuiet_step (fun K hK => ?_)
  (go_simp; refine ⟨_, fun wq hs => rfl, hK _ ?_⟩; clear hK K)
  refine wpQuiet_step (fun K hK => ?_)
  (go_simp; refine ⟨_, fun wq hs => rfl, hK _ ?_⟩; clear hK K)
  refine wpQuiet_step (fun K hK => ?_)
  (go_simp; refine ⟨_, fun wq hs => rfl, hK _ ?_⟩; clear hK K)
  refine wpQuiet_step (fun K hK => ?_)
  (refine q_call1 (by rfl) 12 cf12 _ _ rfl (.slice ao n c) rfl _ k2 (hK _ ?_); clear hK K)
  refine wpQuiet_step (fun K hK => ?_)
  (go_simp; refine ⟨_, fun wq hs => rfl, hK _ ?_⟩; clear hK K)
  refine wpQuiet_step (fun K hK => ?_)
  (go_simp; refine ⟨_, fun wq hs => rfl, hK _ ?_⟩; clear hK K)
  refine wpQuiet_step (fun K hK => ?_)
  (go_simp; refine ⟨_, fun wq hs => rfl, hK _ ?_⟩; clear hK K)
  refine wpQuiet_step (fun K hK => ?_)
  (go_simp; refine ⟨_, fun wq hs => rfl, hK _ ?_⟩; clear hK K)
  refine wpQuiet_step (fun K hK => ?_)
  (go_simp; refine ⟨_, fun wq hs => rfl, hK _ ?_⟩; clear hK K)
  refine wpQuiet_step (fun K hK => ?_)
  (refine q_sub (by rfl) _ _ _ rfl HR.out 0 M (by omega) rfl (.inr ⟨rfl, rfl⟩) (.inl (by rw [Nat.zero_add]; rfl)) (hK _ ?_); clear hK K)
  refine wpQuiet_step (fun K hK => ?_)
  (refine q_call1 (by rfl) 9 cf9 _ _ rfl (.slice (cutAt ao c 0) M (c - 0)) rfl _ k3 (hK _ ?_); clear hK K)
  refine wpQuiet_step (fun K hK => ?_)
  (go_simp; refine ⟨_, fun wq hs => rfl, hK _ ?_⟩; clear hK K)
  refine wpQuiet_step (fun K hK => ?_)
  (go_simp; refine ⟨_, fun wq hs => rfl, hK _ ?_⟩; clear hK K)
  refine wpQuiet_step (fun K hK => ?_)
  (refine q_sub (by rfl) _ _ _ rfl HR.out M (n - M) (by omega) rfl (.inl rfl) (.inr ⟨rfl, by omega⟩) (hK _ ?_); clear hK K)
  refine wpQuiet_step (fun K hK => ?_)
  (refine q_call2 (by rfl) 13 cf13 _ _ _ rfl (.int .u32 (CR (ys.take M))) (.slice (cutAt ao c M) (n - M) (c - M)) rfl rfl _ k4 (hK _ ?_); clear hK K)
  refine wpQuiet_step (fun K hK => ?_)
  (go_simp; refine ⟨_, fun wq hs => rfl, hK _ ?_⟩; clear hK K)
  refine wpQuiet_step (fun K hK => ?_)
  (go_simp; refine ⟨_, fun wq hs => rfl, hK _ ?_⟩; clear hK K)
  refine wpQuiet_step (fun K hK => ?_)
  (go_simp; refine ⟨_, fun wq hs => rfl, hK _ ?_⟩; clear hK K)
  refine wpQuiet_step (fun K hK => ?_)
  (go_simp; refine ⟨_, fun wq hs => rfl, hK _ ?_⟩; clear hK K)
  refine wpQuiet_step (fun K hK => ?_)
  (go_simp; refine ⟨_, fun wq hs => rfl, hK _ ?_⟩; clear hK K)
  refine wpQuiet_step (fun K hK => ?_)
  (go_simp; refine ⟨_, fun wq hs => rfl, hK _ ?_⟩; clear hK K)
  refine wpQuiet_step (fun K hK => ?_)
  (refine q_sub (by rfl) _ _ _ rfl HR.out 0 M (by omega) rfl (.inr ⟨rfl, rfl⟩) (.inl (by rw [Nat.zero_add]; rfl)) (hK _ ?_); clear hK K)
  refine wpQuiet_step (fun K hK => ?_)
  (refine q_call1 (by rfl) 10 cf10 _ _ rfl (.slice (cutAt ao c 0) M (c - 0)) rfl _ k5 (hK _ ?_); clear hK K)
  refine wpQuiet_step (fun K hK => ?_)
  (go_simp; refine ⟨_, fun wq hs => rfl, hK _ ?_⟩; clear hK K)
  refine wpQuiet_step (fun K hK => ?_)
  (go_simp; refine ⟨_, fun wq hs => rfl, hK _ ?_⟩; clear hK K)
  refine wpQuiet_step (fun K hK => ?_)
  (refine q_sub (by rfl) _ _ _ rfl HR.out M (n - M) (by omega) rfl (.inl rfl) (.inr ⟨rfl, by omega⟩) (hK _ ?_); clear hK K)
  refine wpQuiet_step (fun K hK => ?_)
  (refine q_call2 (by rfl) 14 cf14 _ _ _ rfl (.int .u32 (AL (ys.take M))) (.slice (cutAt ao c M) (n - M) (c - M)) rfl rfl _ k6 (hK _ ?_); clear hK K)
  refine wpQuiet_step (fun K hK => ?_)
  (go_simp; refine ⟨_, fun wq hs => rfl, hK _ ?_⟩; clear hK K)
  refine wpQuiet_step (fun K hK => ?_)
  (go_simp; refine ⟨_, fun wq hs => rfl, hK _ ?_⟩; clear hK K)
  refine wpQuiet_step (fun K hK => ?_)
  (go_simp; refine ⟨_, fun wq hs => rfl, hK _ ?_⟩; clear hK K)
  refine wpQuiet_nil ?_
  intro w4 h4
  have H4 : Hid (BS w ao n c ys w4) := h4
  clear h4 H2
  go_wp2_with fail
  refine wp_region_quiet (C := fun w' => BS w ao n c ys w') (by kernel_rfl) (by kernel_rfl) (H4.out.keep (Below.refl _ _).drew) ?_
  refine wpQuiet_step (fun K hK => ?_)
  (go_simp; refine ⟨_, fun wq hs => rfl, hK _ ?_⟩; clear hK K)
  refine wpQuiet_step (fun K hK => ?_)
  (go_simp; refine ⟨_, fun wq hs => rfl, hK _ ?_⟩; clear hK K)
  refine wpQuiet_step (fun K hK => ?_)
  (refine q_sub (by rfl) _ _ _ rfl HR.out 0 M (by omega) rfl (.inr ⟨rfl, rfl⟩) (.inl (by rw [Nat.zero_add]; rfl)) (hK _ ?_); clear hK K)
  refine wpQuiet_step (fun K hK => ?_)
  (refine q_call1 (by rfl) 10 cf10 _ _ rfl (.slice (cutAt ao c 0) M (c - 0)) rfl _ k5 (hK _ ?_); clear hK K)
  refine wpQuiet_step (fun K hK => ?_)
  (go_simp; refine ⟨_, fun wq hs => rfl, hK _ ?_⟩; clear hK K)
  refine wpQuiet_step (fun K hK => ?_)
  (go_simp; refine ⟨_, fun wq hs => rfl, hK _ ?_⟩; clear hK K)
  refine wpQuiet_step (fun K hK => ?_)
  (refine q_sub (by rfl) _ _ _ rfl HR.out M (n - M) (by omega) rfl (.inl rfl) (.inr ⟨rfl, by omega⟩) (hK _ ?_); clear hK K)
  refine wpQuiet_step (fun K hK => ?_)
  (refine q_call1 (by rfl) 10 cf10 _ _ rfl (.slice (cutAt ao c M) (n - M) (c - M)) rfl _ k7 (hK _ ?_); clear hK K)
  refine wpQuiet_step (fun K hK => ?_)
  (go_simp; refine ⟨_, fun wq hs => rfl, hK _ ?_⟩; clear hK K)
  refine wpQuiet_step (fun K hK => ?_)
  (go_simp; refine ⟨_, fun wq hs => rfl, hK _ ?_⟩; clear hK K)
  refine wpQuiet_step (fun K hK => ?_)
  (go_simp; refine ⟨_, fun wq hs => rfl, hK _ ?_⟩; clear hK K)
  refine wpQuiet_step (fun K hK => ?_)
  (go_simp; refine ⟨_, fun wq hs => rfl, hK _ ?_⟩; clear hK K)
  refine wpQuiet_step (fun K hK => ?_)
  (refine q_call3 (by rfl) 15 cf15 _ _ _ _ rfl (.int .u32 (AL (ys.take M))) (.int .u32 (AL (ys.drop M))) (.int .i64 ((n : Int) - M)) rfl rfl rfl _ k8 (hK _ ?_); clear hK K)
  refine wpQuiet_step (fun K hK => ?_)
  (go_simp; refine ⟨_, fun wq hs => rfl, hK _ ?_⟩; clear hK K)
  refine wpQuiet_step (fun K hK => ?_)
  (go_simp; refine ⟨_, fun wq hs => rfl, hK _ ?_⟩; clear hK K)
  refine wpQuiet_step (fun K hK => ?_)
  (go_simp; refine ⟨_, fun wq hs => rfl, hK _ ?_⟩; clear hK K)
  refine wpQuiet_nil ?_
  intro w5 h5
  have hb5 := h5.bel
  clear h5 k1 k2 k3 k4 k5 k6 k7 k8
  go_wp2_with fail
  go_ret
  exact ⟨rfl, hb5⟩

theorem bytes_any (ao : Option Addr) (n c : Nat) (cut : Int) (ys : List Int) (w : World) (hr : Rd w ao n c ys) :
    Calls Try.prog 3 #[.slice ao n c, .int .i64 cut] w fun e w' => e = .returned (.bool true) ∧ Below w.heap.size w w' := by
  by_cases h : 8000 < n ∨ cut < 0 ∨ (n : Int) < cut
  · exact bytes_skip ao n c cut w h
  · obtain ⟨M, rfl⟩ : ∃ M : Nat, cut = M := ⟨cut.toNat, by omega⟩
    exact bytes_go ao n c M ys w (by omega) (by omega) hr

end Go.Proofs.Ytlollkkhogofoaa
