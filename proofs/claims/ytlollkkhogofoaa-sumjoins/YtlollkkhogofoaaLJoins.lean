/- The walk of SumJoins. -/
import Derived.Test.YtlollkkhogofoaaWSums
namespace Go.Proofs.Ytlollkkhogofoaa
open Go.RowKit

theorem joins_skip (ao co : Option Addr) (n c m d : Nat) (cr : Int) (w : World) (h : 8000 < n ∨ 8000 < m) :
    Calls Try.prog 5 #[.slice ao n c, .slice co m d, .int .u32 cr] w fun e w' => e = .returned (.bool true) ∧ Below w.heap.size w w' := by
  by_cases h1 : 8000 < n
  · have d1 : decide ((8000 : Int) < (n : Int)) = true := by simp; omega
    clear h
    go_enter Try.func5, Try.ntmps5
    go_wp2_with (go_at_call 8; refine (known_any _).mono ?_; rintro e w1 ⟨rfl, hb⟩)
    go_ret
    exact ⟨rfl, hb⟩
  · have d1 : decide ((8000 : Int) < (n : Int)) = false := by simp; omega
    have d2 : decide ((8000 : Int) < (m : Int)) = true := by simp; omega
    clear h
    go_enter Try.func5, Try.ntmps5
    go_wp2_with (go_at_call 8; refine (known_any _).mono ?_; rintro e w1 ⟨rfl, hb⟩)
    go_ret
    exact ⟨rfl, hb⟩

set_option maxRecDepth 100000 in
set_option maxHeartbeats 4000000 in
theorem joins_go (ao co : Option Addr) (n c m d cr : Nat) (ys zs : List Int) (w : World) (hn : n ≤ 8000) (hm : m ≤ 8000) (hcr : cr < 4294967296) (hr : Rd w ao n c ys) (hs : Rd w co m d zs) :
    Calls Try.prog 5 #[.slice ao n c, .slice co m d, .int .u32 (cr : Int)] w fun e w' => e = .returned (.bool true) ∧ Below w.heap.size w w' := by
  have d1 : decide ((8000 : Int) < (n : Int)) = false := by simp; omega
  have d2 : decide ((8000 : Int) < (m : Int)) = false := by simp; omega
  have HR : Hid (Rd w ao n c ys ∧ Rd w co m d zs ∧ zs.length = m) := ⟨hr, hs, hs.len⟩
  clear hr hs
  go_enter Try.func5, Try.ntmps5
  go_wp2_with fail
  refine (known_any _).mono ?_
  rintro e w1 ⟨rfl, b1⟩
  have o0 := none_own w1 w1.heap.size (Nat.le_refl _)
  have bA : Below w.heap.size w (w1.alloc (.cells #[] 5)) := b1.alloc b1.size _
  have rd0 := HR.out.1.keep bA
  have HA : Hid (Below w.heap.size w (w1.alloc (.cells #[] 5)) ∧ w.heap.size ≤ w1.heap.size) := ⟨bA, b1.size⟩
  clear b1 bA
  go_wp2_with (first
    | (refine wpList_append_rd rfl _ _ rfl w1.heap.size _ 0 0 [] rfl o0 ao n c ys rfl rd0 (by omega) (by simp) ?_; intro g2 cap2 w2 own2 gr2; rw [Nat.zero_add, List.nil_append] at own2; rw [Nat.zero_add]; have b2 : Below w.heap.size w w2 := HA.out.1.grown gr2 HA.out.1.size (fun k hk => by cases hk; exact HA.out.2); have rd1 := HR.out.2.1.keep b2; have l2 := own2.lt g2 rfl; have s2 : w1.heap.size ≤ w2.heap.size := Nat.le_of_lt (Nat.lt_of_le_of_lt l2.1 l2.2); clear o0 rd0 gr2 l2)
    | (refine wpList_append_rd rfl _ _ rfl w1.heap.size g2 n cap2 ys rfl own2 co m d zs rfl rd1 (by omega) s2 ?_; intro g3 cap3 w3 own3 gr3; have b3 : Below w.heap.size w w3 := b2.grown gr3 b2.size (fun k hk => by cases hk; exact Nat.le_trans HA.out.2 (own_base own2))))
  have H3 : Hid (Below w.heap.size w w3 ∧ Rd w3 ao n c ys ∧ Rd w3 co m d zs ∧ Rd w3 (some ⟨g3, 0, none⟩) (n + m) cap3 (ys ++ zs)) := ⟨b3, HR.out.1.keep b3, HR.out.2.1.keep b3, Rd.ofOwn own3 (fun x hx => (List.mem_append.1 hx).elim (HR.out.1.byt x) (HR.out.2.1.byt x))⟩
  have HL : Hid (zs.length = m ∧ ys ++ [] = ys) := ⟨HR.out.2.2, List.append_nil _⟩
  clear own3 gr3 b3 own2 b2 rd1 s2 HA HR
  go_wp2_with fail
  refine (adlR ao n c ys _ H3.out.2.1 (by omega)).mono ?_
  rintro e wq ⟨rfl, hw⟩
  subst hw
  go_wp2_with fail
  refine (adlR co m d zs _ H3.out.2.2.1 (by omega)).mono ?_
  rintro e wq ⟨rfl, hw⟩
  subst hw
  go_wp2_with fail
  have hj := joinR ys zs
  rw [HL.out.1] at hj
  have HJ : Hid (∀ w' : World, Calls Try.prog 15 #[.int .u32 (AL ys), .int .u32 (AL zs), .int .i64 (m : Int)] w' fun e w'' => e = .returned (.int .u32 (AL (ys ++ zs))) ∧ w'' = w') := fun w' => hj w' (by omega)
  have hk := rjoinR ys zs
  rw [HL.out.1] at hk
  have HK : Hid (∀ w' : World, Calls Try.prog 17 #[.int .u32 (AL ys), .int .u32 (AL zs), .int .i64 (m : Int)] w' fun e w'' => e = .returned (.int .u32 (AL (ys ++ zs))) ∧ w'' = w') := fun w' => hk w' (by omega)
  have hz : ∀ w' : World, Calls Try.prog 15 #[.int .u32 (AL ys), .int .u32 1, .int .i64 0] w' fun e w'' => e = .returned (.int .u32 (AL ys)) ∧ w'' = w' := fun w' => by
    have := joinR ys [] w' (by simp)
    rw [HL.out.2, AL_nil] at this
    exact this
  have HZ : Hid (∀ w' : World, Calls Try.prog 15 #[.int .u32 (AL ys), .int .u32 1, .int .i64 0] w' fun e w'' => e = .returned (.int .u32 (AL ys)) ∧ w'' = w') := hz
  clear hj hk hz
  refine (HJ.out _).mono ?_
  rintro e wq ⟨rfl, hw⟩
  subst hw
  go_wp2_with fail
  refine (radlR _ (n + m) cap3 (ys ++ zs) _ H3.out.2.2.2 (by omega)).mono ?_
  rintro e wq ⟨rfl, hw⟩
  subst hw
  go_wp2_with fail
  refine (radlR ao n c ys _ H3.out.2.1 (by omega)).mono ?_
  rintro e wq ⟨rfl, hw⟩
  subst hw
  go_wp2_with fail
  refine (HZ.out _).mono ?_
  rintro e wq ⟨rfl, hw⟩
  subst hw
  go_wp2_with fail
  refine (radlR ao n c ys _ H3.out.2.1 (by omega)).mono ?_
  rintro e wq ⟨rfl, hw⟩
  subst hw
  go_wp2_with fail
  refine (crcMore_any cr ao n c ys _ hcr H3.out.2.1 (by omega)).mono ?_
  rintro e w4 ⟨rfl, b4⟩
  have H4 : Hid (Below w.heap.size w w4 ∧ Rd w4 ao n c ys ∧ Rd w4 co m d zs) := ⟨H3.out.1.trans (b4.mono H3.out.1.size), H3.out.2.1.keep b4, H3.out.2.2.1.keep b4⟩
  clear b4 H3
  obtain ⟨t, ht⟩ : ∃ t : Int, t = (cmore cr (nat ys) : Nat) := ⟨_, rfl⟩
  have HT : Hid (t = (cmore cr (nat ys) : Nat)) := ht
  rw [← ht]
  clear ht
  go_wp2_with fail
  refine (rmore_any cr ao n c ys _ hcr H4.out.2.1 (by omega)).mono ?_
  rintro e wq ⟨rfl, hw⟩
  subst hw
  rw [← HT.out]
  go_wp2_with fail
  refine (radlR ao n c ys _ H4.out.2.1 (by omega)).mono ?_
  rintro e wq ⟨rfl, hw⟩
  subst hw
  go_wp2_with fail
  refine (radlR co m d zs _ H4.out.2.2 (by omega)).mono ?_
  rintro e wq ⟨rfl, hw⟩
  subst hw
  go_wp2_with fail
  refine (HJ.out _).mono ?_
  rintro e wq ⟨rfl, hw⟩
  subst hw
  go_wp2_with fail
  refine (radlR ao n c ys _ H4.out.2.1 (by omega)).mono ?_
  rintro e wq ⟨rfl, hw⟩
  subst hw
  go_wp2_with fail
  refine (radlR co m d zs _ H4.out.2.2 (by omega)).mono ?_
  rintro e wq ⟨rfl, hw⟩
  subst hw
  go_wp2_with fail
  refine (HK.out _).mono ?_
  rintro e wq ⟨rfl, hw⟩
  subst hw
  go_wp2_with fail
  go_ret
  exact ⟨rfl, H4.out.1⟩

theorem joins_any (ao co : Option Addr) (n c m d : Nat) (cr : Int) (ys zs : List Int) (w : World) (hc : 0 ≤ cr ∧ cr < 4294967296) (hr : Rd w ao n c ys) (hs : Rd w co m d zs) :
    Calls Try.prog 5 #[.slice ao n c, .slice co m d, .int .u32 cr] w fun e w' => e = .returned (.bool true) ∧ Below w.heap.size w w' := by
  by_cases h : 8000 < n ∨ 8000 < m
  · exact joins_skip ao co n c m d cr w h
  · obtain ⟨k, rfl⟩ : ∃ k : Nat, cr = k := ⟨cr.toNat, by omega⟩
    exact joins_go ao co n c m d k ys zs w (by omega) (by omega) (by omega) hr hs

end Go.Proofs.Ytlollkkhogofoaa
