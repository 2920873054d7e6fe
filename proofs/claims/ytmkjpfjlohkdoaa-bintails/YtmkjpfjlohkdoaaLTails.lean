/- The walk of BinTails. -/
import Derived.Test.YtmkjpfjlohkdoaaWKnown
import Derived.Test.YtmkjpfjlohkdoaaWPre
import Derived.Test.YtmkjpfjlohkdoaaArgs
import Derived.Test.YtmkjpfjlohkdoaaMath2
namespace Go.Proofs.Ytmkjpfjlohkdoaa
open Go.RowKit

set_option maxHeartbeats 1000000 in
theorem tails_skip (v cut : Int) (ao : Option Addr) (n c : Nat) (w : World) (h : v < 0 ∨ 36028797018963968 < v ∨ 200 < n ∨ cut < 0) :
    Calls Try.prog 6 #[.int .i64 v, .slice ao n c, .int .i64 cut] w fun e w' => e = .returned (.bool true) ∧ Below w.heap.size w w' := by
  by_cases h1 : v < 0
  · clear h
    go_enter Try.func6, Try.ntmps6
    go_wp2_with (go_at_call 7; refine (known_any _).mono ?_; rintro e w1 ⟨rfl, hb⟩)
    go_ret
    exact ⟨rfl, hb⟩
  · by_cases h2 : 36028797018963968 < v
    · clear h
      go_enter Try.func6, Try.ntmps6
      go_wp2_with (go_at_call 7; refine (known_any _).mono ?_; rintro e w1 ⟨rfl, hb⟩)
      go_ret
      exact ⟨rfl, hb⟩
    · by_cases h3 : 200 < n
      · clear h
        go_enter Try.func6, Try.ntmps6
        go_wp2_with (go_at_call 7; refine (known_any _).mono ?_; rintro e w1 ⟨rfl, hb⟩)
        go_ret
        exact ⟨rfl, hb⟩
      · have h4 : cut < 0 := by omega
        clear h
        go_enter Try.func6, Try.ntmps6
        go_wp2_with (go_at_call 7; refine (known_any _).mono ?_; rintro e w1 ⟨rfl, hb⟩)
        go_ret
        exact ⟨rfl, hb⟩

set_option maxHeartbeats 2000000 in
theorem tails_go (v : Int) (cut : Nat) (ao : Option Addr) (n c : Nat) (ts : List Int) (w : World) (h0 : 0 ≤ v) (h1 : v ≤ 36028797018963968) (hn : n ≤ 200) (hcut : (cut : Int) ≤ 9223372036854775807) (hr : Rd w ao n c ts) :
    Calls Try.prog 6 #[.int .i64 v, .slice ao n c, .int .i64 cut] w fun e w' => e = .returned (.bool true) ∧ Below w.heap.size w w' := by
  obtain ⟨A, hA⟩ : ∃ A, A = sz 9 v := ⟨_, rfl⟩
  obtain ⟨B, hB⟩ : ∃ B, B = (ofsBack v).reverse := ⟨_, rfl⟩
  have lA1 : 1 ≤ A.length := by rw [hA]; exact sz_pos 8 v
  have lA2 : A.length ≤ 9 := by rw [hA]; exact sz_len_le 9 v
  have lB1 : 1 ≤ B.length := by rw [hB, List.length_reverse]; exact (ofsBack_length v).1
  have lB2 : B.length ≤ 8 := by rw [hB, List.length_reverse]; exact ofs_short v h1
  have tA : sizeAns (A ++ ts) = (v, (A.length : Int), 0) := by rw [hA]; exact size_tail v ts h0 (by omega)
  have tB : ofsAns (B ++ ts) = (v, (B.length : Int), 0) := by rw [hB, List.length_reverse]; exact ofs_tail v ts h0 h1
  have cA : sizeAns (A.take (cut % A.length)) = (0, 0, 3) := by rw [hA]; exact size_cut v _ (by rw [← hA]; exact Nat.mod_lt _ lA1)
  have cB : ofsAns (B.take (cut % B.length)) = (0, 0, 3) := by rw [hB]; exact ofs_cut v _ h1 (by rw [List.length_reverse, ← List.length_reverse, ← hB]; exact Nat.mod_lt _ lB1)
  have mA : cut % A.length < A.length := Nat.mod_lt _ lA1
  have mB : cut % B.length < B.length := Nat.mod_lt _ lB1
  have eA : (cut : Int) % (A.length : Int) = ((cut % A.length : Nat) : Int) := (Int.natCast_emod _ _).symm
  have eB : (cut : Int) % (B.length : Int) = ((cut % B.length : Nat) : Int) := (Int.natCast_emod _ _).symm
  generalize cut % A.length = kA at *
  generalize cut % B.length = kB at *
  have HA : Hid (A = sz 9 v) := hA
  have HB : Hid (B = (ofsBack v).reverse) := hB
  have TA : Hid (sizeAns (A ++ ts) = (v, (A.length : Int), 0)) := tA
  have TB : Hid (ofsAns (B ++ ts) = (v, (B.length : Int), 0)) := tB
  have CA : Hid (sizeAns (A.take kA) = (0, 0, 3)) := cA
  have CB : Hid (ofsAns (B.take kB) = (0, 0, 3)) := cB
  have bA : ∀ x ∈ A, 0 ≤ x ∧ x < 256 := by rw [hA]; exact sz_byt 9 v h0
  have bB : ∀ x ∈ B, 0 ≤ x ∧ x < 256 := by rw [hB]; exact fun x hx => ofsBack_byt v x (by simpa using hx)
  have hlB : (ofsBack v).length = B.length := by rw [hB, List.length_reverse]
  have HLB : Hid ((ofsBack v).length = B.length) := hlB
  clear hA hB tA tB cA cB hlB
  go_enter Try.func6, Try.ntmps6
  go_wp2_with (go_at_call 7; refine (known_any _).mono ?_; rintro e w1 ⟨rfl, hb⟩)
  refine (putSize_any none 0 0 v [] w1 (Rd.nil _) (by omega) h0 (by omega)).mono ?_
  rintro e w2 ⟨rfl, o1, b1⟩
  rw [List.nil_append, Nat.zero_add, ← HA.out] at o1
  rw [Nat.zero_add, ← HA.out]
  have r1 := Rd.ofOwn o1 bA
  have rt := (hr.keep hb).keep b1
  have B1 := hb.trans (b1.mono hb.size)
  clear o1 b1 hb hr
  go_wp2_with fail
  refine (putOffset_any none 0 0 v [] w2 (Rd.nil _) (by omega) h0 (by omega)).mono ?_
  rintro e w3 ⟨g2, rfl, o2, b2⟩
  rw [List.nil_append, Nat.zero_add, ← HB.out, HLB.out] at o2
  rw [Nat.zero_add, HLB.out]
  have r2 := Rd.ofOwn o2 bB
  have r1' := r1.keep b2
  have rt' := rt.keep b2
  have B2 := B1.trans (b2.mono B1.size)
  clear o2 b2 B1 r1 rt
  go_wp2_with (first
    | (at_builtin; refine wpList_append_rd rfl (.tmp 43) (.tmp 44) rfl w3.heap.size w3.heap.size 0 0 [] rfl (none_own w3) _ _ _ A rfl (r1'.keep ((Below.refl _ _).alloc (Nat.le_refl _) _)) (by omega) (by simp) ?_; intro g5 c5 w5 o5 gr5; simp only [List.nil_append, Nat.zero_add] at o5)
    | (at_builtin; refine wpList_append_rd rfl (.tmp 45) (.tmp 46) rfl w3.heap.size _ _ _ A rfl o5 ao n c ts rfl (rt'.keep (alloc_grown gr5)) (by omega) (alloc_grown gr5).size ?_; intro g6 c6 w6 o6 gr6))
  have bT := rt'.byt
  have bAT : ∀ x ∈ A ++ ts, 0 ≤ x ∧ x < 256 := fun x hx => (List.mem_append.1 hx).elim (bA x) (bT x)
  have bBT : ∀ x ∈ B ++ ts, 0 ≤ x ∧ x < 256 := fun x hx => (List.mem_append.1 hx).elim (bB x) (bT x)
  have f6 : Below w3.heap.size w3 w6 := (alloc_grown gr5).grown gr6 (alloc_grown gr5).size (fun k hk => by cases hk; exact (o5.lt g5 rfl).1)
  have r6 := Rd.ofOwn o6 bAT
  have a6 := r1'.keep f6
  have t6 := rt'.keep f6
  have d6 := r2.keep f6
  have B6 := B2.trans (f6.mono B2.size)
  clear o6 gr6 o5 gr5 f6 B2 r1' rt' r2
  refine (size_any _ _ _ _ w6 r6 (by omega)).mono ?_
  rintro e w7 ⟨rfl, rfl⟩
  rw [TA.out]
  clear r6
  go_wp2_with (first
    | (at_builtin; refine wpList_append_rd rfl (.tmp 53) (.tmp 54) rfl w7.heap.size w7.heap.size 0 0 [] rfl (none_own w7) _ _ _ B rfl (d6.keep ((Below.refl _ _).alloc (Nat.le_refl _) _)) (by omega) (by simp) ?_; intro g5 c5 w5 o5 gr5; simp only [List.nil_append, Nat.zero_add] at o5)
    | (at_builtin; refine wpList_append_rd rfl (.tmp 55) (.tmp 56) rfl w7.heap.size _ _ _ B rfl o5 ao n c ts rfl (t6.keep (alloc_grown gr5)) (by omega) (alloc_grown gr5).size ?_; intro g6 c6 w6 o6 gr6))
  have f8 : Below w7.heap.size w7 w6 := (alloc_grown gr5).grown gr6 (alloc_grown gr5).size (fun k hk => by cases hk; exact (o5.lt g5 rfl).1)
  have r8 := Rd.ofOwn o6 bBT
  have a8 := a6.keep f8
  have d8 := d6.keep f8
  have B8 := B6.trans (f8.mono B6.size)
  clear o6 gr6 o5 gr5 f8 B6 a6 t6 d6
  refine (offset_any _ _ _ _ w6 r8 (by omega)).mono ?_
  rintro e w9 ⟨rfl, rfl⟩
  rw [TB.out]
  clear r8
  go_wp2_with fail
  refine (size_any _ _ _ _ w9 (a8.pre kA (by omega)) (by omega)).mono ?_
  rintro e w10 ⟨rfl, rfl⟩
  rw [CA.out]
  go_wp2_with fail
  refine (offset_any _ _ _ _ w10 (d8.pre kB (by omega)) (by omega)).mono ?_
  rintro e w11 ⟨rfl, rfl⟩
  rw [CB.out]
  clear a8 d8
  go_wp2
  go_ret
  exact ⟨rfl, B8⟩

end Go.Proofs.Ytmkjpfjlohkdoaa
