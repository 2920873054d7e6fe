/- known. -/
import Derived.Test.YtmkjpfjlohkdoaaWPut
import Derived.Test.YtmkjpfjlohkdoaaWOffset
import Derived.Test.YtmkjpfjlohkdoaaWRdOfs
import Derived.Test.YtmkjpfjlohkdoaaWNums
namespace Go.Proofs.Ytmkjpfjlohkdoaa
open Go.RowKit

def kn : List Int := [1, 2, 255, 255, 255, 255, 0, 0, 0, 0, 0, 0, 0, 7]

theorem kn_is : (([] ++ be 258 2) ++ be (-1) 4) ++ be 7 8 = kn := by decide +kernel
theorem kn_byt : ∀ x ∈ kn, 0 ≤ x ∧ x < 256 := by decide +kernel
theorem kn1 : num 0 (tk kn 0 0 2).1 = 258 ∧ (tk kn 0 0 2).2.1 = 2 ∧ (tk kn 0 0 2).2.2 = 0 := by decide +kernel
theorem kn2 : num 0 (tk kn 2 0 4).1 = 4294967295 ∧ (tk kn 2 0 4).2.1 = 6 ∧ (tk kn 2 0 4).2.2 = 0 := by decide +kernel
theorem kn3 : (u64r kn 6 0).1 = 7 ∧ (u64r kn 6 0).2.1 = 14 ∧ (u64r kn 6 0).2.2 = 0 := by decide +kernel
theorem kn4 : num 0 (tk kn 14 0 1).1 = 0 ∧ (tk kn 14 0 1).2.1 = 14 ∧ (tk kn 14 0 1).2.2 = 3 := by decide +kernel
theorem kn5 : ofsAns ([] ++ (ofsBack 16512).reverse) = (16512, 3, 0) := by decide +kernel
theorem kn6 : sizeAns [133, 1] = (133, 2, 0) := by decide +kernel
theorem kn7 : (ofsBack 16512).length = 3 := by decide +kernel

theorem grown_below {a b : World} {B R : Nat} (hg : a.grownBy b (some R)) (hB : B ≤ R) (hs : B ≤ a.heap.size) : Below B a b :=
  (Below.refl _ _).grown hg hs (fun k hk => by cases hk; exact hB)

set_option maxHeartbeats 1000000 in
theorem known_any (w : World) : Calls Try.prog 7 #[] w fun e w' => e = .returned (.bool true) ∧ Below w.heap.size w w' := by
  go_enter Try.func7, Try.ntmps7
  go_wp2_with fail
  refine (put16_any none 0 0 258 [] w (Rd.nil w) (by omega)).mono ?_
  rintro e w1 ⟨rfl, hown1, hb1⟩
  have hr1 := Rd.ofOwn hown1 (by simpa using be_byt 258 2)
  clear hown1
  go_wp2_with fail
  refine (put32_any _ _ _ (-1) _ w1 hr1 (by omega)).mono ?_
  rintro e w2 ⟨rfl, hown2, hb2⟩
  have hr2 := Rd.ofOwn hown2 (by
    intro x hx
    rcases List.mem_append.1 hx with h | h
    · exact hr1.byt x h
    · exact be_byt _ _ x h)
  clear hown2
  go_wp2_with fail
  refine (put64_any _ _ _ 7 _ w2 hr2 (by omega)).mono ?_
  rintro e w3 ⟨rfl, hown3, hb3⟩
  rw [kn_is] at hown3
  have hr3 := Rd.ofOwn hown3 kn_byt
  have hb : Below w.heap.size w w3 := hb1.trans ((hb2.mono hb1.size).trans (hb3.mono (Nat.le_trans hb1.size hb2.size)))
  clear hown3 hb1 hb2 hb3 hr1 hr2
  go_wp2_with fail
  refine (new_any _ 14 14 kn w3 hr3 (by omega)).mono ?_
  rintro e w4 ⟨R, ao, c, rfl, hR, hRl, hfr, hb4⟩
  have hRw : w.heap.size ≤ R := Nat.le_trans hb.size hRl
  have hb' : Below w.heap.size w w4 := hb.trans (hb4.mono hb.size)
  clear hb4 hb hr3 hRl hfr
  go_wp2_with fail
  refine (putOffset_any none 0 0 16512 [] w4 (Rd.nil w4) (by omega) (by omega) (by omega)).mono ?_
  rintro e w5 ⟨g, rfl, hown5, hb5⟩
  have hr5 := Rd.ofOwn hown5 (by
    intro x hx
    exact ofsBack_byt 16512 x (by simpa using hx))
  have hR5 := hR.keep hb5
  have hbb : Below w.heap.size w w5 := hb'.trans (hb5.mono hb'.size)
  clear hown5 hb5 hR hb'
  go_wp2_with fail
  refine (offset_any _ _ _ _ w5 hr5 (by rw [kn7]; omega)).mono ?_
  rintro e w6 ⟨rfl, rfl⟩
  rw [kn5]
  clear hr5
  go_wp2_with fail
  have hrS : Rd (w6.alloc (Obj.cells #[Value.int IntKind.u8 133, Value.int IntKind.u8 1] 5)) (some ⟨w6.heap.size, 0, none⟩) 2 2 [133, 1] :=
    Rd.ofOwn (base := w6.heap.size) (by
      have := World.ownsRow_lit (base := w6.heap.size) (e := 5) (size := 1) w6 #[Value.int .u8 133, Value.int .u8 1] 2 (Nat.le_refl _) (by unfold maxLen; omega) rfl
      simpa using this) (by decide)
  have hbA : Below w6.heap.size w6 (w6.alloc (Obj.cells #[Value.int IntKind.u8 133, Value.int IntKind.u8 1] 5)) := (Below.refl _ _).alloc (Nat.le_refl _) _
  have hR7 := hR5.keep hbA
  have hb7 : Below w.heap.size w (w6.alloc (Obj.cells #[Value.int IntKind.u8 133, Value.int IntKind.u8 1] 5)) := hbb.trans (hbA.mono hbb.size)
  clear hR5 hbb hbA
  generalize hw7 : w6.alloc (Obj.cells #[Value.int IntKind.u8 133, Value.int IntKind.u8 1] 5) = w7 at *
  clear hw7
  refine (size_any _ _ _ _ w7 hrS (by omega)).mono ?_
  rintro e w8 ⟨rfl, rfl⟩
  rw [kn6]
  clear hrS
  go_wp2_with fail
  refine (u16_any R ao 14 c kn 0 0 _ hR7).mono ?_
  rintro e w9 ⟨rfl, hR9, hg9⟩
  rw [kn1.1]
  rw [kn1.2.1, kn1.2.2] at hR9
  have hb9 := hb7.trans (grown_below hg9 hRw hb7.size)
  clear hR7 hg9 hb7
  go_wp2_with fail
  refine (u32_any R ao 14 c kn 2 0 _ hR9).mono ?_
  rintro e w10 ⟨rfl, hR10, hg10⟩
  rw [kn2.1]
  rw [kn2.2.1, kn2.2.2] at hR10
  have hb10 := hb9.trans (grown_below hg10 hRw hb9.size)
  clear hR9 hg10 hb9
  go_wp2_with fail
  refine (u64_any R ao 14 c kn 6 0 _ hR10).mono ?_
  rintro e w11 ⟨rfl, hR11, hg11⟩
  rw [kn3.1]
  rw [kn3.2.1, kn3.2.2] at hR11
  have hb11 := hb10.trans (grown_below hg11 hRw hb10.size)
  clear hR10 hg11 hb10
  go_wp2_with fail
  refine (err_any R ao 14 c kn 14 0 _ hR11).mono ?_
  rintro e w12 ⟨rfl, rfl⟩
  go_wp2_with fail
  refine (u8_any R ao 14 c kn 14 0 _ hR11).mono ?_
  rintro e w13 ⟨rfl, hR13, hg13⟩
  rw [kn4.1]
  rw [kn4.2.1, kn4.2.2] at hR13
  have hb13 := hb11.trans (grown_below hg13 hRw hb11.size)
  clear hR11 hg13 hb11
  go_wp2_with fail
  refine (err_any R ao 14 c kn 14 3 _ hR13).mono ?_
  rintro e w14 ⟨rfl, rfl⟩
  clear hR13
  go_wp2
  go_ret
  exact ⟨rfl, hb13⟩

end Go.Proofs.Ytmkjpfjlohkdoaa
