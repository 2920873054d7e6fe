/- ObI, ObJ, ShaSha, ShaWRoom. -/
import Derived.Test.YtojgablpjdlegaaGreatDoorM13
import Derived.Test.YtojgablpjdlegaaGreatDoorM01
import Derived.Test.YtojgablpjdlegaaGreatDoorProg
/- An object parsed: a commit without parents, a blob. -/
namespace Go.Proofs.YtojgablpjdlegaaGreatDoor
open Go.RowKit

/-- Is it a kind? -/
def isK (k : Int) : Bool := decide (1 ≤ k ∧ k ≤ 4)

theorem wrd_size (k : Int) : (wrd k).data.toList.isEmpty = !isK k := by
  unfold wrd isK
  by_cases h1 : k = 1
  · subst h1; rfl
  by_cases h2 : k = 2
  · subst h2; rfl
  by_cases h3 : k = 3
  · subst h3; rfl
  by_cases h4 : k = 4
  · subst h4; rfl
  · rw [if_neg h1, if_neg h2, if_neg h3, if_neg h4]
    have : decide (1 ≤ k ∧ k ≤ 4) = false := by simp; omega
    rw [this]
    rfl

/-- A kind's word, its bytes. -/
def wl (k : Int) : List UInt8 := (wrd k).data.toList

theorem wl_sv (k : Int) : sv (wl k) = .string (wrd k) := rfl

theorem wl_emp (k : Int) : (wl k).isEmpty = !isK k := wrd_size k

theorem word_sv (k : Int) (w : World) (h : Gs w) : Calls Tryz.prog 15 #[.int .i64 k] w fun e w' => e = .returned (sv (wl k)) ∧ w' = w := word_any k w h

set_option maxRecDepth 100000 in
theorem isKind_any (k : Int) (w : World) (h : Gs w) : Calls Tryz.prog 48 #[.int .i64 k] w fun e w' => e = .returned (.bool (isK k)) ∧ w' = w := by
  have hw := word_sv k w h
  have he := wl_emp k
  generalize wl k = l at *
  generalize isK k = b at *
  clear h
  cases b with
  | true =>
    go_enter Tryz.func48, Tryz.ntmps48
    go_wp2_with (go_at_call 15; refine hw.mono ?_; rintro e w1 ⟨rfl, hw1⟩; subst w1)
    go_ret
    exact ⟨rfl, rfl⟩
  | false =>
    go_enter Tryz.func48, Tryz.ntmps48
    go_wp2_with (go_at_call 15; refine hw.mono ?_; rintro e w1 ⟨rfl, hw1⟩; subst w1)
    go_ret
    exact ⟨rfl, rfl⟩

/-- The parsers, in their table. -/
abbrev pcs : Array Value := #[.nilFunc, .func (.func 117) #[] #[], .func (.func 118) #[] #[], .func (.func 119) #[] #[], .func (.func 120) #[] #[]]

set_option maxRecDepth 100000 in
theorem parsers_any (w : World) : Calls Tryz.prog 92 #[] w fun e w' => e = .returned (.slice (some ⟨w.heap.size, 0, none⟩) 5 5) ∧ w' = w.alloc (.cells pcs 152) := by
  go_enter Tryz.func92, Tryz.ntmps92
  go_wp2
  go_ret
  exact ⟨rfl, rfl⟩

/-- Bytes as a text. -/
def tb (xs : List Int) : List UInt8 := xs.map (fun x => UInt8.ofNat x.toNat)

theorem tb_sv (xs : List Int) : strOfNums xs = ⟨(tb xs).toArray⟩ := by
  unfold tb
  rfl

theorem tb_len (xs : List Int) : (tb xs).length = xs.length := by simp [tb]

/-- Nothing parsed. -/
abbrev ps0 : Nat → Value := psf nlv (cf z20 nlv [] [] []) (tf z20 0 [] [] []) nlv

theorem ps0_one (j : Nat) : (ps0 j).oneCell' = true := psf_one _ _ _ _ rfl (cf_one _ _ _ _ _ rfl) (tf_one _ _ _ _ _) rfl j

theorem Fr.mono' {P P' : Nat → Prop} {a b : World} (h : Fr P a b) (hP : ∀ i, i < a.heap.size → P i → P' i) : Fr P' a b := ⟨h.os, h.tape, h.output, h.size, fun i hi hn => h.block i hi (fun e => hn (hP i hi e))⟩

set_option maxRecDepth 100000 in
theorem blob_any (p : Value) (w : World) : Calls Tryz.prog 119 #[p] w fun e w' => e = .returned (row ps0 50) ∧ Below w.heap.size w w' := by
  have hz := zero107
  have h0 := rowIs_vals w ps0 50 107
  have b0 := new_below w (Obj.cells (vals ps0 50).toArray 107)
  have HB : Hid (Below w.heap.size w (w.alloc (Obj.cells (vals ps0 50).toArray 107))) := b0
  clear b0
  go_enter Tryz.func119, Tryz.ntmps119
  go_wp2_with ((refine wpList_st rfl 107 _ _ rfl w.heap.size rfl ps0 rfl h0 (by kernel_rfl) ps0_one ?_; intro w1 r1 f1))
  refine bodyPost_ret (results_row (fn := Tryz.f119) (p := 2) (ty := 107) (by kernel_rfl) _ (by rfl) r1 Tryz.underlying107 rfl (by kernel_rfl)) rfl ⟨rfl, st_below HB.out f1⟩

set_option maxRecDepth 100000 in
set_option maxHeartbeats 2000000 in
theorem parse_1 (ao : Option Addr) (n c : Nat) (xs : List Int) (w : World) (hg : Gs w) (hr : Rd w ao n c xs) (hn : n ≤ 16384) (f : Value → Nat → Value) (lx : List UInt8) (Qs : Value → World → Prop)
    (hcall : ∀ (R : Nat) (W : World), Gs W → 9 < R → W.rowIs R 150 2 (rf (tb xs) 0) → Below w.heap.size w W → w.heap.size < W.heap.size → Calls Tryz.prog 117 #[.pointer (some ⟨R, 0, none⟩)] W fun ex w' => ∃ v, ex = .returned (row (f v) 50) ∧ (∀ j, (f v j).oneCell' = true) ∧ w'.rowIs R 150 2 (rf lx 0) ∧ Fr (fun i => i = R) W w' ∧ Qs v w')
    (hQ : ∀ v w1 w2, Qs v w1 → Fr (fun i => i = w.heap.size) w1 w2 → Qs v w2) :
    Calls Tryz.prog 56 #[.int .i64 1, .slice ao n c] w fun ex w' => ∃ v, ex = .returned (.tuple #[row (f v) 50, .int .i64 0]) ∧ Qs v w' ∧ Below w.heap.size w w' := by
  have hik := isKind_any 1 (w.alloc (Obj.cells (vals ps0 50).toArray 107)) (hg.keep (new_below _ _))
  rw [show isK 1 = true by decide] at hik
  have hz := zero107
  have hb0 := new_below w (Obj.cells (vals ps0 50).toArray 107)
  have hst := (hr.keep hb0).str
  rw [tb_sv] at hst
  have d1 : decide ((16384 : Int) < n) = false := by simp; omega
  have d2 : decide (16384 < n) = false := by simp; omega
  have hw1 : 9 < w.heap.size := by have := hg.big; omega
  obtain ⟨W, hW⟩ : ∃ W, W = (w.alloc (Obj.cells (vals ps0 50).toArray 107)).alloc (Obj.cells #[sv (tb xs), .int .i64 0] 150) := ⟨_, rfl⟩
  have bW : Below w.heap.size w W := by rw [hW]; exact hb0.alloc hb0.size _
  have hWs : W.heap.size = w.heap.size + 1 + 1 := by rw [hW]; simp
  have HP : Hid (W.rowIs w.heap.size 107 50 ps0) := by rw [hW]; exact rowIs_fr (P := fun _ => False) (rowIs_vals w _ 50 107) (Fr.ofBelow (new_below _ _)) (fun h => h)
  have HR : Hid (W.rowIs (w.heap.size + 1) 150 2 (rf (tb xs) 0)) := by
    rw [hW]
    have := World.rowIs_alloc (w.alloc (Obj.cells (vals ps0 50).toArray 107)) #[sv (tb xs), .int .i64 0] 150 (rf (tb xs) 0) (fun i hi => by
      have hi2 : i < 2 := hi
      rcases (show i = 0 ∨ i = 1 by omega) with rfl | rfl <;> rfl)
    show World.rowIs _ _ _ _ _
    simpa using this
  have HB : Hid (Below w.heap.size w W) := bW
  have HG : Hid (Gs W) := hg.keep bW
  have HWS : Hid (W.heap.size = w.heap.size + 1 + 1) := hWs
  have HC : Hid (∀ (R : Nat) (W : World), Gs W → 9 < R → W.rowIs R 150 2 (rf (tb xs) 0) → Below w.heap.size w W → w.heap.size < W.heap.size → Calls Tryz.prog 117 #[.pointer (some ⟨R, 0, none⟩)] W fun ex w' => ∃ v, ex = .returned (row (f v) 50) ∧ (∀ j, (f v j).oneCell' = true) ∧ w'.rowIs R 150 2 (rf lx 0) ∧ Fr (fun i => i = R) W w' ∧ Qs v w') := hcall
  have HQ : Hid (∀ v w1 w2, Qs v w1 → Fr (fun i => i = w.heap.size) w1 w2 → Qs v w2) := hQ
  have HW1 : Hid (9 < w.heap.size) := hw1
  clear hr hg hb0 bW hWs hcall hQ hn hw1
  go_enter Tryz.func56, Tryz.ntmps56
  go_wp2_with fail
  refine hik.mono ?_
  rintro ex w0 ⟨rfl, hw0⟩
  subst w0
  clear hik
  go_wp2_with fail
  rw [← hW]
  clear hW hst
  have hpa := parsers_any W
  refine hpa.mono ?_
  rintro ex w1 ⟨rfl, hw1⟩
  have b1 : Below W.heap.size W w1 := by rw [hw1]; exact new_below _ _
  have q1 : w1.cell? ⟨W.heap.size, 1, none⟩ = some (.func (.func 117) #[] #[]) := by rw [hw1]; simp [go_sem]
  have B1 : Below w.heap.size w w1 := HB.out.trans (b1.mono HB.out.size)
  have hc := HC.out (w.heap.size + 1) w1 (HG.out.keep b1) (by have := HW1.out; omega) (rowIs_fr (P := fun _ => False) HR.out (Fr.ofBelow b1) (fun h => h)) B1 (by have := b1.size; have := HWS.out; omega)
  have HP1 : Hid (w1.rowIs w.heap.size 107 50 ps0) := rowIs_fr (P := fun _ => False) HP.out (Fr.ofBelow b1) (fun h => h)
  have HB1 : Hid (Below w.heap.size w w1) := B1
  clear hpa hw1 b1 B1 HB HR HP HG HC HW1
  go_wp2_with fail
  refine hc.mono ?_
  rintro ex w2 ⟨v, rfl, hone, r2, f2, qs⟩
  have HP2 : Hid (w2.rowIs w.heap.size 107 50 ps0) := rowIs_fr HP1.out f2 (by omega)
  have HF2 : Hid (Fr (fun i => i = w.heap.size + 1) w1 w2) := f2
  have HB2 : Hid (Below w.heap.size w w2) := HB1.out.trans (f2.below _ HB1.out.size (fun i hi e => by omega))
  have z2 := rowIs_vals w2 ps0 50 107
  have HQ2 : Hid (Qs v w2) := qs
  have HR2 : Hid (w2.rowIs (w.heap.size + 1) 150 2 (rf lx 0)) := r2
  have hs2 : w.heap.size + 1 < w2.heap.size := r2.lt
  clear hc q1 r2 f2 qs HP1 HF2
  go_wp2_with (first
    | (refine wpList_st rfl 107 _ _ rfl w.heap.size rfl (f v) rfl p3 (by kernel_rfl) hone ?_; intro w4 r4 f4)
    | (refine wpList_ld0 rfl 107 _ rfl w2.heap.size rfl _ r3 50 (Nat.le_refl _) Tryz.underlying107 rfl (by kernel_rfl) ?_)
    | (refine wpList_st rfl 107 _ _ rfl w2.heap.size rfl (f v) rfl z2 (by kernel_rfl) hone ?_; intro w3 r3 f3; have A3 : Fr (fun i => i = w2.heap.size) w2 w3 := (Fr.ofBelow (new_below w2 _)).trans f3 (fun _ _ h => h); have HR3 : Hid (w3.rowIs (w.heap.size + 1) 150 2 (rf lx 0)) := rowIs_fr HR2.out A3 (by omega); have p3 : w3.rowIs w.heap.size 107 50 ps0 := rowIs_fr HP2.out A3 (by omega); have c3 : w3.cell? ⟨w.heap.size + 1, 1, none⟩ = some (.int .i64 0) := HR3.out.cell (i := 1) (by omega); have HB3 : Hid (Below w.heap.size w w3) := HB2.out.trans (A3.below _ HB2.out.size (fun i hi e => by omega)); have HQ3 : Hid (Qs v w3) := HQ.out v w2 w3 HQ2.out (A3.mono' (fun i hi e => by omega)); clear A3 f3))
  refine bodyPost_ret (results_two (fn := Tryz.f56) (p := 4) (q := 5) (ty := 107) (by kernel_rfl) _ (by rfl) r4 Tryz.underlying107 rfl (by kernel_rfl)) rfl ⟨v, rfl, HQ.out v w3 w4 HQ3.out f4, HB3.out.trans (f4.below _ HB3.out.size (fun i hi e => by omega))⟩

set_option maxRecDepth 100000 in
set_option maxHeartbeats 2000000 in
theorem parse_3 (ao : Option Addr) (n c : Nat) (xs : List Int) (w : World) (hg : Gs w) (hr : Rd w ao n c xs) (hn : n ≤ 16384) (f : Value → Nat → Value) (lx : List UInt8) (Qs : Value → World → Prop)
    (hcall : ∀ (R : Nat) (W : World), Gs W → 9 < R → W.rowIs R 150 2 (rf (tb xs) 0) → Below w.heap.size w W → w.heap.size < W.heap.size → Calls Tryz.prog 119 #[.pointer (some ⟨R, 0, none⟩)] W fun ex w' => ∃ v, ex = .returned (row (f v) 50) ∧ (∀ j, (f v j).oneCell' = true) ∧ w'.rowIs R 150 2 (rf lx 0) ∧ Fr (fun i => i = R) W w' ∧ Qs v w')
    (hQ : ∀ v w1 w2, Qs v w1 → Fr (fun i => i = w.heap.size) w1 w2 → Qs v w2) :
    Calls Tryz.prog 56 #[.int .i64 3, .slice ao n c] w fun ex w' => ∃ v, ex = .returned (.tuple #[row (f v) 50, .int .i64 0]) ∧ Qs v w' ∧ Below w.heap.size w w' := by
  have hik := isKind_any 3 (w.alloc (Obj.cells (vals ps0 50).toArray 107)) (hg.keep (new_below _ _))
  rw [show isK 3 = true by decide] at hik
  have hz := zero107
  have hb0 := new_below w (Obj.cells (vals ps0 50).toArray 107)
  have hst := (hr.keep hb0).str
  rw [tb_sv] at hst
  have d1 : decide ((16384 : Int) < n) = false := by simp; omega
  have d2 : decide (16384 < n) = false := by simp; omega
  have hw1 : 9 < w.heap.size := by have := hg.big; omega
  obtain ⟨W, hW⟩ : ∃ W, W = (w.alloc (Obj.cells (vals ps0 50).toArray 107)).alloc (Obj.cells #[sv (tb xs), .int .i64 0] 150) := ⟨_, rfl⟩
  have bW : Below w.heap.size w W := by rw [hW]; exact hb0.alloc hb0.size _
  have hWs : W.heap.size = w.heap.size + 1 + 1 := by rw [hW]; simp
  have HP : Hid (W.rowIs w.heap.size 107 50 ps0) := by rw [hW]; exact rowIs_fr (P := fun _ => False) (rowIs_vals w _ 50 107) (Fr.ofBelow (new_below _ _)) (fun h => h)
  have HR : Hid (W.rowIs (w.heap.size + 1) 150 2 (rf (tb xs) 0)) := by
    rw [hW]
    have := World.rowIs_alloc (w.alloc (Obj.cells (vals ps0 50).toArray 107)) #[sv (tb xs), .int .i64 0] 150 (rf (tb xs) 0) (fun i hi => by
      have hi2 : i < 2 := hi
      rcases (show i = 0 ∨ i = 1 by omega) with rfl | rfl <;> rfl)
    show World.rowIs _ _ _ _ _
    simpa using this
  have HB : Hid (Below w.heap.size w W) := bW
  have HG : Hid (Gs W) := hg.keep bW
  have HWS : Hid (W.heap.size = w.heap.size + 1 + 1) := hWs
  have HC : Hid (∀ (R : Nat) (W : World), Gs W → 9 < R → W.rowIs R 150 2 (rf (tb xs) 0) → Below w.heap.size w W → w.heap.size < W.heap.size → Calls Tryz.prog 119 #[.pointer (some ⟨R, 0, none⟩)] W fun ex w' => ∃ v, ex = .returned (row (f v) 50) ∧ (∀ j, (f v j).oneCell' = true) ∧ w'.rowIs R 150 2 (rf lx 0) ∧ Fr (fun i => i = R) W w' ∧ Qs v w') := hcall
  have HQ : Hid (∀ v w1 w2, Qs v w1 → Fr (fun i => i = w.heap.size) w1 w2 → Qs v w2) := hQ
  have HW1 : Hid (9 < w.heap.size) := hw1
  clear hr hg hb0 bW hWs hcall hQ hn hw1
  go_enter Tryz.func56, Tryz.ntmps56
  go_wp2_with fail
  refine hik.mono ?_
  rintro ex w0 ⟨rfl, hw0⟩
  subst w0
  clear hik
  go_wp2_with fail
  rw [← hW]
  clear hW hst
  have hpa := parsers_any W
  refine hpa.mono ?_
  rintro ex w1 ⟨rfl, hw1⟩
  have b1 : Below W.heap.size W w1 := by rw [hw1]; exact new_below _ _
  have q1 : w1.cell? ⟨W.heap.size, 3, none⟩ = some (.func (.func 119) #[] #[]) := by rw [hw1]; simp [go_sem]
  have B1 : Below w.heap.size w w1 := HB.out.trans (b1.mono HB.out.size)
  have hc := HC.out (w.heap.size + 1) w1 (HG.out.keep b1) (by have := HW1.out; omega) (rowIs_fr (P := fun _ => False) HR.out (Fr.ofBelow b1) (fun h => h)) B1 (by have := b1.size; have := HWS.out; omega)
  have HP1 : Hid (w1.rowIs w.heap.size 107 50 ps0) := rowIs_fr (P := fun _ => False) HP.out (Fr.ofBelow b1) (fun h => h)
  have HB1 : Hid (Below w.heap.size w w1) := B1
  clear hpa hw1 b1 B1 HB HR HP HG HC HW1
  go_wp2_with fail
  refine hc.mono ?_
  rintro ex w2 ⟨v, rfl, hone, r2, f2, qs⟩
  have HP2 : Hid (w2.rowIs w.heap.size 107 50 ps0) := rowIs_fr HP1.out f2 (by omega)
  have HF2 : Hid (Fr (fun i => i = w.heap.size + 1) w1 w2) := f2
  have HB2 : Hid (Below w.heap.size w w2) := HB1.out.trans (f2.below _ HB1.out.size (fun i hi e => by omega))
  have z2 := rowIs_vals w2 ps0 50 107
  have HQ2 : Hid (Qs v w2) := qs
  have HR2 : Hid (w2.rowIs (w.heap.size + 1) 150 2 (rf lx 0)) := r2
  have hs2 : w.heap.size + 1 < w2.heap.size := r2.lt
  clear hc q1 r2 f2 qs HP1 HF2
  go_wp2_with (first
    | (refine wpList_st rfl 107 _ _ rfl w.heap.size rfl (f v) rfl p3 (by kernel_rfl) hone ?_; intro w4 r4 f4)
    | (refine wpList_ld0 rfl 107 _ rfl w2.heap.size rfl _ r3 50 (Nat.le_refl _) Tryz.underlying107 rfl (by kernel_rfl) ?_)
    | (refine wpList_st rfl 107 _ _ rfl w2.heap.size rfl (f v) rfl z2 (by kernel_rfl) hone ?_; intro w3 r3 f3; have A3 : Fr (fun i => i = w2.heap.size) w2 w3 := (Fr.ofBelow (new_below w2 _)).trans f3 (fun _ _ h => h); have HR3 : Hid (w3.rowIs (w.heap.size + 1) 150 2 (rf lx 0)) := rowIs_fr HR2.out A3 (by omega); have p3 : w3.rowIs w.heap.size 107 50 ps0 := rowIs_fr HP2.out A3 (by omega); have c3 : w3.cell? ⟨w.heap.size + 1, 1, none⟩ = some (.int .i64 0) := HR3.out.cell (i := 1) (by omega); have HB3 : Hid (Below w.heap.size w w3) := HB2.out.trans (A3.below _ HB2.out.size (fun i hi e => by omega)); have HQ3 : Hid (Qs v w3) := HQ.out v w2 w3 HQ2.out (A3.mono' (fun i hi e => by omega)); clear A3 f3))
  refine bodyPost_ret (results_two (fn := Tryz.f56) (p := 4) (q := 5) (ty := 107) (by kernel_rfl) _ (by rfl) r4 Tryz.underlying107 rfl (by kernel_rfl)) rfl ⟨v, rfl, HQ.out v w3 w4 HQ3.out f4, HB3.out.trans (f4.below _ HB3.out.size (fun i hi e => by omega))⟩

end Go.Proofs.YtojgablpjdlegaaGreatDoor

/- DecodeCommit, Edges of a commit without parents; Edges, Parents of a blob. -/
namespace Go.Proofs.YtojgablpjdlegaaGreatDoor
open Go.RowKit

/-- What a commit's bytes tell, its texts being such. -/
structure Cm (l : List UInt8) (T : List Int) (A C M : List UInt8) : Prop where
  cm : Cm0 l 0 T A C M 0
  id : IsId T
  ta : ∀ W, Calls Tryz.prog 101 #[sv A, .int .i64 200] W fun e w' => e = .returned (.bool true) ∧ Below W.heap.size W w'
  tc : ∀ W, Calls Tryz.prog 101 #[sv C, .int .i64 200] W fun e w' => e = .returned (.bool true) ∧ Below W.heap.size W w'

/-- What is parsed of it. -/
abbrev pcm (T : List Int) (A C M : List UInt8) (v : Value) : Nat → Value := psf nlv (cf T nlv A C M) (tf z20 0 [] [] []) v

theorem parse_cm (ao : Option Addr) (n c : Nat) (xs : List Int) (T : List Int) (A C M : List UInt8) (w : World) (hg : Gs w) (hr : Rd w ao n c xs) (hn : n ≤ 16384) (hm : Cm (tb xs) T A C M) :
    Calls Tryz.prog 56 #[.int .i64 1, .slice ao n c] w fun ex w' => ∃ b, ex = .returned (.tuple #[row (pcm T A C M (.slice (some ⟨b, 0, none⟩) 1 1)) 50, .int .i64 0]) ∧ w'.rowIs b 27 20 (cl T) ∧ w.heap.size < b ∧ Below w.heap.size w w' := by
  refine (parse_1 ao n c xs w hg hr hn (pcm T A C M) [] (fun v w' => ∃ b, v = .slice (some ⟨b, 0, none⟩) 1 1 ∧ w'.rowIs b 27 20 (cl T) ∧ w.heap.size < b) ?_ ?_).mono ?_
  · intro R W hgW hR hrW hbW hs
    refine (commit0 R (tb xs) 0 T A C M 0 W hgW hR hrW (by rw [tb_len, hr.len]; omega) hm.cm hm.ta hm.tc).mono ?_
    rintro ex w' ⟨b, rfl, hb, hb2, hR2, hf⟩
    exact ⟨_, rfl, psf_one _ _ _ _ rfl (cf_one _ _ _ _ _ rfl) (tf_one _ _ _ _ _) rfl, hR2, hf, b, rfl, hb, by omega⟩
  · rintro v w1 w2 ⟨b, rfl, hb, hlt⟩ hf
    exact ⟨b, rfl, rowIs_fr hb hf (by omega), hlt⟩
  · rintro ex w' ⟨v, rfl, ⟨b, rfl, hb, hlt⟩, hbe⟩
    exact ⟨b, rfl, hb, hlt, hbe⟩

theorem pcm_cf (T : List Int) (A C M : List UInt8) (v : Value) : row (fun j => pcm T A C M v (1 + j)) 24 = cmv T nlv A C M := row_congr _ _ _ (fun j hj => by
  show psf nlv (cf T nlv A C M) (tf z20 0 [] [] []) v (1 + j) = cf T nlv A C M j
  unfold psf
  rw [if_neg (by omega), if_pos (by omega), Nat.add_sub_cancel_left])

theorem pcm_one (T : List Int) (A C M : List UInt8) (v : Value) (hv : v.oneCell' = true) (j : Nat) : (pcm T A C M v j).oneCell' = true := psf_one _ _ _ _ rfl (cf_one _ _ _ _ _ rfl) (tf_one _ _ _ _ _) hv j

set_option maxRecDepth 100000 in
set_option maxHeartbeats 2000000 in
theorem decodeCommit0 (ao : Option Addr) (n c : Nat) (xs : List Int) (T : List Int) (A C M : List UInt8) (w : World) (hg : Gs w) (hr : Rd w ao n c xs) (hn : n ≤ 16384) (hm : Cm (tb xs) T A C M) :
    Calls Tryz.prog 23 #[.slice ao n c] w fun ex w' => ex = .returned (.tuple #[cmv T nlv A C M, .int .i64 0]) ∧ Below w.heap.size w w' := by
  have hz := zero107
  have hz2 := zero47
  have b0 := new_below w (Obj.cells (vals (cf z20 nlv [] [] []) 24).toArray 47)
  have hpa := parse_cm ao n c xs T A C M (w.alloc (Obj.cells (vals (cf z20 nlv [] [] []) 24).toArray 47)) (hg.keep b0) (hr.keep b0) hn hm
  have HC : Hid ((w.alloc (Obj.cells (vals (cf z20 nlv [] [] []) 24).toArray 47)).rowIs w.heap.size 47 24 (cf z20 nlv [] [] [])) := rowIs_vals _ _ _ _
  have HB : Hid (Below w.heap.size w (w.alloc (Obj.cells (vals (cf z20 nlv [] [] []) 24).toArray 47))) := b0
  clear hg hr hn hm b0
  go_enter Tryz.func23, Tryz.ntmps23
  go_wp2_with fail
  refine hpa.mono ?_
  rintro ex w1 ⟨b, rfl, _, _, b1⟩
  have c1 : w1.rowIs w.heap.size 47 24 (cf z20 nlv [] [] []) := rowIs_fr (P := fun _ => False) HC.out (Fr.ofBelow b1) (fun h => h)
  have HB1 : Hid (Below w.heap.size w w1) := HB.out.trans (b1.mono HB.out.size)
  have z1 := rowIs_vals w1 ps0 50 107
  have hone := pcm_one T A C M (.slice (some ⟨b, 0, none⟩) 1 1) rfl
  have HE : Hid (row (fun j => pcm T A C M (.slice (some ⟨b, 0, none⟩) 1 1) (1 + j)) 24 = cmv T nlv A C M) := pcm_cf _ _ _ _ _
  have hs1 : w.heap.size < w1.heap.size := c1.lt
  generalize pcm T A C M (.slice (some ⟨b, 0, none⟩) 1 1) = f at *
  clear hpa b1 HB HC
  go_wp2_with (first
    | (refine wpList_st rfl 47 _ _ rfl w.heap.size rfl (fun j => f (1 + j)) rfl c2 (by kernel_rfl) (fun j => hone (1 + j)) ?_; intro w3 r3 f3)
    | (refine wpList_ld rfl 47 _ rfl w1.heap.size 1 rfl _ r2 24 (by omega) Tryz.underlying47 rfl (by kernel_rfl) ?_)
    | (refine wpList_st rfl 107 _ _ rfl w1.heap.size rfl f rfl z1 (by kernel_rfl) hone ?_; intro w2 r2 f2; have A2 : Fr (fun i => i = w1.heap.size) w1 w2 := (Fr.ofBelow (new_below w1 _)).trans f2 (fun _ _ h => h); have c2 : w2.rowIs w.heap.size 47 24 (cf z20 nlv [] [] []) := rowIs_fr c1 A2 (by omega); have HB2 : Hid (Below w.heap.size w w2) := HB1.out.trans (A2.below _ HB1.out.size (fun i hi e => by omega)); clear A2 f2))
  refine bodyPost_ret (results_two (fn := Tryz.f23) (p := 2) (q := 3) (ty := 47) (by kernel_rfl) _ (by rfl) r3 Tryz.underlying47 rfl (by kernel_rfl)) rfl ⟨?_, HB2.out.trans (f3.below _ HB2.out.size (fun i hi e => by omega))⟩
  rw [HE.out]
  rfl

/-- A row of one name. -/
theorem is_one {w : World} {b : Nat} {T : List Int} (h : w.rowIs b 27 20 (cl T)) (hT : IsId T) : Is w (.slice (some ⟨b, 0, none⟩) 1 1) #[T] := by
  have hr : Rw w b 20 #[T] := ⟨⟨cl T, h, fun i hi j hj => by
    have : i < 1 := hi
    obtain rfl : i = 0 := by omega
    rw [Nat.zero_mul, Nat.zero_add]; rfl⟩, Nat.le_refl _, fun i hi => by
    have : i < 1 := hi
    obtain rfl : i = 0 := by omega
    exact hT⟩
  exact hr.is 1 (Nat.le_refl _)

theorem srt_one {T : List Int} {r : Array (List Int)} (h : Srt #[T] r) (hs : r.size ≤ 1) : r = #[T] := by
  have hT : T ∈ r.toList := (h.2 T).2 (by simp)
  have h1 : r.toList.length = 1 := by
    have : 0 < r.toList.length := List.length_pos_of_mem hT
    have h2 : r.toList.length = r.size := by simp
    omega
  obtain ⟨y, hy⟩ := List.length_eq_one_iff.1 h1
  rw [hy] at hT
  have : T = y := by simpa using hT
  subst this
  have e : r = r.toList.toArray := by simp
  rw [e, hy]

set_option maxRecDepth 100000 in
set_option maxHeartbeats 2000000 in
theorem edgesCommit0 (ao : Option Addr) (n c : Nat) (xs : List Int) (T : List Int) (A C M : List UInt8) (w : World) (hg : Gs w) (hr : Rd w ao n c xs) (hn : n ≤ 16384) (hm : Cm (tb xs) T A C M) :
    Calls Tryz.prog 30 #[.int .i64 1, .slice ao n c] w fun ex w' => ∃ v, ex = .returned (.tuple #[v, .int .i64 0]) ∧ Nw w.heap.size w' v #[T] ∧ Below w.heap.size w w' := by
  have hz := zero107
  have hpa := parse_cm ao n c xs T A C M w hg hr hn hm
  have HT : Hid (IsId T) := hm.id
  clear hg hr hn hm
  go_enter Tryz.func30, Tryz.ntmps30
  go_wp2_with fail
  refine hpa.mono ?_
  rintro ex w1 ⟨b, rfl, e1, hlt, b1⟩
  have z1 := rowIs_vals w1 ps0 50 107
  have hone := pcm_one T A C M (.slice (some ⟨b, 0, none⟩) 1 1) rfl
  have HE1 : Hid (w1.rowIs b 27 20 (cl T)) := e1
  have HB1 : Hid (Below w.heap.size w w1) := b1
  have hbl : b < w1.heap.size := e1.lt
  clear hpa e1 b1
  go_wp2_with ((refine wpList_st rfl 107 _ _ rfl w1.heap.size rfl (pcm T A C M (.slice (some ⟨b, 0, none⟩) 1 1)) rfl z1 (by kernel_rfl) hone ?_; intro w2 r2 f2; have A2 : Fr (fun i => i = w1.heap.size) w1 w2 := (Fr.ofBelow (new_below w1 _)).trans f2 (fun _ _ h => h); have c2 : w2.cell? ⟨w1.heap.size, 49, none⟩ = some (.slice (some ⟨b, 0, none⟩) 1 1) := r2.cell (i := 49) (by omega); have HB2 : Hid (Below w.heap.size w w2) := HB1.out.trans (A2.below _ HB1.out.size (fun i hi e => by have := HB1.out.size; omega)); have HE2 : Hid (w2.rowIs b 27 20 (cl T)) := rowIs_fr HE1.out A2 (by omega); clear A2 f2 r2))
  have hso := Sort_any 1 (pdq_is_small 1 (by omega)) (some ⟨b, 0, none⟩) 1 #[T] w2 (is_one HE2.out HT.out) rfl (by omega)
  clear c2 z1 hone
  refine hso.mono ?_
  rintro ex w3 ⟨v, r, rfl, hS, hs1, hNw, b3⟩
  obtain rfl := srt_one hS hs1
  have HN : Hid (Nw w2.heap.size w3 v #[T]) := hNw
  have HB3 : Hid (Below w.heap.size w w3) := HB2.out.trans (b3.mono HB2.out.size)
  have HS2 : Hid (w.heap.size ≤ w2.heap.size) := HB2.out.size
  clear hso hS hs1 hNw b3
  go_wp2
  go_ret2
  refine ⟨v, rfl, ?_, HB3.out⟩
  rcases HN.out with ⟨h0, h1⟩ | ⟨h0, b', c', h1, h2, h3, h4⟩
  · exact .inl ⟨h0, h1⟩
  · exact .inr ⟨h0, b', c', h1, h2, Nat.le_trans HS2.out h3, h4⟩

end Go.Proofs.YtojgablpjdlegaaGreatDoor

/- The sum of bytes, as plain mathematics. -/
namespace Go.Proofs.YtojgablpjdlegaaGreatDoor.Sha
open Go.RowKit

/-- v turned left by n bits. -/
def rotl (v : Int) (n : Nat) : Int := bits .or .u32 (v * 2 ^ n % 4294967296) (v / 2 ^ (32 - n))

def x3 (a b c : Int) : Int := bits .xor .u32 (bits .xor .u32 a b) c

def x4 (a b c d : Int) : Int := bits .xor .u32 (x3 a b c) d

/-- What step t makes of three words. -/
def fF (t : Nat) (b c d : Int) : Int :=
  if t < 20 then bits .or .u32 (bits .and .u32 b c) (bits .and .u32 (bits .xor .u32 IntKind.u32.max b) d)
  else if t < 40 then x3 b c d
  else if t < 60 then bits .or .u32 (bits .or .u32 (bits .and .u32 b c) (bits .and .u32 b d)) (bits .and .u32 c d)
  else x3 b c d

/-- The number of step t. -/
def kK (t : Nat) : Int := if t < 20 then 1518500249 else if t < 40 then 1859775393 else if t < 60 then 2400959708 else 3395469782

structure St where
  a : Int
  b : Int
  c : Int
  d : Int
  e : Int

def St.nth (s : St) : Nat → Int
  | 0 => s.a
  | 1 => s.b
  | 2 => s.c
  | 3 => s.d
  | _ => s.e

def ad (x y : Int) : Int := (x + y) % 4294967296

def tmp (x : Int) (t : Nat) (s : St) : Int := ad (ad (ad (ad (rotl s.a 5) (fF t s.b s.c s.d)) s.e) (kK t)) x

def step (x : Int) (t : Nat) (s : St) : St := ⟨tmp x t s, s.a, rotl s.b 30, s.c, s.d⟩

/-- The steps from t on, by the words of a list. -/
def fwd : List Int → Nat → St → St
  | [], _, s => s
  | x :: l, t, s => fwd l (t + 1) (step x t s)

theorem fwd_snoc (l : List Int) (x : Int) (t : Nat) (s : St) : fwd (l ++ [x]) t s = step x (t + l.length) (fwd l t s) := by
  induction l generalizing t s with
  | nil => rfl
  | cons y l ih => simp only [List.cons_append, fwd, ih, List.length_cons]; congr 1; omega

/-- The words of a block, from the last to the first, and n more ahead of them. -/
def ex (l : List Int) : Nat → List Int
  | 0 => l
  | n + 1 => rotl (x4 ((ex l n).getD 2 0) ((ex l n).getD 7 0) ((ex l n).getD 13 0) ((ex l n).getD 15 0)) 1 :: ex l n

def wd (bs : List Int) (j : Nat) : Int := bs.getD (4 * j) 0 * 16777216 + bs.getD (4 * j + 1) 0 * 65536 + bs.getD (4 * j + 2) 0 * 256 + bs.getD (4 * j + 3) 0

def w16 (bs : List Int) : List Int := ((List.range 16).map (wd bs)).reverse

/-- The eighty words. -/
def sched (bs : List Int) : List Int := (ex (w16 bs) 64).reverse

/-- The word of step t. -/
def sw (bs : List Int) (t : Nat) : Int := (sched bs).getD t 0

theorem ex_len (l : List Int) (n : Nat) : (ex l n).length = l.length + n := by
  induction n with
  | zero => rfl
  | succ n ih => simp only [ex, List.length_cons, ih]; omega

theorem ex_drop (l : List Int) (n j : Nat) : ex l n = (ex l (n + j)).drop j := by
  induction j with
  | zero => rfl
  | succ j ih => rw [← Nat.add_assoc]; simp only [ex, List.drop_succ_cons]; exact ih

theorem w16_len (bs : List Int) : (w16 bs).length = 16 := by simp [w16]

theorem sched_len (bs : List Int) : (sched bs).length = 80 := by simp [sched, ex_len, w16_len]

theorem getD_rev (l : List Int) (i : Nat) (h : i < l.length) : l.reverse.getD i 0 = l.getD (l.length - 1 - i) 0 := by
  simp [List.getD, List.getElem?_reverse h]

theorem sw_eq (bs : List Int) (n j : Nat) (hn : n ≤ 64) (hj : j < 16 + n) : sw bs j = (ex (w16 bs) n).getD (15 + n - j) 0 := by
  have h := ex_drop (w16 bs) n (64 - n)
  rw [show n + (64 - n) = 64 by omega] at h
  unfold sw sched
  rw [getD_rev _ _ (by rw [ex_len, w16_len]; omega), ex_len, w16_len, h]
  simp only [List.getD, List.getElem?_drop]
  congr 2
  omega

theorem sw_low (bs : List Int) (j : Nat) (hj : j < 16) : sw bs j = wd bs j := by
  rw [sw_eq bs 0 j (by omega) (by omega)]
  simp only [ex, w16]
  rw [getD_rev _ _ (by simp; omega)]
  simp only [List.length_map, List.length_range, List.getD, List.getElem?_map]
  rw [List.getElem?_range (by omega)]
  simp only [Option.map_some, Option.getD_some]
  congr 1
  omega

theorem sw_high (bs : List Int) (t : Nat) (h : 16 ≤ t) (ht : t < 80) : sw bs t = rotl (x4 (sw bs (t - 3)) (sw bs (t - 8)) (sw bs (t - 14)) (sw bs (t - 16))) 1 := by
  rw [sw_eq bs (t - 15) t (by omega) (by omega)]
  have hs := fun j (hj : j < t) => sw_eq bs (t - 16) j (by omega) (by omega)
  rw [hs (t - 3) (by omega), hs (t - 8) (by omega), hs (t - 14) (by omega), hs (t - 16) (by omega)]
  rw [show 15 + (t - 15) - t = 0 by omega, show t - 15 = t - 16 + 1 by omega, show 15 + (t - 16) - (t - 3) = 2 by omega, show 15 + (t - 16) - (t - 8) = 7 by omega, show 15 + (t - 16) - (t - 14) = 13 by omega, show 15 + (t - 16) - (t - 16) = 15 by omega]
  rfl

/-- The state behind k steps. -/
def run (bs : List Int) (h : St) (k : Nat) : St := fwd ((sched bs).take k) 0 h

theorem run_zero (bs : List Int) (h : St) : run bs h 0 = h := rfl

theorem run_succ (bs : List Int) (h : St) (k : Nat) (hk : k < 80) : run bs h (k + 1) = step (sw bs k) k (run bs h k) := by
  have hl := sched_len bs
  unfold run
  rw [List.take_add_one, List.getElem?_eq_getElem (by omega)]
  simp only [Option.toList_some]
  rw [fwd_snoc]
  simp only [List.length_take, hl, Nat.zero_add]
  rw [Nat.min_eq_left (by omega)]
  congr 1
  simp [sw, List.getD, List.getElem?_eq_getElem (show k < (sched bs).length by omega)]

def St.plus (h r : St) : St := ⟨ad h.a r.a, ad h.b r.b, ad h.c r.c, ad h.d r.d, ad h.e r.e⟩

theorem St.plus_nth (h r : St) (i : Nat) : (h.plus r).nth i = ad (h.nth i) (r.nth i) := by
  rcases i with _ | _ | _ | _ | i <;> rfl

/-- The words behind a block. -/
def mix (h : St) (bs : List Int) : St := h.plus (run bs h 80)

def H0 : St := ⟨1732584193, 4023233417, 2562383102, 271733878, 3285377520⟩

def blk (xs : List Int) (n : Nat) : List Int := (xs.drop (64 * n)).take 64

/-- The words behind n blocks. -/
def absb (xs : List Int) : Nat → St
  | 0 => H0
  | n + 1 => mix (absb xs n) (blk xs n)

theorem absb_app (xs ys : List Int) (n : Nat) (h : 64 * n ≤ xs.length) : absb (xs ++ ys) n = absb xs n := by
  induction n with
  | zero => rfl
  | succ n ih =>
    simp only [absb]
    rw [ih (by omega)]
    congr 1
    unfold blk
    rw [List.drop_append_of_le_length (by omega), List.take_append_of_le_length (by simp; omega)]

/-- The lowest n bytes of v, the highest first. -/
def be (v : Int) : Nat → List Int
  | 0 => []
  | n + 1 => v / 2 ^ (8 * n) % 256 :: be v n

def zs (n : Nat) : Nat := (119 - n % 64) % 64

/-- What ends the last block behind n bytes. -/
def fin (n : Nat) : List Int := 128 :: List.replicate (zs n) 0 ++ be (8 * (n : Int)) 8

def pad (xs : List Int) : List Int := xs ++ fin xs.length

/-- Byte i of the words. -/
def byt (s : St) (i : Nat) : Int := s.nth (i / 4) / 2 ^ (24 - 8 * (i % 4)) % 256

def bytes20 (s : St) : List Int := (List.range 20).map (byt s)

/-- The sum. -/
def dig (xs : List Int) : List Int := bytes20 (absb (pad xs) ((pad xs).length / 64))

/-! Reckoned step by step. -/
def frc {α : Type} (n : Nat) (f : Nat → α) : α :=
  match n with
  | 0 => f 0
  | k + 1 => f (k + 1)

theorem frc_eq {α : Type} (n : Nat) (f : Nat → α) : frc n f = f n := by cases n <;> rfl

def frcI {α : Type} (x : Int) (f : Int → α) : α :=
  match x with
  | .ofNat n => frc n fun n => f (Int.ofNat n)
  | .negSucc n => frc n fun n => f (Int.negSucc n)

theorem frcI_eq {α : Type} (x : Int) (f : Int → α) : frcI x f = f x := by
  cases x with
  | ofNat n => exact frc_eq n fun n => f (Int.ofNat n)
  | negSucc n => exact frc_eq n fun n => f (Int.negSucc n)

def frcL {α : Type} : List Int → (List Int → α) → α
  | [], f => f []
  | x :: l, f => frcI x fun y => frcL l fun r => f (y :: r)

theorem frcL_eq {α : Type} (l : List Int) (f : List Int → α) : frcL l f = f l := by
  induction l generalizing f with
  | nil => rfl
  | cons x l ih => rw [frcL, frcI_eq, ih]

def exK {α : Type} : Nat → List Int → (List Int → α) → α
  | 0, l, k => k l
  | n + 1, l, k => frcI (rotl (x4 (l.getD 2 0) (l.getD 7 0) (l.getD 13 0) (l.getD 15 0)) 1) fun x => exK n (x :: l) k

theorem ex_succ' (l : List Int) (n : Nat) : ex l (n + 1) = ex (rotl (x4 (l.getD 2 0) (l.getD 7 0) (l.getD 13 0) (l.getD 15 0)) 1 :: l) n := by
  induction n with
  | zero => rfl
  | succ n ih => rw [ex, ih]; rfl

theorem exK_eq {α : Type} (n : Nat) (l : List Int) (k : List Int → α) : exK n l k = k (ex l n) := by
  induction n generalizing l with
  | zero => rfl
  | succ n ih => rw [ex_succ', exK, frcI_eq, ih]

def fwdK {α : Type} : List Int → Nat → Int → Int → Int → Int → Int → (St → α) → α
  | [], _, a, b, c, d, e, k => k ⟨a, b, c, d, e⟩
  | x :: l, t, a, b, c, d, e, k => frcI (tmp x t ⟨a, b, c, d, e⟩) fun y => frcI (rotl b 30) fun z => fwdK l (t + 1) y a z c d k

theorem fwdK_eq {α : Type} (l : List Int) (t : Nat) (s : St) (k : St → α) : fwdK l t s.a s.b s.c s.d s.e k = k (fwd l t s) := by
  induction l generalizing t s with
  | nil => rfl
  | cons x l ih =>
    rw [fwdK, frcI_eq, frcI_eq]
    exact ih (t + 1) (step x t s)

/-- The sum of bytes that with their ending are one block. -/
def digK (xs : List Int) : List Int := frcL (pad xs) fun p => frcL (w16 p) fun l => exK 64 l fun r => fwdK r.reverse 0 H0.a H0.b H0.c H0.d H0.e fun s => bytes20 (H0.plus s)

theorem dig_one (xs : List Int) (h : (pad xs).length = 64) : dig xs = digK xs := by
  unfold digK
  rw [frcL_eq, frcL_eq, exK_eq, fwdK_eq]
  have hb : blk (pad xs) 0 = pad xs := by unfold blk; rw [Nat.mul_zero, List.drop_zero, List.take_of_length_le (by omega)]
  have hs := sched_len (pad xs)
  unfold dig
  rw [h]
  show bytes20 (mix H0 (blk (pad xs) 0)) = _
  rw [hb]
  unfold mix run
  rw [List.take_of_length_le (by omega)]
  rfl

def sumNil : List Int := [218, 57, 163, 238, 94, 107, 75, 13, 50, 85, 191, 239, 149, 96, 24, 144, 175, 216, 7, 9]

def sumAbc : List Int := [169, 153, 62, 54, 71, 6, 129, 106, 186, 62, 37, 113, 120, 80, 194, 108, 156, 208, 216, 157]

theorem dig_nil : dig [] = sumNil := by
  rw [dig_one _ (by decide +kernel)]
  decide +kernel

theorem dig_abc : dig [97, 98, 99] = sumAbc := by
  rw [dig_one _ (by decide +kernel)]
  decide +kernel

end Go.Proofs.YtojgablpjdlegaaGreatDoor.Sha

/- withRoom: what it hands back. -/
namespace Go.Proofs.YtojgablpjdlegaaGreatDoor.Sha
open Go.RowKit

theorem Tryz.info5 : (Tryz.prog.info? 5).map (fun i => (i.zero, i.size, i.bytes)) = some (some (.int .u8 0), 1, 1) := by kernel_rfl

set_option maxHeartbeats 400000 in
theorem withRoom_any (ao : Option Addr) (n c m : Nat) (xs : List Int) (w : World) (h : Rd w ao n c xs) (hn : n ≤ 140737488351232) (hm : m ≤ 1000) :
    Calls Tryz.prog 200 #[.slice ao n c, .int .i64 m] w fun e w' => e = .returned (.slice (some ⟨w.heap.size, 0, none⟩) n (n + m)) ∧
      w'.ownsRow w.heap.size 5 1 (.slice (some ⟨w.heap.size, 0, none⟩) n (n + m)) n (xs.map (Value.int .u8)) ∧ Below w.heap.size w w' := by
  obtain ⟨i0, hi, hz0, hz1, hz2⟩ := info_parts Tryz.info5
  have hcells := h.cellsOf
  have hnone := h.nul
  have hlen := h.len
  clear h
  go_enter Tryz.func200, Tryz.ntmps200
  go_wp2_with (first
    | (at_make; refine wpList_make_own _ rfl _ _ 22 rfl w.heap.size 5 i0 (.int .u8 0) 1 Tryz.underlying22 hi hz0 hz1 _ _ _ (n + m) rfl rfl (by omega) (by rw [hz2]; omega) (by unfold maxLen; omega) (Nat.le_refl _) ?_; intro w1 hown hgrow)
    | (at_builtin; refine wpList_append_fits_any _ rfl _ _ 22 rfl w.heap.size 5 i0 1 Tryz.underlying22 hi hz1 w.heap.size 0 (n + m) [] rfl hown ao n c (xs.map (Value.int .u8)) rfl (by simpa using hlen) hnone ?_ (ints_oneCell _ _) (by omega) ?_))
  · have hb : Below w.heap.size w w1 := (Below.refl _ _).grown hgrow (Nat.le_refl _) (fun k hk => by cases hk)
    intro ad had j u hu
    have hc := hcells ad had j u hu
    rw [hb.cell (World.block_lt_of_cell? w _ hc)]
    exact hc
  · intro w2 hown2 hgrow2
    have hb : Below w.heap.size w w1 := (Below.refl _ _).grown hgrow (Nat.le_refl _) (fun k hk => by cases hk)
    have hb2 : Below w.heap.size w w2 := hb.grown hgrow2 hb.size (fun k hk => by cases hk; exact Nat.le_refl _)
    clear hown hgrow hgrow2 hb hcells hnone
    go_wp2
    go_ret
    exact ⟨rfl, hown2, hb2⟩

end Go.Proofs.YtojgablpjdlegaaGreatDoor.Sha
