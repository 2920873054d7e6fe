/- sort.order2, sort.median, sort.medianAdjacent, sort.choosePivot. -/
import Derived.Test.YtmjcikomcnokkaaDoorWHeap
import Derived.Test.YtmjcikomcnokkaaDoorWRPar
namespace Go.Proofs.YtmjcikomcnokkaaDoor
open Go.RowKit

/-- The names d, and a number of swaps in a block of its own. -/
structure Sp (b N S : Nat) (w : World) (d : Array (List Int)) (s : Nat) (W : World) : Prop where
  tt : To b N w d W
  cell : W.rowIs S 3 1 (fun _ => .int .i64 s)
  new : w.heap.size ≤ S
  old : b < w.heap.size

theorem Sp.less {b N S : Nat} {w W : World} {d : Array (List Int)} {s : Nat} (h : Sp b N S w d s W) (c n i j : Nat) (hn : d.size = n) (hi : i < n) (hj : j < n) :
    Calls Tryd.prog 102 #[sl b n c, .int .i64 i, .int .i64 j] W fun e W' => e = .returned (.bool (ltl d[i]! d[j]!)) ∧ Sp b N S w d s W' := by
  have := rless_any b N c d W h.tt.rw i j (by omega) (by omega)
  rw [hn] at this
  exact this.mono fun _ _ ⟨h1, h2⟩ => ⟨h1, h.tt.keep h2, rowIs_fr (P := fun _ => False) h.cell (Fr.ofBelow h2) (fun h => h), h.new, h.old⟩

theorem Sp.set {b N S : Nat} {w W : World} {d : Array (List Int)} {s : Nat} (h : Sp b N S w d s W) (t : Nat) : Sp b N S w d t (W.setCell ⟨S, 0, none⟩ (.int .i64 t)) := by
  have f := set_fr W S 0 (.int .i64 t)
  have h1 := h.new
  have h2 := h.old
  refine ⟨⟨h.tt.rw.fr f (by omega), ?_⟩, set_row h.cell 0 _ (fun j hj => by rw [if_pos (by omega)]), h1, h2⟩
  exact h.tt.fr.trans (P' := fun k => k = S) f (fun i hi e => by omega)

set_option maxHeartbeats 2000000 in
set_option maxRecDepth 100000 in
theorem order2_any (b N c n S i j s : Nat) (d : Array (List Int)) (w W : World) (h : Sp b N S w d s W) (hn : d.size = n) (hi : i < n) (hj : j < n) (hs : s < 1000) :
    Calls Tryd.prog 83 #[iv b n c, .int .i64 i, .int .i64 j, .pointer (some ⟨S, 0, none⟩)] W fun e W' => e = .returned (.tuple #[.int .i64 (Sort.order2 ltl d i j s).1, .int .i64 (Sort.order2 ltl d i j s).2.1]) ∧ Sp b N S w d (Sort.order2 ltl d i j s).2.2 W' := by
  have m1 := mLess b n c
  have hl := h.less c n j i hn hj hi
  cases hlv : ltl d[j]! d[i]! with
  | true =>
    rw [hlv] at hl
    have e : Sort.order2 ltl d i j s = (j, i, s + 1) := by unfold Sort.order2; rw [hlv]; rfl
    rw [e]
    clear e h
    go_enter Tryd.func83, Tryd.ntmps83
    go_wp2_with fail
    refine hl.mono ?_
    rintro ee W2 ⟨rfl, hS2⟩
    have hc := hS2.cell.cell (i := 0) (by omega)
    have hf := hS2.cell.frozen 0
    have HS3 := hS2.set (s + 1)
    rw [show (((s + 1 : Nat)) : Int) = (s : Int) + 1 by omega] at HS3
    have HS : Hid _ := HS3
    clear hl hS2 HS3
    go_wp2_with fail
    go_ret2
    exact ⟨rfl, HS.out⟩
  | false =>
    rw [hlv] at hl
    have e : Sort.order2 ltl d i j s = (i, j, s) := by unfold Sort.order2; rw [hlv]; rfl
    rw [e]
    clear e h
    go_enter Tryd.func83, Tryd.ntmps83
    go_wp2_with fail
    refine hl.mono ?_
    rintro ee W2 ⟨rfl, hS2⟩
    have HS : Hid _ := hS2
    clear hl hS2
    go_wp2_with fail
    go_ret2
    exact ⟨rfl, HS.out⟩

theorem o2_lt (d : Array (List Int)) (i j s n : Nat) (hi : i < n) (hj : j < n) : (Sort.order2 ltl d i j s).1 < n ∧ (Sort.order2 ltl d i j s).2.1 < n ∧ (Sort.order2 ltl d i j s).2.2 ≤ s + 1 := by
  unfold Sort.order2
  split
  · exact ⟨hj, hi, Nat.le_refl _⟩
  · exact ⟨hi, hj, Nat.le_succ _⟩

set_option maxHeartbeats 2000000 in
set_option maxRecDepth 100000 in
theorem median_any (b N c n S i j k s : Nat) (d : Array (List Int)) (w W : World) (h : Sp b N S w d s W) (hn : d.size = n) (hi : i < n) (hj : j < n) (hk : k < n) (hs : s < 900) :
    Calls Tryd.prog 79 #[iv b n c, .int .i64 i, .int .i64 j, .int .i64 k, .pointer (some ⟨S, 0, none⟩)] W fun e W' => e = .returned (.int .i64 (Sort.median ltl d i j k s).1) ∧ Sp b N S w d (Sort.median ltl d i j k s).2 W' := by
  have h1 := order2_any b N c n S i j s d w W h hn hi hj (by omega)
  obtain ⟨a1, a2, a3⟩ := o2_lt d i j s n hi hj
  have hm : Sort.median ltl d i j k s = ((Sort.order2 ltl d (Sort.order2 ltl d i j s).1 (Sort.order2 ltl d (Sort.order2 ltl d i j s).2.1 k (Sort.order2 ltl d i j s).2.2).1 (Sort.order2 ltl d (Sort.order2 ltl d i j s).2.1 k (Sort.order2 ltl d i j s).2.2).2.2).2.1, (Sort.order2 ltl d (Sort.order2 ltl d i j s).1 (Sort.order2 ltl d (Sort.order2 ltl d i j s).2.1 k (Sort.order2 ltl d i j s).2.2).1 (Sort.order2 ltl d (Sort.order2 ltl d i j s).2.1 k (Sort.order2 ltl d i j s).2.2).2.2).2.2) := rfl
  rw [hm]
  clear hm
  generalize Sort.order2 ltl d i j s = r1 at *
  obtain ⟨p1, p2, s1⟩ := r1
  simp only [] at a1 a2 a3 h1 ⊢
  have h2 := fun W' (hW : Sp b N S w d s1 W') => order2_any b N c n S p2 k s1 d w W' hW hn a2 hk (by omega)
  obtain ⟨b1, b2, b3⟩ := o2_lt d p2 k s1 n a2 hk
  generalize Sort.order2 ltl d p2 k s1 = r2 at *
  obtain ⟨q1, q2, s2⟩ := r2
  simp only [] at b1 b2 b3 h2 ⊢
  have h3 := fun W' (hW : Sp b N S w d s2 W') => order2_any b N c n S p1 q1 s2 d w W' hW hn a1 b1 (by omega)
  generalize Sort.order2 ltl d p1 q1 s2 = r3 at *
  obtain ⟨u1, u2, s3⟩ := r3
  simp only [] at h3 ⊢
  clear h
  go_enter Tryd.func79, Tryd.ntmps79
  go_wp2_with fail
  refine h1.mono ?_
  rintro ee W2 ⟨rfl, hS2⟩
  have HS2 : Hid _ := hS2
  clear h1 hS2
  go_wp2_with fail
  refine (h2 _ HS2.out).mono ?_
  rintro ee W3 ⟨rfl, hS3⟩
  have HS3 : Hid _ := hS3
  clear h2 hS3
  go_wp2_with fail
  refine (h3 _ HS3.out).mono ?_
  rintro ee W4 ⟨rfl, hS4⟩
  have HS4 : Hid _ := hS4
  clear h3 hS4
  go_wp2_with fail
  go_ret
  exact ⟨rfl, HS4.out⟩

theorem med_lt (d : Array (List Int)) (i j k s n : Nat) (hi : i < n) (hj : j < n) (hk : k < n) : (Sort.median ltl d i j k s).1 < n ∧ (Sort.median ltl d i j k s).2 ≤ s + 3 := by
  obtain ⟨a1, a2, a3⟩ := o2_lt d i j s n hi hj
  obtain ⟨b1, b2, b3⟩ := o2_lt d (Sort.order2 ltl d i j s).2.1 k (Sort.order2 ltl d i j s).2.2 n a2 hk
  obtain ⟨c1, c2, c3⟩ := o2_lt d (Sort.order2 ltl d i j s).1 (Sort.order2 ltl d (Sort.order2 ltl d i j s).2.1 k (Sort.order2 ltl d i j s).2.2).1 (Sort.order2 ltl d (Sort.order2 ltl d i j s).2.1 k (Sort.order2 ltl d i j s).2.2).2.2 n a1 b1
  exact ⟨c2, by show (Sort.order2 ltl d _ _ _).2.2 ≤ s + 3; omega⟩

set_option maxHeartbeats 2000000 in
set_option maxRecDepth 100000 in
theorem adj_any (b N c n S i s : Nat) (d : Array (List Int)) (w W : World) (h : Sp b N S w d s W) (hn : d.size = n) (h1 : 1 ≤ i) (hi : i + 1 < n) (hs : s < 900) (hsz : n < 100000) :
    Calls Tryd.prog 78 #[iv b n c, .int .i64 i, .pointer (some ⟨S, 0, none⟩)] W fun e W' => e = .returned (.int .i64 (Sort.medianAdjacent ltl d i s).1) ∧ Sp b N S w d (Sort.medianAdjacent ltl d i s).2 W' := by
  have hm := median_any b N c n S (i - 1) i (i + 1) s d w W h hn (by omega) (by omega) (by omega) hs
  rw [show ((i - 1 : Nat) : Int) = (i : Int) - 1 by omega, show ((i + 1 : Nat) : Int) = (i : Int) + 1 by omega] at hm
  have e : Sort.medianAdjacent ltl d i s = Sort.median ltl d (i - 1) i (i + 1) s := rfl
  rw [e]
  clear e h
  generalize Sort.median ltl d (i - 1) i (i + 1) s = r at *
  obtain ⟨r1, r2⟩ := r
  go_enter Tryd.func78, Tryd.ntmps78
  go_wp2_with fail
  refine hm.mono ?_
  rintro ee W2 ⟨rfl, hS2⟩
  have HS2 : Hid _ := hS2
  clear hm hS2
  go_wp2_with fail
  go_ret
  exact ⟨rfl, HS2.out⟩

/-- A hint's number. -/
def hn (h : Sort.Hint) : Int := match h with
  | .unknown => 0
  | .increasing => 1
  | .decreasing => 2

theorem cp_mid (d : Array (List Int)) (a e : Nat) (h8 : 8 ≤ e - a) (h50 : ¬ 50 ≤ e - a) : Sort.choosePivot ltl d a e = ((Sort.median ltl d (a + (e - a) / 4) (a + (e - a) / 4 * 2) (a + (e - a) / 4 * 3) 0).1, if (Sort.median ltl d (a + (e - a) / 4) (a + (e - a) / 4 * 2) (a + (e - a) / 4 * 3) 0).2 = 0 then .increasing else if (Sort.median ltl d (a + (e - a) / 4) (a + (e - a) / 4 * 2) (a + (e - a) / 4 * 3) 0).2 = 12 then .decreasing else .unknown) := by
  unfold Sort.choosePivot
  simp only [if_pos (show e - a ≥ 8 from h8), if_neg (show ¬ e - a ≥ 50 from h50), Nat.mul_one]

theorem cp_big (d : Array (List Int)) (a e i j k s1 s2 s3 m s4 : Nat) (h50 : 50 ≤ e - a) (h1 : Sort.medianAdjacent ltl d (a + (e - a) / 4) 0 = (i, s1)) (h2 : Sort.medianAdjacent ltl d (a + (e - a) / 4 * 2) s1 = (j, s2)) (h3 : Sort.medianAdjacent ltl d (a + (e - a) / 4 * 3) s2 = (k, s3))
    (h4 : Sort.median ltl d i j k s3 = (m, s4)) : Sort.choosePivot ltl d a e = (m, if s4 = 0 then .increasing else if s4 = 12 then .decreasing else .unknown) := by
  unfold Sort.choosePivot
  simp only [if_pos (show e - a ≥ 8 by omega), if_pos (show e - a ≥ 50 from h50), Nat.mul_one, h1, h2, h3, h4]

theorem Sp.start {b N : Nat} {w : World} {d : Array (List Int)} (h : Rw w b N d) : Sp b N w.heap.size w d 0 (w.alloc (.cells #[.int .i64 0] 3)) :=
  ⟨⟨h.keep (new_below w _), (Fr.refl _ w).alloc _⟩, World.rowIs_alloc w #[.int .i64 0] 3 (fun _ => .int .i64 ((0 : Nat) : Int)) (fun i hi => by simp at hi; subst hi; rfl), Nat.le_refl _, h.lt⟩

theorem Sp.ld {b N S : Nat} {w W : World} {d : Array (List Int)} {s : Nat} (h : Sp b N S w d s W) : W.cell? ⟨S, 0, none⟩ = some (.int .i64 s) := h.cell.cell (i := 0) (by omega)

set_option maxHeartbeats 4000000 in
set_option maxRecDepth 100000 in
theorem pivot_big (b N c n : Nat) (a e L Q I1 I2 I3 : Int) (d : Array (List Int)) (w : World) (HS0 : Hid (Sp b N w.heap.size w d 0 (w.alloc (.cells #[.int .i64 0] 3)))) (hz1 : IntKind.i64.wrap (e - a) = L) (hz2 : IntKind.i64.wrap (Int.tdiv L 4) = Q) (hz3 : 8 ≤ L)
    (q1 : IntKind.i64.wrap Q = Q) (p1 : IntKind.i64.wrap (a + Q) = I1) (p2 : IntKind.i64.wrap (Q * 2) = Q * 2) (p3 : IntKind.i64.wrap (a + Q * 2) = I2) (p4 : IntKind.i64.wrap (Q * 3) = Q * 3) (p5 : IntKind.i64.wrap (a + Q * 3) = I3) (hz4 : 50 ≤ L) (i j k m s1 s2 s3 s4 : Nat)
    (c1 : ∀ W, Sp b N w.heap.size w d 0 W → Calls Tryd.prog 78 #[iv b n c, .int .i64 I1, .pointer (some ⟨w.heap.size, 0, none⟩)] W fun e W' => e = .returned (.int .i64 i) ∧ Sp b N w.heap.size w d s1 W')
    (c2 : ∀ W, Sp b N w.heap.size w d s1 W → Calls Tryd.prog 78 #[iv b n c, .int .i64 I2, .pointer (some ⟨w.heap.size, 0, none⟩)] W fun e W' => e = .returned (.int .i64 j) ∧ Sp b N w.heap.size w d s2 W')
    (c3 : ∀ W, Sp b N w.heap.size w d s2 W → Calls Tryd.prog 78 #[iv b n c, .int .i64 I3, .pointer (some ⟨w.heap.size, 0, none⟩)] W fun e W' => e = .returned (.int .i64 k) ∧ Sp b N w.heap.size w d s3 W')
    (c4 : ∀ W, Sp b N w.heap.size w d s3 W → Calls Tryd.prog 79 #[iv b n c, .int .i64 i, .int .i64 j, .int .i64 k, .pointer (some ⟨w.heap.size, 0, none⟩)] W fun e W' => e = .returned (.int .i64 m) ∧ Sp b N w.heap.size w d s4 W') :
    Calls Tryd.prog 67 #[iv b n c, .int .i64 a, .int .i64 e] w fun ee w' => ee = .returned (.tuple #[.int .i64 m, .int .i64 (hn (if s4 = 0 then .increasing else if s4 = 12 then .decreasing else .unknown))]) ∧ To b N w d w' := by
  go_enter Tryd.func67, Tryd.ntmps67
  go_wp2_with fail
  refine (c1 _ HS0.out).mono ?_
  rintro ee W1 ⟨rfl, hS1⟩
  have HS1 : Hid _ := hS1
  clear c1 hS1
  go_wp2_with fail
  refine (c2 _ HS1.out).mono ?_
  rintro ee W2 ⟨rfl, hS2⟩
  have HS2 : Hid _ := hS2
  clear c2 hS2
  go_wp2_with fail
  refine (c3 _ HS2.out).mono ?_
  rintro ee W3 ⟨rfl, hS3⟩
  have HS3 : Hid _ := hS3
  clear c3 hS3
  go_wp2_with fail
  refine (c4 _ HS3.out).mono ?_
  rintro ee W4 ⟨rfl, hS4⟩
  have HS4 : Hid _ := hS4
  clear c4 hS4
  have hld := HS4.out.ld
  have HT : Hid _ := HS4.out.tt
  clear HS4
  by_cases g0 : s4 = 0
  · subst g0
    go_wp2_with fail
    go_ret2
    exact ⟨rfl, HT.out⟩
  · have gz : ((s4 : Int) == 0) = false := by simp; omega
    by_cases g1 : s4 = 12
    · subst g1
      go_wp2_with fail
      go_ret2
      exact ⟨rfl, HT.out⟩
    · have gy : ((s4 : Int) == 12) = false := by simp; omega
      go_wp2_with fail
      go_ret2
      refine ⟨?_, HT.out⟩
      simp [hn]

set_option maxHeartbeats 4000000 in
set_option maxRecDepth 100000 in
theorem pivot_mid (b N c n : Nat) (a e L Q I1 I2 I3 : Int) (d : Array (List Int)) (w : World) (HS0 : Hid (Sp b N w.heap.size w d 0 (w.alloc (.cells #[.int .i64 0] 3)))) (hz1 : IntKind.i64.wrap (e - a) = L) (hz2 : IntKind.i64.wrap (Int.tdiv L 4) = Q) (hz3 : 8 ≤ L)
    (q1 : IntKind.i64.wrap Q = Q) (p1 : IntKind.i64.wrap (a + Q) = I1) (p2 : IntKind.i64.wrap (Q * 2) = Q * 2) (p3 : IntKind.i64.wrap (a + Q * 2) = I2) (p4 : IntKind.i64.wrap (Q * 3) = Q * 3) (p5 : IntKind.i64.wrap (a + Q * 3) = I3) (hz4 : ¬ 50 ≤ L) (m s4 : Nat)
    (c4 : ∀ W, Sp b N w.heap.size w d 0 W → Calls Tryd.prog 79 #[iv b n c, .int .i64 I1, .int .i64 I2, .int .i64 I3, .pointer (some ⟨w.heap.size, 0, none⟩)] W fun e W' => e = .returned (.int .i64 m) ∧ Sp b N w.heap.size w d s4 W') :
    Calls Tryd.prog 67 #[iv b n c, .int .i64 a, .int .i64 e] w fun ee w' => ee = .returned (.tuple #[.int .i64 m, .int .i64 (hn (if s4 = 0 then .increasing else if s4 = 12 then .decreasing else .unknown))]) ∧ To b N w d w' := by
  go_enter Tryd.func67, Tryd.ntmps67
  go_wp2_with fail
  refine (c4 _ HS0.out).mono ?_
  rintro ee W4 ⟨rfl, hS4⟩
  have HS4 : Hid _ := hS4
  clear c4 hS4
  have hld := HS4.out.ld
  have HT : Hid _ := HS4.out.tt
  clear HS4
  by_cases g0 : s4 = 0
  · subst g0
    go_wp2_with fail
    go_ret2
    exact ⟨rfl, HT.out⟩
  · have gz : ((s4 : Int) == 0) = false := by simp; omega
    by_cases g1 : s4 = 12
    · subst g1
      go_wp2_with fail
      go_ret2
      exact ⟨rfl, HT.out⟩
    · have gy : ((s4 : Int) == 12) = false := by simp; omega
      go_wp2_with fail
      go_ret2
      refine ⟨?_, HT.out⟩
      simp [hn]

theorem w64 (x : Int) (h0 : 0 ≤ x) (h1 : x < 1000000) : IntKind.i64.wrap x = x := wraps_i64 x h0 (by omega)

theorem pivot_any (b N c n a e : Nat) (d : Array (List Int)) (w : World) (h : Rw w b N d) (hn' : d.size = n) (h8 : 8 ≤ e - a) (he : e ≤ n) (hsz : n < 100000) :
    Calls Tryd.prog 67 #[iv b n c, .int .i64 a, .int .i64 e] w fun ee w' => ee = .returned (.tuple #[.int .i64 (Sort.choosePivot ltl d a e).1, .int .i64 (hn (Sort.choosePivot ltl d a e).2)]) ∧ To b N w d w' := by
  have HS0 : Hid _ := Sp.start h
  obtain ⟨L, hL⟩ : ∃ L, L = e - a := ⟨_, rfl⟩
  obtain ⟨Q, hQ⟩ : ∃ Q, Q = L / 4 := ⟨_, rfl⟩
  have hb3 : a + Q * 3 + 1 < n := by omega
  have hQ1 : 1 ≤ Q := by omega
  have hz1 : IntKind.i64.wrap ((e : Int) - (a : Int)) = (L : Int) := by rw [w64 _ (by omega) (by omega)]; omega
  have hz2 : IntKind.i64.wrap (Int.tdiv (L : Int) 4) = (Q : Int) := by
    rw [Int.tdiv_eq_ediv_of_nonneg (by omega), w64 _ (by omega) (by omega)]
    omega
  have q1 := w64 (Q : Int) (by omega) (by omega)
  have p1 : IntKind.i64.wrap ((a : Int) + (Q : Int)) = ((a + Q : Nat) : Int) := by rw [w64 _ (by omega) (by omega)]; omega
  have p2 := w64 ((Q : Int) * 2) (by omega) (by omega)
  have p3 : IntKind.i64.wrap ((a : Int) + (Q : Int) * 2) = ((a + Q * 2 : Nat) : Int) := by rw [w64 _ (by omega) (by omega)]; omega
  have p4 := w64 ((Q : Int) * 3) (by omega) (by omega)
  have p5 : IntKind.i64.wrap ((a : Int) + (Q : Int) * 3) = ((a + Q * 3 : Nat) : Int) := by rw [w64 _ (by omega) (by omega)]; omega
  by_cases h50 : 50 ≤ L
  · obtain ⟨⟨i, s1⟩, hr1⟩ : ∃ r, Sort.medianAdjacent ltl d (a + Q) 0 = r := ⟨_, rfl⟩
    have b1 := med_lt d (a + Q - 1) (a + Q) (a + Q + 1) 0 n (by omega) (by omega) (by omega)
    have e1 : Sort.median ltl d (a + Q - 1) (a + Q) (a + Q + 1) 0 = (i, s1) := hr1
    rw [e1] at b1
    obtain ⟨⟨j, s2⟩, hr2⟩ : ∃ r, Sort.medianAdjacent ltl d (a + Q * 2) s1 = r := ⟨_, rfl⟩
    have b2 := med_lt d (a + Q * 2 - 1) (a + Q * 2) (a + Q * 2 + 1) s1 n (by omega) (by omega) (by omega)
    have e2 : Sort.median ltl d (a + Q * 2 - 1) (a + Q * 2) (a + Q * 2 + 1) s1 = (j, s2) := hr2
    rw [e2] at b2
    obtain ⟨⟨k, s3⟩, hr3⟩ : ∃ r, Sort.medianAdjacent ltl d (a + Q * 3) s2 = r := ⟨_, rfl⟩
    have b3 := med_lt d (a + Q * 3 - 1) (a + Q * 3) (a + Q * 3 + 1) s2 n (by omega) (by omega) (by omega)
    have e3 : Sort.median ltl d (a + Q * 3 - 1) (a + Q * 3) (a + Q * 3 + 1) s2 = (k, s3) := hr3
    rw [e3] at b3
    simp only [] at b1 b2 b3
    obtain ⟨⟨m, s4⟩, hr4⟩ : ∃ r, Sort.median ltl d i j k s3 = r := ⟨_, rfl⟩
    have E := cp_big d a e i j k s1 s2 s3 m s4 (by omega) (by rw [← hL, ← hQ]; exact hr1) (by rw [← hL, ← hQ]; exact hr2) (by rw [← hL, ← hQ]; exact hr3) hr4
    rw [E]
    have c1 := fun W (hW : Sp b N w.heap.size w d 0 W) => adj_any b N c n w.heap.size (a + Q) 0 d w W hW hn' (by omega) (by omega) (by omega) hsz
    have c2 := fun W (hW : Sp b N w.heap.size w d s1 W) => adj_any b N c n w.heap.size (a + Q * 2) s1 d w W hW hn' (by omega) (by omega) (by omega) hsz
    have c3 := fun W (hW : Sp b N w.heap.size w d s2 W) => adj_any b N c n w.heap.size (a + Q * 3) s2 d w W hW hn' (by omega) (by omega) (by omega) hsz
    have c4 := fun W (hW : Sp b N w.heap.size w d s3 W) => median_any b N c n w.heap.size i j k s3 d w W hW hn' b1.1 b2.1 b3.1 (by omega)
    rw [hr1] at c1
    rw [hr2] at c2
    rw [hr3] at c3
    rw [hr4] at c4
    exact pivot_big b N c n a e L Q _ _ _ d w HS0 hz1 hz2 (by omega) q1 p1 p2 p3 p4 p5 (by omega) i j k m s1 s2 s3 s4 c1 c2 c3 c4
  · obtain ⟨⟨m, s4⟩, hr4⟩ : ∃ r, Sort.median ltl d (a + Q) (a + Q * 2) (a + Q * 3) 0 = r := ⟨_, rfl⟩
    have E := cp_mid d a e (by omega) (by omega)
    rw [← hL, ← hQ, hr4] at E
    simp only [] at E
    rw [E]
    have c4 := fun W (hW : Sp b N w.heap.size w d 0 W) => median_any b N c n w.heap.size (a + Q) (a + Q * 2) (a + Q * 3) 0 d w W hW hn' (by omega) (by omega) (by omega) (by omega)
    rw [hr4] at c4
    exact pivot_mid b N c n a e L Q _ _ _ d w HS0 hz1 hz2 (by omega) q1 p1 p2 p3 p4 p5 (by omega) m s4 c4

end Go.Proofs.YtmjcikomcnokkaaDoor
