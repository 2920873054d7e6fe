/- Lengths, Least. -/
import Derived.Test.YtkclaikofdolmaaPm3
import Derived.Test.YtkclaikofdolmaaWCounts
import Derived.Test.YtkclaikofdolmaaWTree
namespace Go.Proofs.Ytkclaikofdolmaa
open Go.RowKit

/-- The error of counts and a bound: none 0, no counts or no bound 1, too many 7. -/
def lerr (D : Nat → Int) (n : Nat) (most : Int) : Int := if okc D n = true ∧ 1 ≤ most ∧ most ≤ 15 then (if 2 ^ most.toNat < (sy D n).length then 7 else 0) else 1

theorem map_occ (f : Nat → It) (k s : Nat) : ocs f k s = sn (fun t => t.occ s) ((fst f k).map Prod.snd) := by
  unfold ocs
  generalize fst f k = l
  induction l with
  | nil => rfl
  | cons x l ih => simp only [List.map_cons, sn, ih]

theorem fst_take (f : Nat → It) (k m : Nat) (h : k ≤ m) : fst f k = (fst f m).take k := by
  unfold fst
  rw [← List.map_take, List.take_range, Nat.min_eq_left h]

theorem Wf.blw {D : Nat → Int} {ss : List Nat} {n : Nat} (hs : ∀ s ∈ ss, s < n) {k : Nat} {t : Pt} (h : Wf D ss k t) : Blw n t := by
  induction k generalizing t with
  | zero =>
    cases t with
    | leaf c a => exact hs a h.2
    | node c p l r => exact h.elim
  | succ k ih =>
    cases t with
    | leaf c a => exact hs a h.2
    | node c p l r => exact ⟨ih h.2.1, ih h.2.2⟩

theorem Rp.front {w : World} {ao : Option Addr} {n c k : Nat} {f : Nat → It} (h : Rp w ao n c f) (hk : k ≤ n) (h0 : ao ≠ none) : Rp w ao k c f :=
  ⟨by have := h.le; omega, fun e => absurd e h0, fun ad had j hj => h.cells ad had j (by omega), fun j hj => h.prt j (by omega)⟩

set_option maxRecDepth 100000 in
set_option maxHeartbeats 2000000 in
theorem lens_arg (ao : Option Addr) (n c : Nat) (D : Nat → Int) (most : Int) (w : World) (h : Ri w ao n c D) (he : ¬ (okc D n = true ∧ 1 ≤ most ∧ most ≤ 15)) :
    Calls Try.prog 8 #[.slice ao n c, .int .i64 most] w fun e w' => e = .returned (.tuple #[.slice none 0 0, .int .i64 1]) ∧ Below w.heap.size w w' := by
  have hc := counts_any ao n c D w h
  cases hk : okc D n with
  | false =>
    rw [hk] at hc
    clear h he hk
    go_enter Try.func8, Try.ntmps8
    go_wp2_with (go_at_call 25; refine hc.mono ?_; rintro e w1 ⟨rfl, hw⟩; subst w1)
    go_ret2
    exact ⟨rfl, Below.refl _ _⟩
  | true =>
    rw [hk] at hc
    by_cases h1 : most < 1
    · have d1 : decide (most < 1) = true := by simp [h1]
      clear h he hk h1
      go_enter Try.func8, Try.ntmps8
      go_wp2_with (go_at_call 25; refine hc.mono ?_; rintro e w1 ⟨rfl, hw⟩; subst w1)
      go_ret2
      exact ⟨rfl, Below.refl _ _⟩
    · have d1 : decide (most < 1) = false := by simp; omega
      have d2 : decide (15 < most) = true := by
        simp
        by_cases h2 : most ≤ 15
        · exact absurd ⟨hk, by omega, h2⟩ he
        · omega
      clear h he hk h1
      go_enter Try.func8, Try.ntmps8
      go_wp2_with (go_at_call 25; refine hc.mono ?_; rintro e w1 ⟨rfl, hw⟩; subst w1)
      go_ret2
      exact ⟨rfl, Below.refl _ _⟩

theorem lvs_occ (D : Nat → Int) (j : Nat) : ∀ n, sn (fun t => t.occ j) (lvs D n) = if j < n ∧ 0 < D j then 1 else 0
  | 0 => by simp [lvs, sy, sn]
  | n + 1 => by
    have ih := lvs_occ D j n
    have e : lvs D (n + 1) = if 0 < D n then lvs D n ++ [Pt.leaf (D n) n] else lvs D n := by
      unfold lvs
      simp only [sy]
      split
      · rw [List.map_append]; rfl
      · rfl
    rw [e]
    by_cases hp : 0 < D n
    · rw [if_pos hp, sn_append, ih]
      simp only [sn, Pt.occ]
      by_cases ej : n = j
      · subst ej
        rw [if_neg (by omega), if_pos rfl, if_pos ⟨by omega, hp⟩]
      · rw [if_neg ej]
        by_cases hj : j < n ∧ 0 < D j
        · rw [if_pos hj, if_pos ⟨by omega, hj.2⟩]
        · rw [if_neg hj, if_neg (fun h => hj ⟨by omega, h.2⟩)]
    · rw [if_neg hp, ih]
      by_cases hj : j < n ∧ 0 < D j
      · rw [if_pos hj, if_pos ⟨by omega, hj.2⟩]
      · rw [if_neg hj, if_neg]
        intro h
        refine hj ⟨?_, h.2⟩
        rcases Nat.lt_or_ge j n with h' | h'
        · exact h'
        · obtain rfl : j = n := by omega
          exact absurd h.2 hp

theorem leaf_blw {D : Nat → Int} {n k : Nat} {f : Nat → It} (h : (fst f k).map Prod.snd = lvs D n) : ∀ j, j < k → Blw n (f j).2 := fun j hj => by
  have hm : (f j).2 ∈ lvs D n := by rw [← h]; exact List.mem_map.2 ⟨f j, (fst_mem _ _ _).2 ⟨j, hj, rfl⟩, rfl⟩
  unfold lvs at hm
  obtain ⟨s, hs, e⟩ := List.mem_map.1 hm
  rw [← e]
  exact ((sy_mem D n s).1 hs).1

/-- The first packages of the last round, as parts in memory. -/
theorem pk_blw {D : Nat → Int} {n i m : Nat} {g : Nat → It} {ys : List Pt} (hD : ∀ j, j < n → 0 ≤ D j ∧ D j ≤ 16777216) (hr : Rw (lvs D n) i ys) (h : (fst g m).map Prod.snd = prs 288 ys) : ∀ j, j < m → Blw n (g j).2 := fun j hj => by
  have hm : (g j).2 ∈ prs 288 ys := by rw [← h]; exact List.mem_map.2 ⟨g j, (fst_mem _ _ _).2 ⟨j, hj, rfl⟩, rfl⟩
  obtain ⟨q, a, b, e, ha, hb⟩ := prs_node hm
  have hS := lvs_sy D n hD
  have hs : ∀ s ∈ sy D n, s < n := fun s hs => ((sy_mem D n s).1 hs).1
  rw [e]
  exact ⟨(Rw.wf hS hr a ha).blw hs, (Rw.wf hS hr b hb).blw hs⟩

set_option maxRecDepth 100000 in
set_option maxHeartbeats 4000000 in
theorem lens_go (ao : Option Addr) (n c m : Nat) (D : Nat → Int) (w : World) (h : Ri w ao n c D) (hk : okc D n = true) (h1 : 1 ≤ m) (h15 : m ≤ 15) (hf : (sy D n).length ≤ 2 ^ m) :
    Calls Try.prog 8 #[.slice ao n c, .int .i64 m] w fun e w' => ∃ B L, e = .returned (.tuple #[.slice (some ⟨B, 0, none⟩) n n, .int .i64 0]) ∧ w'.rowIs B 3 n (fun j => .int .i64 (L j)) ∧ Gd D n m L ∧ w.heap.size ≤ B ∧ Below w.heap.size w w' := by
  have hc := counts_any ao n c D w h
  rw [hk] at hc
  obtain ⟨h288, hD⟩ := (okc_iff D n).1 hk
  have d1 : decide ((m : Int) < 1) = false := by simp; omega
  have d2 : decide ((15 : Int) < (m : Int)) = false := by simp; omega
  have HD : Hid (∀ j, j < n → 0 ≤ D j ∧ D j ≤ 16777216) := hD
  have hcm := coming_any ao n c D w h (by omega)
  clear h hk hD
  go_enter Try.func8, Try.ntmps8
  go_wp2_with fail
  refine hc.mono ?_
  rintro e w1 ⟨rfl, hw⟩
  subst w1
  go_wp2_with fail
  refine hcm.mono ?_
  rintro e w1 ⟨v, f, rfl, ow, hl⟩
  obtain ⟨bo, d, rfl, rp, hbo⟩ := ow.rp
  have hnl : (sy D n).length ≤ n := sy_le D n
  have R1 : Hid (Rp w1 bo (sy D n).length d f) := rp
  have B1 : Hid (Below w.heap.size w w1) := ow.bel
  have HL : Hid ((fst f (sy D n).length).map Prod.snd = lvs D n) := hl
  obtain ⟨N, hN⟩ : ∃ N, N = (sy D n).length := ⟨_, rfl⟩
  rw [← hN] at hf hnl R1 HL ⊢
  have HN : Hid (N = (sy D n).length) := hN
  clear hc hcm ow rp hbo hl hN
  have hp15 := p2_le m 15 h15
  have hp0 := p2 m
  have e15 : (2 : Int) ^ 15 = 32768 := rfl
  have hwr : wrap64 ((2 : Int) ^ m) = 2 ^ m := IntWalk.wrap64_in _ (by omega)
  have hfi : (N : Int) ≤ 2 ^ m := by rw [← p2_nat]; omega
  have q1 : decide (wrap64 ((2 : Int) ^ m) < (N : Int)) = false := by rw [hwr]; simp; omega
  clear hp15 hp0 e15 hwr hfi
  by_cases hN2 : N < 2
  · have d3 : decide ((N : Int) < 2) = true := by simp; omega
    have hoc : ∀ j, ocs f N j = if j < n ∧ 0 < D j then 1 else 0 := fun j => by rw [map_occ, HL.out, lvs_occ]
    have hlen := lengths_any n N d bo f w1 R1.out (by omega) (leaf_blw HL.out) (fun s hs => by rw [hoc]; split <;> omega) (by omega)
    go_wp2_with fail
    refine hlen.mono ?_
    rintro e w2 ⟨B, rfl, hr, hB, hb⟩
    have RES : Hid (w2.rowIs B 3 n (fun j => .int .i64 (ocs f N j)) ∧ w1.heap.size ≤ B ∧ Below w1.heap.size w1 w2) := ⟨hr, hB, hb⟩
    have HOC : Hid (∀ j, ocs f N j = if j < n ∧ 0 < D j then 1 else 0) := hoc
    clear hr hB hb hlen hoc
    go_wp2_with fail
    go_ret2
    refine ⟨B, fun j => (ocs f N j : Int), rfl, RES.out.1, ?_, Nat.le_trans B1.out.size RES.out.2.1, B1.out.trans (RES.out.2.2.mono B1.out.size)⟩
    refine gd_few D n m (by have := HN.out; omega) h1 _ (fun j hj hp => ?_) (fun j hj hp => ?_)
    · rw [HOC.out, if_pos ⟨hj, hp⟩]; rfl
    · rw [HOC.out, if_neg (fun h => hp h.2)]; rfl
  · have d3 : decide ((N : Int) < 2) = false := by simp; omega
    have hpk := packages_any D (sy D n) (lvs D n) (lvs_sy D n HD.out) bo N d m f w1 R1.out HL.out (by omega) (by omega) h15
    go_wp2_with fail
    refine hpk.mono ?_
    rintro e w2 ⟨v2, m2, g2, M2, rfl, ow2, hm2, hk2⟩
    obtain ⟨bo2, d2', rfl, rp2, hbo2⟩ := ow2.rp
    obtain ⟨i, rfl⟩ : ∃ i, m = i + 1 := ⟨m - 1, by omega⟩
    obtain ⟨ys, hrw, hM⟩ := hk2
    rw [hM] at hm2
    have hNe := HN.out
    have pm := pm_main (lvs_sy D n HD.out) hrw (by omega) (by omega)
    have hml : m2 = (prs 288 ys).length := by have := congrArg List.length hm2; simpa [fst] using this
    have hge : N - 1 ≤ m2 := by rw [hml, hNe]; exact pm.2.2.2.2.2
    have hbn : bo2 ≠ none := fun e => by have := (rp2.nul e).1; omega
    have hoc : ∀ j, ocs g2 (N - 1) j = bt ys (sy D n).length j := fun j => by rw [map_occ, fst_take g2 (N - 1) m2 hge, List.map_take, hm2, hNe]; exact pm.2.2.2.2.1 j
    have hbt : ∀ j, bt ys (sy D n).length j ≤ 15 := fun j => by
      by_cases hj : j ∈ sy D n
      · have := (pm.1 j hj).2; omega
      · have := pm.2.1 j hj; omega
    have hlen := lengths_any n (N - 1) d2' bo2 g2 w2 (rp2.front hge hbn) (by omega) (fun j hj => pk_blw HD.out hrw hm2 j (by omega)) (fun s hs => by rw [hoc]; have := hbt s; omega) (by omega)
    have B2 : Hid (Below w.heap.size w w2) := B1.out.trans (ow2.bel.mono B1.out.size)
    have GD : Hid (Gd D n (i + 1) (fun j => (bt ys (sy D n).length j : Int))) := gd_many D n i HD.out ys hrw (by omega) (by omega)
    have HOC : Hid (∀ j, ocs g2 (N - 1) j = bt ys (sy D n).length j) := hoc
    have hN1 : ((N - 1 : Nat) : Int) = (N : Int) - 1 := by omega
    have hle2 := rp2.le
    obtain ⟨A2, o2, rfl, _⟩ := rp2.plain (by omega)
    clear ow2 hm2 hM hNe pm hml hbn hoc hbt hrw rp2 hpk
    go_wp2_with fail
    refine hlen.mono ?_
    rintro e w3 ⟨B, rfl, hr, hB, hb⟩
    have RES : Hid (w3.rowIs B 3 n (fun j => .int .i64 (ocs g2 (N - 1) j)) ∧ w2.heap.size ≤ B ∧ Below w2.heap.size w2 w3) := ⟨hr, hB, hb⟩
    clear hr hB hb hlen
    go_wp2_with fail
    go_ret2
    refine ⟨B, fun j => (bt ys (sy D n).length j : Int), rfl, RES.out.1.congr (fun j _ => by rw [HOC.out]), GD.out, Nat.le_trans B2.out.size RES.out.2.1, B2.out.trans (RES.out.2.2.mono B2.out.size)⟩

set_option maxRecDepth 100000 in
set_option maxHeartbeats 4000000 in
theorem lens_full (ao : Option Addr) (n c m : Nat) (D : Nat → Int) (w : World) (h : Ri w ao n c D) (hk : okc D n = true) (h1 : 1 ≤ m) (h15 : m ≤ 15) (hf : ¬ (sy D n).length ≤ 2 ^ m) :
    Calls Try.prog 8 #[.slice ao n c, .int .i64 m] w fun e w' => e = .returned (.tuple #[.slice none 0 0, .int .i64 7]) ∧ Below w.heap.size w w' := by
  have hc := counts_any ao n c D w h
  rw [hk] at hc
  obtain ⟨h288, hD⟩ := (okc_iff D n).1 hk
  have d1 : decide ((m : Int) < 1) = false := by simp; omega
  have d2 : decide ((15 : Int) < (m : Int)) = false := by simp; omega
  have hcm := coming_any ao n c D w h (by omega)
  clear h hk hD
  go_enter Try.func8, Try.ntmps8
  go_wp2_with fail
  refine hc.mono ?_
  rintro e w1 ⟨rfl, hw⟩
  subst w1
  go_wp2_with fail
  refine hcm.mono ?_
  rintro e w1 ⟨v, f, rfl, ow, hl⟩
  obtain ⟨bo, d, rfl, rp, hbo⟩ := ow.rp
  have hnl : (sy D n).length ≤ n := sy_le D n
  have B1 : Hid (Below w.heap.size w w1) := ow.bel
  obtain ⟨N, hN⟩ : ∃ N, N = (sy D n).length := ⟨_, rfl⟩
  rw [← hN] at hf hnl ⊢
  clear hc hcm ow rp hbo hl hN
  have hp15 := p2_le m 15 h15
  have hp0 := p2 m
  have e15 : (2 : Int) ^ 15 = 32768 := rfl
  have hwr : wrap64 ((2 : Int) ^ m) = 2 ^ m := IntWalk.wrap64_in _ (by omega)
  have hfi : (2 : Int) ^ m < (N : Int) := by rw [← p2_nat]; omega
  have q1 : decide (wrap64 ((2 : Int) ^ m) < (N : Int)) = true := by rw [hwr]; simp; omega
  clear hp15 hp0 e15 hwr hfi hf
  go_wp2_with fail
  go_ret2
  exact ⟨rfl, B1.out⟩

theorem lens_no (ao : Option Addr) (n c : Nat) (D : Nat → Int) (most : Int) (w : World) (h : Ri w ao n c D) (he : lerr D n most ≠ 0) :
    Calls Try.prog 8 #[.slice ao n c, .int .i64 most] w fun e w' => e = .returned (.tuple #[.slice none 0 0, .int .i64 (lerr D n most)]) ∧ Below w.heap.size w w' := by
  unfold lerr at he ⊢
  by_cases ho : okc D n = true ∧ 1 ≤ most ∧ most ≤ 15
  · rw [if_pos ho] at he ⊢
    obtain ⟨m, rfl⟩ : ∃ m : Nat, most = m := ⟨most.toNat, by omega⟩
    rw [Int.toNat_natCast] at he ⊢
    by_cases hf : 2 ^ m < (sy D n).length
    · rw [if_pos hf]
      exact lens_full ao n c m D w h ho.1 (by omega) (by omega) (by omega)
    · rw [if_neg hf] at he
      exact absurd rfl he
  · rw [if_neg ho]
    exact lens_arg ao n c D most w h ho

/-- Where there is no error. -/
theorem lerr_ok {D : Nat → Int} {n : Nat} {most : Int} (h : lerr D n most = 0) : ∃ m : Nat, most = m ∧ okc D n = true ∧ 1 ≤ m ∧ m ≤ 15 ∧ (sy D n).length ≤ 2 ^ m := by
  unfold lerr at h
  by_cases ho : okc D n = true ∧ 1 ≤ most ∧ most ≤ 15
  · rw [if_pos ho] at h
    by_cases hf : 2 ^ most.toNat < (sy D n).length
    · rw [if_pos hf] at h; omega
    · exact ⟨most.toNat, by omega, ho.1, by omega, by omega, by omega⟩
  · rw [if_neg ho] at h; omega

theorem lens_yes (ao : Option Addr) (n c : Nat) (D : Nat → Int) (most : Int) (w : World) (h : Ri w ao n c D) (he : lerr D n most = 0) :
    Calls Try.prog 8 #[.slice ao n c, .int .i64 most] w fun e w' => ∃ B L, e = .returned (.tuple #[.slice (some ⟨B, 0, none⟩) n n, .int .i64 0]) ∧ w'.rowIs B 3 n (fun j => .int .i64 (L j)) ∧ Gd D n most.toNat L ∧ w.heap.size ≤ B ∧ Below w.heap.size w w' := by
  obtain ⟨m, rfl, hk, h1, h15, hf⟩ := lerr_ok he
  rw [Int.toNat_natCast]
  exact lens_go ao n c m D w h hk h1 h15 hf

set_option maxRecDepth 100000 in
set_option maxHeartbeats 1000000 in
theorem least_no (ao : Option Addr) (n c : Nat) (D : Nat → Int) (most : Int) (w : World) (h : Ri w ao n c D) (he : lerr D n most ≠ 0) :
    Calls Try.prog 9 #[.slice ao n c, .int .i64 most] w fun e w' => e = .returned (.tuple #[.int .i64 0, .int .i64 (lerr D n most)]) ∧ Below w.heap.size w w' := by
  have hc := lens_no ao n c D most w h he
  have q1 : (lerr D n most == 0) = false := by simp [he]
  generalize lerr D n most = x at *
  clear he h
  go_enter Try.func9, Try.ntmps9
  go_wp2_with (go_at_call 8; refine hc.mono ?_; rintro e w1 ⟨rfl, hb⟩)
  go_ret2
  exact ⟨rfl, hb⟩

set_option maxRecDepth 100000 in
set_option maxHeartbeats 2000000 in
theorem least_yes (ao : Option Addr) (n c : Nat) (D : Nat → Int) (most : Int) (w : World) (h : Ri w ao n c D) (he : lerr D n most = 0) :
    Calls Try.prog 9 #[.slice ao n c, .int .i64 most] w fun e w' => e = .returned (.tuple #[.int .i64 (lc D n most.toNat), .int .i64 0]) ∧ Below w.heap.size w w' := by
  have hc := lens_yes ao n c D most w h he
  obtain ⟨m, rfl, hk, h1, h15, hf⟩ := lerr_ok he
  rw [Int.toNat_natCast] at hc ⊢
  obtain ⟨h288, hD⟩ := (okc_iff D n).1 hk
  have HR : Hid (Ri w ao n c D) := h
  have HD : Hid (∀ j, j < n → 0 ≤ D j ∧ D j ≤ 16777216) := hD
  clear h he hD hf hk
  go_enter Try.func9, Try.ntmps9
  go_wp2_with fail
  refine hc.mono ?_
  rintro e w1 ⟨B, L, rfl, hr, gd, hB, hb⟩
  have GD : Hid (Gd D n m L) := gd
  have B1 : Hid (Below w.heap.size w w1) := hb
  have RL : Hid (Ri w1 (some ⟨B, 0, none⟩) n n L) := Ri.row hr
  clear hr gd hB hb hc
  go_wp2_with fail
  refine (new_yes _ n n L true w1 RL.out (GD.out.nw h15 h288)).mono ?_
  rintro e w2 ⟨R, K, rfl, cod, hb2⟩
  have B2 : Hid (Below w.heap.size w w2) := B1.out.trans (hb2.mono B1.out.size)
  have CD : Hid (Cod w2 R K L n) := cod
  clear cod hb2 RL B1
  go_wp2_with fail
  refine (cost_any R K L D n ao c w2 CD.out (HR.out.keep B2.out) HD.out).mono ?_
  rintro e w3 ⟨rfl, hw⟩
  subst hw
  rw [GD.out.cost]
  go_wp2_with fail
  go_ret2
  exact ⟨rfl, B2.out.drew⟩

end Go.Proofs.Ytkclaikofdolmaa
