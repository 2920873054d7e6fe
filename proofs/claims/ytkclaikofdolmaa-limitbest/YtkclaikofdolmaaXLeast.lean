/- The document's Check, some, Plain of few symbols, Least. -/
import Derived.Test.YtkclaikofdolmaaXPut
namespace Go.Proofs.Ytkclaikofdolmaa
open Go.RowKit

/-- The error of counts. -/
def cerr (D : Nat → Int) (n : Nat) : Int := if okc D n = true then 0 else 1

theorem cerr_bad (D : Nat → Int) (n : Nat) (h : 288 < n ∨ ¬ ∀ j, j < n → Cm (D j)) : cerr D n = 1 := by
  unfold cerr
  rw [if_neg]
  intro hk
  have := (okc_iff D n).1 hk
  rcases h with h | h
  · omega
  · exact h this.2

set_option maxHeartbeats 1000000 in
theorem xchk_any (ao : Option Addr) (n c : Nat) (D : Nat → Int) (w : World) (h : Ri w ao n c D) :
    Calls Try.prog 15 #[.slice ao n c] w fun e w' => e = .returned (.int .i64 (cerr D n)) ∧ w' = w := by
  by_cases h288 : 288 < n
  · have hd : decide ((288 : Int) < (n : Int)) = true := by simp; omega
    rw [cerr_bad D n (.inl h288)]
    clear h288 h
    go_enter Try.func15, Try.ntmps15
    go_wp2
    go_ret
    exact ⟨rfl, rfl⟩
  · have hd : decide ((288 : Int) < (n : Int)) = false := by simp; omega
    have hn : n ≤ 288 := by omega
    clear h288
    go_enter Try.func15, Try.ntmps15
    go_wp2
    go_loop [3] (fun i => ∃ k : Nat, k ≤ n ∧ i = .int .i64 k ∧ ∀ j, j < k → Cm (D j)) (fun i => n - (intOf i).toNat)
    case atStart => exact ⟨0, by omega, rfl, fun j hj => by omega⟩
    case round =>
      obtain ⟨k, hk, rfl, hall⟩ := hrel
      by_cases hlt : k < n
      · obtain ⟨b, off, rfl, hcell⟩ := h.plain (by omega)
        have hck := hcell k hlt
        clear hcell h hd
        by_cases hL : Cm (D k)
        · have HA : Hid (∀ j, j < k + 1 → Cm (D j)) := fun j hj => by
            rcases Nat.lt_or_ge j k with h' | h'
            · exact hall j h'
            · obtain rfl : j = k := by omega
              exact hL
          have d1 : decide (D k < 0) = false := by have := hL.1; simp; omega
          have d2 : decide (16777216 < D k) = false := by have := hL.2; simp; omega
          clear hall hL
          go_wp2
          go_round
          case rel => exact ⟨k + 1, by omega, by go_num, HA.out⟩
          case measure => simp [intOf]; omega
        · have HE : Hid (cerr D n = 1) := cerr_bad D n (.inr (fun h' => hL (h' k hlt)))
          by_cases hneg : D k < 0
          · have d1 : decide (D k < 0) = true := by simp; omega
            clear hL hneg hall
            go_wp2
            go_ret
            exact ⟨by rw [HE.out] <;> rfl, rfl⟩
          · have d1 : decide (D k < 0) = false := by simp; omega
            have d2 : decide (16777216 < D k) = true := by unfold Cm at hL; simp; omega
            clear hL hneg hall
            go_wp2
            go_ret
            exact ⟨by rw [HE.out] <;> rfl, rfl⟩
      · obtain rfl : k = n := by omega
        have HE : Hid (cerr D k = 0) := by show _ = _; unfold cerr; rw [if_pos ((okc_iff D k).2 ⟨hn, hall⟩)]
        clear h hd hall
        go_wp2
        go_ret
        exact ⟨by rw [HE.out] <;> rfl, rfl⟩

theorem hid {p : Prop} (h : p) : Hid p := h

theorem Ol.nil (w : World) : Ol w w (.slice none 0 0) [] := ⟨World.ownsRow_nil _ _ _ _, Below.refl _ _⟩

theorem Ol.later {w w1 w2 : World} {v : Value} {xs : List Int} (hb : Below w.heap.size w w1) (h : Ol w1 w2 v xs) : Ol w w2 v xs := by
  refine ⟨⟨h.own.1, ?_⟩, hb.trans (h.bel.mono hb.size)⟩
  rcases h.own.2 with h' | ⟨g, cap, cur, e, hg, hrest⟩
  · exact .inl h'
  · exact .inr ⟨g, cap, cur, e, Nat.le_trans hb.size hg, hrest⟩

set_option maxRecDepth 100000 in
set_option maxHeartbeats 1000000 in
theorem xsome_any (ao : Option Addr) (n c : Nat) (D : Nat → Int) (w : World) (h : Ri w ao n c D) (hn : n ≤ 300) :
    Calls Try.prog 29 #[.slice ao n c] w fun e w' => ∃ v, e = .returned v ∧ Ol w w' v (so D n) := by
  have HR : Hid (Ri w ao n c D) := h
  clear h
  go_enter Try.func29, Try.ntmps29
  go_wp2
  go_loopw [3, 4] (fun ov iv wr => ∃ k : Nat, iv = .int .i64 k ∧ k ≤ n ∧ Hid (Ol w wr ov (so D k))) (fun _ iv _ => n - (intOf iv).toNat)
  case atStart => exact ⟨0, rfl, by omega, Ol.nil w⟩
  case round =>
    obtain ⟨k, rfl, hk, HO⟩ := hrel
    by_cases hlt : k < n
    · obtain ⟨b, off, rfl, hcell⟩ := (HR.out.keep HO.out.bel).plain (by omega)
      have ck := hcell k hlt
      clear hcell
      by_cases hp : 0 < D k
      · have d1 : decide (0 < D k) = true := by simp [hp]
        obtain ⟨oo, oc, hv, ro⟩ := HO.out.ri
        subst hv
        have hl : (so D k).length ≤ 300 := by rw [so_len]; have := sy_le D k; omega
        have hput := xput_any oo oc (so D k) (D k) wr ro (by omega)
        have HE : Hid (so D (k + 1) = ins (so D k) (D k)) := by show _ = _; simp only [so]; rw [if_pos hp]
        clear ro hp
        go_wp2_with fail
        refine hput.mono ?_
        rintro e w2 ⟨v2, rfl, o2⟩
        have O2 : Hid (Ol w w2 v2 (so D (k + 1))) := by rw [HE.out]; exact o2.later HO.out.bel
        clear o2 hput HO HE ck
        go_wp2_with fail
        go_roundw
        case rel => exact ⟨k + 1, by go_num, by omega, O2⟩
        case measure => simp [intOf]; omega
      · have d1 : decide (0 < D k) = false := by simp; omega
        have HE : Hid (so D (k + 1) = so D k) := by show _ = _; simp only [so]; rw [if_neg hp]
        have O2 : Hid (Ol w wr u3 (so D (k + 1))) := by rw [HE.out]; exact HO.out
        clear hp HO HE
        go_wp2
        go_roundw
        case rel => exact ⟨k + 1, by go_num, by omega, O2⟩
        case measure => simp [intOf]; omega
    · obtain rfl : k = n := by omega
      go_wp2
      go_ret
      exact ⟨_, rfl, HO.out⟩

set_option maxRecDepth 100000 in
set_option maxHeartbeats 1000000 in
theorem xplain_few (ao : Option Addr) (n c : Nat) (D : Nat → Int) (w : World) (h : Ri w ao n c D) (hn : n ≤ 300) (h2 : (so D n).length < 2) :
    Calls Try.prog 16 #[.slice ao n c] w fun e w' => e = .returned (.int .i64 ((so D n).headD 0)) ∧ Below w.heap.size w w' := by
  have hc := xsome_any ao n c D w h hn
  clear h
  generalize so D n = xs at *
  match xs, h2 with
  | [], _ =>
    go_enter Try.func16, Try.ntmps16
    go_wp2_with fail
    refine hc.mono ?_
    rintro e w1 ⟨v, rfl, ol⟩
    obtain ⟨oo, oc, rfl, ro⟩ := ol.ri
    have B1 : Hid (Below w.heap.size w w1) := ol.bel
    clear ol ro hc
    go_wp2
    go_loop [3, 4, 5] (fun lv' cv _ => lv' = .slice oo 0 oc ∧ cv = .int .i64 0) (fun _ _ _ => 0)
    case atStart => exact ⟨rfl, rfl⟩
    case round =>
      obtain ⟨rfl, rfl⟩ := hrel
      go_wp2
      go_ret
      exact ⟨rfl, B1.out⟩
  | [x], _ =>
    go_enter Try.func16, Try.ntmps16
    go_wp2_with fail
    refine hc.mono ?_
    rintro e w1 ⟨v, rfl, ol⟩
    obtain ⟨oo, oc, rfl, ro⟩ := ol.ri
    have B1 : Hid (Below w.heap.size w w1) := ol.bel
    obtain ⟨b, off, rfl, hcell⟩ := ro.plain (by simp)
    have c0 : w1.cell? ⟨b, off, none⟩ = some (.int .i64 x) := hcell 0 (by simp)
    clear ol ro hc hcell
    go_wp2
    go_ret
    exact ⟨rfl, B1.out⟩

theorem ps_len2 : ∀ q : List Int, (ps q).length + 1 = (q.length + 1 + 1) / 2
  | [] => rfl
  | [_] => by simp [ps]
  | a :: b :: q => by have := ps_len2 q; simp only [ps, List.length_cons]; omega

theorem ps_len (q : List Int) : (ps q).length = q.length / 2 := by have := ps_len2 q; omega

theorem ps_get (r : List Int) (t : Nat) (h : t < r.length / 2) : gl (ps r) t = gl r (2 * t) + gl r (2 * t + 1) := by
  induction t generalizing r with
  | zero =>
    match r, h with
    | a :: b :: q, _ => rfl
    | [], h => simp at h
    | [_], h => simp at h
  | succ t ih =>
    match r, h with
    | a :: b :: q, h =>
      have := ih q (by simp only [List.length_cons] at h; omega)
      rw [show 2 * (t + 1) = 2 * t + 1 + 1 by omega]
      simpa [gl, ps] using this
    | [], h => simp at h
    | [_], h => simp at h

theorem take_gl (r : List Int) (t : Nat) (h : t < r.length) : r.take (t + 1) = r.take t ++ [gl r t] := by
  rw [List.take_add_one]
  congr 1
  simp [gl, List.getD, h]

/-- The row that is being made: so many sums put in. -/
def nx (l r : List Int) (t : Nat) : List Int := ((ps r).take t).foldl ins l

theorem nx_succ (l r : List Int) (t : Nat) (h : t < r.length / 2) : nx l r (t + 1) = ins (nx l r t) (gl r (2 * t) + gl r (2 * t + 1)) := by
  unfold nx
  rw [take_gl _ _ (by rw [ps_len]; omega), List.foldl_append, ps_get r t h]
  rfl

theorem nx_len (l r : List Int) (t : Nat) (h : t ≤ r.length / 2) : (nx l r t).length = l.length + t := by
  have := (insAll_perm ((ps r).take t) l).length_eq
  unfold nx
  rw [this, List.length_append, List.length_take, ps_len]
  omega

theorem nx_all (l r : List Int) : nx l r (r.length / 2) = (ps r).foldl ins l := by
  unfold nx
  rw [List.take_of_length_le (by rw [ps_len]; omega)]

theorem RR_len (l : List Int) (i : Nat) : (RR l i).length ≤ 2 * l.length := by
  induction i with
  | zero => simp [RR]
  | succ i ih =>
    simp only [RR]
    rw [(insAll_perm _ _).length_eq, List.length_append, ps_len]
    omega

theorem ps_mem {r : List Int} {x : Int} (h : x ∈ ps r) : ∃ a b, a ∈ r ∧ b ∈ r ∧ x = a + b := by
  match r with
  | [] => simp [ps] at h
  | [_] => simp [ps] at h
  | a :: b :: q =>
    simp only [ps, List.mem_cons] at h
    rcases h with rfl | h
    · exact ⟨a, b, by simp, by simp, rfl⟩
    · obtain ⟨c, d, hc, hd, e⟩ := ps_mem h
      exact ⟨c, d, by simp [hc], by simp [hd], e⟩

theorem RR_bound (l : List Int) (hl : ∀ x ∈ l, 0 ≤ x ∧ x ≤ 16777216) (i : Nat) : ∀ x ∈ RR l i, 0 ≤ x ∧ x ≤ 2 ^ i * 16777216 := by
  induction i with
  | zero => intro x hx; simp [RR] at hx
  | succ i ih =>
    intro x hx
    have e := Int.pow_succ (2 : Int) i
    have hp := p2 i
    simp only [RR] at hx
    rcases List.mem_append.1 ((insAll_perm _ _).mem_iff.1 hx) with h' | h'
    · have := hl x h'
      omega
    · obtain ⟨a, b, ha, hb, rfl⟩ := ps_mem h'
      have h1 := ih a ha
      have h2 := ih b hb
      omega

theorem so_bound (D : Nat → Int) (n : Nat) (hD : ∀ j, j < n → 0 ≤ D j ∧ D j ≤ 16777216) : ∀ x ∈ so D n, 0 ≤ x ∧ x ≤ 16777216 := by
  intro x hx
  obtain ⟨s, hs, rfl⟩ := List.mem_map.1 ((so_perm D n).mem_iff.1 hx)
  exact hD s ((sy_mem D n s).1 hs).1

theorem gl_mem (r : List Int) (j : Nat) (h : j < r.length) : gl r j ∈ r := by
  unfold gl
  rw [List.getD_eq_getElem?_getD, List.getElem?_eq_getElem h]
  exact List.getElem_mem h

theorem RR_gl (l : List Int) (hl : ∀ x ∈ l, 0 ≤ x ∧ x ≤ 16777216) (i : Nat) (hi : i ≤ 15) (j : Nat) (hj : j < (RR l i).length) : 0 ≤ gl (RR l i) j ∧ gl (RR l i) j ≤ 1000000000000 := by
  have h1 := RR_bound l hl i _ (gl_mem _ j hj)
  have h2 := p2_le i 15 hi
  have h3 : (2 : Int) ^ 15 = 32768 := rfl
  omega

theorem sum_bound (r : List Int) (h : ∀ j, j < r.length → 0 ≤ gl r j ∧ gl r j ≤ 1000000000000) (k : Nat) (hk : k ≤ r.length) : 0 ≤ sm id (r.take k) ∧ sm id (r.take k) ≤ 1000000000000 * k := by
  induction k with
  | zero => simp [sm]
  | succ k ih =>
    have := ih (by omega)
    have h1 := h k (by omega)
    rw [take_gl r k (by omega), sm_append]
    simp only [sm, id]
    omega

theorem xl_arg (ao : Option Addr) (n c : Nat) (D : Nat → Int) (most : Int) (w : World) (h : Ri w ao n c D) (he : ¬ (okc D n = true ∧ 1 ≤ most ∧ most ≤ 15)) :
    Calls Try.prog 10 #[.slice ao n c, .int .i64 most] w fun e w' => e = .returned (.tuple #[.int .i64 0, .int .i64 1]) ∧ Below w.heap.size w w' := by
  have hc := xchk_any ao n c D w h
  by_cases hk : okc D n = true
  · have e0 : cerr D n = 0 := by unfold cerr; rw [if_pos hk]
    rw [e0] at hc
    by_cases h1 : most < 1
    · have d1 : decide (most < 1) = true := by simp [h1]
      clear h he hk h1 e0
      go_enter Try.func10, Try.ntmps10
      go_wp2_with (go_at_call 15; refine hc.mono ?_; rintro e w1 ⟨rfl, hw⟩; subst w1)
      go_ret2
      exact ⟨rfl, Below.refl _ _⟩
    · have d1 : decide (most < 1) = false := by simp; omega
      have d2 : decide (15 < most) = true := by
        simp
        by_cases h2 : most ≤ 15
        · exact absurd ⟨hk, by omega, h2⟩ he
        · omega
      clear h he hk h1 e0
      go_enter Try.func10, Try.ntmps10
      go_wp2_with (go_at_call 15; refine hc.mono ?_; rintro e w1 ⟨rfl, hw⟩; subst w1)
      go_ret2
      exact ⟨rfl, Below.refl _ _⟩
  · have e0 : cerr D n = 1 := by unfold cerr; rw [if_neg hk]
    rw [e0] at hc
    clear h he hk e0
    go_enter Try.func10, Try.ntmps10
    go_wp2_with (go_at_call 15; refine hc.mono ?_; rintro e w1 ⟨rfl, hw⟩; subst w1)
    go_ret2
    exact ⟨rfl, Below.refl _ _⟩

end Go.Proofs.Ytkclaikofdolmaa
