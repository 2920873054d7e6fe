/- Plain; its tree, reckoned. -/
import Derived.Test.YtkclaikofdolmaaWLengths
namespace Go.Proofs.Ytkclaikofdolmaa
open Go.RowKit

theorem HR.blw {n : Nat} {p : Int} {q ps : List Pt} (h : HR p q ps) (hq : ∀ t ∈ q, Blw n t) : ∀ t ∈ ps, Blw n t := by
  induction h with
  | done p q _ => intro t ht; simp at ht
  | step p q x y r ps h1 _ _ _ ih =>
    have hx := hq x (h1.mem_iff.1 (by simp))
    have hy := hq y (h1.mem_iff.1 (by simp))
    intro t ht
    rcases List.mem_cons.1 ht with rfl | ht
    · exact ⟨hx, hy⟩
    · refine ih (fun z hz => ?_) t ht
      rcases List.mem_append.1 hz with h' | h'
      · exact hq z (h1.mem_iff.1 (by simp [h']))
      · rw [List.mem_singleton] at h'
        subst h'
        exact ⟨hx, hy⟩

theorem HR.occ {p : Int} {q ps : List Pt} (h : HR p q ps) (s : Nat) (hq : sn (fun t => t.occ s) q ≤ 1) : sn (fun t => t.occ s) ps ≤ ps.length := by
  induction h with
  | done p q _ => simp [sn]
  | step p q x y r ps h1 _ _ _ ih =>
    have e1 := sn_perm (fun t => t.occ s) h1
    simp only [sn] at e1
    have e2 : sn (fun t => t.occ s) (r ++ [.node (x.ct + y.ct) p x y]) ≤ 1 := by
      rw [sn_append]
      have : sn (fun t => t.occ s) [Pt.node (x.ct + y.ct) p x y] = x.occ s + y.occ s := by simp [sn, Pt.occ]
      omega
    have e3 := ih e2
    have e4 : (Pt.node (x.ct + y.ct) p x y).occ s = x.occ s + y.occ s := rfl
    simp only [sn, List.length_cons]
    rw [e4]
    omega

/-- Whether counts and places are in order. -/
def pleb (a b : Pt) : Bool := decide (a.ct < b.ct) || (decide (a.ct = b.ct) && decide (a.pl ≤ b.pl))

theorem pleb_iff (a b : Pt) : pleb a b = true ↔ Ple a b := by
  unfold pleb Ple
  simp

/-- A part put among others in order. -/
def pins (x : Pt) : List Pt → List Pt
  | [] => [x]
  | a :: l => if pleb a x = true then a :: pins x l else x :: a :: l

theorem pins_perm (x : Pt) (l : List Pt) : (pins x l).Perm (x :: l) := by
  induction l with
  | nil => exact List.Perm.refl _
  | cons a l ih =>
    simp only [pins]
    split
    · exact (ih.cons a).trans (List.Perm.swap x a l)
    · exact List.Perm.refl _

theorem pins_srt (x : Pt) (l : List Pt) (h : l.Pairwise Ple) : (pins x l).Pairwise Ple := by
  induction l with
  | nil => simp [pins]
  | cons a l ih =>
    obtain ⟨h1, h2⟩ := List.pairwise_cons.1 h
    simp only [pins]
    split
    · rename_i hle
      refine List.pairwise_cons.2 ⟨fun b hb => ?_, ih h2⟩
      rcases List.mem_cons.1 ((pins_perm x l).mem_iff.1 hb) with rfl | hb
      · exact (pleb_iff _ _).1 hle
      · exact h1 b hb
    · rename_i hle
      have hxa : Ple x a := (Ple.total x a).resolve_right (fun h' => hle ((pleb_iff _ _).2 h'))
      refine List.pairwise_cons.2 ⟨fun b hb => ?_, h⟩
      rcases List.mem_cons.1 hb with rfl | hb
      · exact hxa
      · exact hxa.trans (h1 b hb)

/-- The inner parts of the tree, reckoned over a list in order. -/
def hrf : Nat → Int → List Pt → List Pt
  | 0, _, _ => []
  | k + 1, p, a :: b :: r => .node (a.ct + b.ct) p a b :: hrf k (p + 1) (pins (.node (a.ct + b.ct) p a b) r)
  | _ + 1, _, _ => []

theorem pins_nodup (x : Pt) (l : List Pt) (h : (l.map Pt.pl).Nodup) (hx : ∀ t ∈ l, t.pl ≠ x.pl) : ((pins x l).map Pt.pl).Nodup := by
  refine ((pins_perm x l).map Pt.pl).nodup_iff.2 ?_
  rw [List.map_cons, List.nodup_cons]
  refine ⟨fun hm => ?_, h⟩
  obtain ⟨t, ht, e⟩ := List.mem_map.1 hm
  exact hx t ht e

theorem pl_inj {l : List Pt} (h : (l.map Pt.pl).Nodup) {a b : Pt} (ha : a ∈ l) (hb : b ∈ l) (e : a.pl = b.pl) : a = b := by
  induction l with
  | nil => simp at ha
  | cons x l ih =>
    rw [List.map_cons, List.nodup_cons] at h
    rcases List.mem_cons.1 ha with rfl | ha'
    · rcases List.mem_cons.1 hb with rfl | hb'
      · rfl
      · exact absurd (List.mem_map.2 ⟨b, hb', e.symm⟩) h.1
    · rcases List.mem_cons.1 hb with rfl | hb'
      · exact absurd (List.mem_map.2 ⟨a, ha', e⟩) h.1
      · exact ih h.2 ha' hb'

theorem psort (l : List Pt) : ∃ l' : List Pt, l'.Perm l ∧ l'.Pairwise Ple := by
  induction l with
  | nil => exact ⟨[], List.Perm.refl _, List.Pairwise.nil⟩
  | cons x l ih =>
    obtain ⟨l', h1, h2⟩ := ih
    exact ⟨pins x l', (pins_perm x l').trans (h1.cons x), pins_srt x l' h2⟩

theorem HR.det {p : Int} {q ps : List Pt} (h : HR p q ps) : ∀ (k : Nat) (l : List Pt), l.Perm q → l.Pairwise Ple → (l.map Pt.pl).Nodup → (∀ t ∈ l, t.pl < p) → l.length ≤ k → ps = hrf k p l := by
  induction h with
  | done p q hq =>
    intro k l hl _ _ _ _
    have h1 := hl.length_eq
    match k, l, h1 with
    | 0, _, _ => rfl
    | k + 1, [], _ => rfl
    | k + 1, [_], _ => rfl
    | k + 1, a :: b :: r, h1 => simp at h1; omega
  | step p q x y r ps h1 h2 h3 _ ih =>
    intro k l hl hs hn hp hk
    obtain ⟨r', hr1, hr2⟩ := psort r
    have hperm : (x :: y :: r').Perm l := ((hr1.cons y).cons x).trans (h1.trans hl.symm)
    have hsr : (x :: y :: r').Pairwise Ple := by
      refine List.pairwise_cons.2 ⟨fun b hb => ?_, List.pairwise_cons.2 ⟨fun b hb => h3 b (hr1.mem_iff.1 hb), hr2⟩⟩
      rcases List.mem_cons.1 hb with rfl | hb
      · exact h2
      · exact h2.trans (h3 b (hr1.mem_iff.1 hb))
    have e : x :: y :: r' = l := List.Perm.eq_of_pairwise (le := Ple) (fun a b ha hb hab hba => pl_inj hn (hperm.mem_iff.1 ha) hb (by unfold Ple at hab hba; omega)) hsr hs hperm
    subst e
    match k, hk with
    | k + 1, hk =>
      simp only [hrf]
      congr 1
      refine ih k _ ?_ ?_ ?_ ?_ ?_
      · refine (pins_perm _ _).trans ((hr1.cons _).trans ?_)
        exact List.perm_append_comm (l₁ := [Pt.node (x.ct + y.ct) p x y])
      · exact pins_srt _ _ hr2
      · rw [List.map_cons, List.nodup_cons, List.map_cons, List.nodup_cons] at hn
        refine pins_nodup _ _ hn.2.2 (fun t ht e => ?_)
        have := hp t (by simp [ht])
        have e' : t.pl = p := e
        omega
      · intro t ht
        rcases List.mem_cons.1 ((pins_perm _ _).mem_iff.1 ht) with rfl | ht
        · show p < p + 1
          omega
        · have := hp t (by simp [ht]); omega
      · have h5 := (pins_perm (.node (x.ct + y.ct) p x y) r').length_eq
        simp only [List.length_cons] at h5 hk
        omega

/-- What Plain answers of counts. -/
def Pg (D : Nat → Int) (n : Nat) (L : Nat → Int) : Prop :=
  ((sy D n).length < 2 ∧ ∀ j, j < n → L j = if 0 < D j then 1 else 0) ∨ (2 ≤ (sy D n).length ∧ ∃ ps, HR 288 (lvs D n) ps ∧ ∀ j, j < n → L j = (sn (fun t => t.occ j) ps : Int))

theorem lvs_nn (D : Nat → Int) (n : Nat) (hD : ∀ j, j < n → 0 ≤ D j ∧ D j ≤ 16777216) : (∀ t ∈ lvs D n, 0 ≤ t.ct) ∧ sm Pt.ct (lvs D n) ≤ 16777216 * n := by
  refine ⟨fun t ht => ?_, ?_⟩
  · unfold lvs at ht
    obtain ⟨s, hs, rfl⟩ := List.mem_map.1 ht
    have := (sy_mem D n s).1 hs
    exact (hD s this.1).1
  · have e : sm Pt.ct (lvs D n) = sm D (sy D n) := by unfold lvs; rw [sm_map]; rfl
    rw [e]
    have h1 := sm_mono (f := D) (g := fun _ => (16777216 : Int)) (l := sy D n) (fun s hs => (hD s ((sy_mem D n s).1 hs).1).2)
    rw [sm_const] at h1
    have h2 := sy_le D n
    omega

set_option maxRecDepth 100000 in
set_option maxHeartbeats 4000000 in
theorem plain_go (ao : Option Addr) (n c : Nat) (D : Nat → Int) (w : World) (h : Ri w ao n c D) (hk : okc D n = true) :
    Calls Try.prog 14 #[.slice ao n c] w fun e w' => ∃ B L, e = .returned (.tuple #[.slice (some ⟨B, 0, none⟩) n n, .int .i64 0]) ∧ w'.rowIs B 3 n (fun j => .int .i64 (L j)) ∧ Pg D n L ∧ w.heap.size ≤ B ∧ Below w.heap.size w w' := by
  have hc := counts_any ao n c D w h
  rw [hk] at hc
  obtain ⟨h288, hD⟩ := (okc_iff D n).1 hk
  have HD : Hid (∀ j, j < n → 0 ≤ D j ∧ D j ≤ 16777216) := hD
  have hcm := coming_any ao n c D w h (by omega)
  clear h hk hD
  go_enter Try.func14, Try.ntmps14
  go_wp2_with fail
  refine hc.mono ?_
  rintro e w1 ⟨rfl, hw⟩
  subst w1
  go_wp2_with fail
  refine hcm.mono ?_
  rintro e w1 ⟨v, f, rfl, ow, hl⟩
  obtain ⟨bo, d, rfl, rp, hbo⟩ := ow.rp
  have hnl : (sy D n).length ≤ n := sy_le D n
  have R1 : Hid (Rp w1 bo (sy D n).length d f) := rp
  have B1 : Hid (Below w.heap.size w w1) := ow.bel
  have HL : Hid ((fst f (sy D n).length).map Prod.snd = lvs D n) := hl
  obtain ⟨N, hN⟩ : ∃ N, N = (sy D n).length := ⟨_, rfl⟩
  rw [← hN] at hnl R1 HL ⊢
  have HN : Hid (N = (sy D n).length) := hN
  clear hc hcm ow rp hbo hl hN
  by_cases hN2 : N < 2
  · have d3 : decide ((N : Int) < 2) = true := by simp; omega
    have hoc : ∀ j, ocs f N j = if j < n ∧ 0 < D j then 1 else 0 := fun j => by rw [map_occ, HL.out, lvs_occ]
    have hlen := lengths_any n N d bo f w1 R1.out (by omega) (leaf_blw HL.out) (fun s hs => by rw [hoc]; split <;> omega) (by omega)
    go_wp2_with fail
    refine hlen.mono ?_
    rintro e w2 ⟨B, rfl, hr, hB, hb⟩
    have RES : Hid (w2.rowIs B 3 n (fun j => .int .i64 (ocs f N j)) ∧ w1.heap.size ≤ B ∧ Below w1.heap.size w1 w2) := ⟨hr, hB, hb⟩
    have HOC : Hid (∀ j, ocs f N j = if j < n ∧ 0 < D j then 1 else 0) := hoc
    clear hr hB hb hlen hoc
    go_wp2_with fail
    go_ret2
    refine ⟨B, fun j => (ocs f N j : Int), rfl, RES.out.1, .inl ⟨by have := HN.out; omega, fun j hj => ?_⟩, Nat.le_trans B1.out.size RES.out.2.1, B1.out.trans (RES.out.2.2.mono B1.out.size)⟩
    show ((ocs f N j : Nat) : Int) = _
    rw [HOC.out]
    by_cases hp : 0 < D j
    · rw [if_pos ⟨hj, hp⟩, if_pos hp]; rfl
    · rw [if_neg (fun h => hp h.2), if_neg hp]; rfl
  · have d3 : decide ((N : Int) < 2) = false := by simp; omega
    have hnn := lvs_nn D n HD.out
    have htr := tree_any (lvs D n) bo N d f w1 R1.out HL.out (by omega) (by omega) hnn.1 (by have := hnn.2; omega)
    clear hnn
    go_wp2_with fail
    refine htr.mono ?_
    rintro e w2 ⟨v2, m2, g2, rfl, ow2, hr2, hm2⟩
    obtain ⟨bo2, d2', rfl, rp2, hbo2⟩ := ow2.rp
    have hblw : ∀ t ∈ (fst g2 m2).map Prod.snd, Blw n t := hr2.blw (fun t ht => by
      rw [← HL.out] at ht
      obtain ⟨x, hx, rfl⟩ := List.mem_map.1 ht
      obtain ⟨j, hj, rfl⟩ := (fst_mem _ _ _).1 hx
      exact leaf_blw HL.out j hj)
    have hocc : ∀ s, ocs g2 m2 s ≤ 1000000 := fun s => by
      have h1 := hr2.occ s (by rw [lvs_occ]; split <;> omega)
      rw [map_occ]
      simp [fst] at h1 ⊢
      omega
    have hlen := lengths_any n m2 d2' bo2 g2 w2 rp2 (by omega) (fun j hj => hblw _ (List.mem_map.2 ⟨g2 j, (fst_mem _ _ _).2 ⟨j, hj, rfl⟩, rfl⟩)) (fun s _ => hocc s) (by omega)
    have B2 : Hid (Below w.heap.size w w2) := B1.out.trans (ow2.bel.mono B1.out.size)
    have H2 : Hid (HR 288 (lvs D n) ((fst g2 m2).map Prod.snd)) := hr2
    clear ow2 rp2 hblw hocc hr2 hbo2 htr
    go_wp2_with fail
    refine hlen.mono ?_
    rintro e w3 ⟨B, rfl, hr, hB, hb⟩
    have RES : Hid (w3.rowIs B 3 n (fun j => .int .i64 (ocs g2 m2 j)) ∧ w2.heap.size ≤ B ∧ Below w2.heap.size w2 w3) := ⟨hr, hB, hb⟩
    clear hr hB hb hlen
    go_wp2_with fail
    go_ret2
    exact ⟨B, fun j => (ocs g2 m2 j : Int), rfl, RES.out.1, .inr ⟨by have := HN.out; omega, _, H2.out, fun j _ => by show ((ocs g2 m2 j : Nat) : Int) = _; rw [map_occ]⟩, Nat.le_trans B2.out.size RES.out.2.1, B2.out.trans (RES.out.2.2.mono B2.out.size)⟩

end Go.Proofs.Ytkclaikofdolmaa
