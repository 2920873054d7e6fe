/- Packages: how many there are, what they cost, that they are a whole code; a wider bound. -/
import Derived.Test.YtkclaikofdolmaaPm
namespace Go.Proofs.Ytkclaikofdolmaa
open Go.RowKit

theorem Rw.sorted {S : List Pt} {i : Nat} {ys : List Pt} (h : Rw S i ys) : ys.Pairwise Ple := by cases h <;> assumption

theorem Rw.len {S : List Pt} {i : Nat} {ys : List Pt} (h : Rw S i ys) (hn : 0 < S.length) : ys.length < 2 * S.length ∧ (2 * S.length - ys.length - 1) * 2 ^ i < S.length := by
  induction h with
  | base ys hp _ => have := hp.length_eq; simp; omega
  | step i ys zs _ hp _ ih =>
    have h1 := hp.length_eq
    rw [List.length_append, prs_len] at h1
    refine ⟨by omega, ?_⟩
    have h2 : 2 * (2 * S.length - zs.length - 1) ≤ 2 * S.length - ys.length - 1 := by omega
    have h3 := Nat.mul_le_mul_right (2 ^ i) h2
    have h4 : (2 * S.length - zs.length - 1) * 2 ^ (i + 1) = 2 * (2 * S.length - zs.length - 1) * 2 ^ i := by rw [Nat.pow_succ, Nat.mul_comm (2 ^ i) 2, ← Nat.mul_assoc, Nat.mul_comm _ 2]
    omega

theorem Rw.enough {S : List Pt} {i : Nat} {ys : List Pt} (h : Rw S i ys) (hn : 0 < S.length) (hm : S.length ≤ 2 ^ (i + 1)) : 2 * S.length - 2 ≤ ys.length := by
  obtain ⟨h1, h2⟩ := h.len hn
  have h3 : (2 * S.length - ys.length - 1) * 2 ^ i < 2 * 2 ^ i := by rw [Nat.pow_succ] at hm; omega
  have h4 := Nat.lt_of_mul_lt_mul_right h3
  omega

theorem prs_even (p : Int) (l : List Pt) (h : l.length % 2 = 0) : (prs p l).flatMap Pt.ch = l := by
  obtain ⟨z, hz⟩ := prs_ch p l
  have h1 : ((prs p l).flatMap Pt.ch).length = 2 * (prs p l).length := by
    clear hz h
    fun_induction prs p l with
    | case1 p a b r ih => simp only [List.flatMap_cons, Pt.ch, List.length_append, List.length_cons, ih, List.length_nil]; omega
    | case2 p l hne => rfl
  have h2 := congrArg List.length hz
  rw [List.length_append, h1, prs_len] at h2
  have h3 : z = [] := List.eq_nil_of_length_eq_zero (by omega)
  rw [h3, List.append_nil] at hz
  exact hz.symm

theorem prs_occ (p : Int) (l : List Pt) (s : Nat) : sn (fun t => t.occ s) (prs p l) = sn (fun t => t.occ s) ((prs p l).flatMap Pt.ch) := by
  rw [occ_flat]
  have h7 : sn (fun t => t.lf s) (prs p l) = 0 := by
    by_cases h0 : sn (fun t => t.lf s) (prs p l) = 0
    · exact h0
    · obtain ⟨t, ht, hf⟩ := sn_pos h0
      obtain ⟨q, a, b, rfl, _, _⟩ := prs_node ht
      exact absurd rfl hf
  omega

theorem take_dc {ys : List Pt} (h : ys.Pairwise Ple) (k : Nat) : Dc (ys.take k) ys := by
  intro y hy x hx hlt
  rw [← List.take_append_drop k ys] at hy h
  rcases List.mem_append.1 hy with h' | h'
  · exact h'
  · have := ((List.pairwise_append.1 h).2.2 x hx y h').ct
    omega

/-- What the first of the last row hold of a symbol. -/
def bt (ys : List Pt) (n s : Nat) : Nat := sn (fun t => t.occ s) (ys.take (2 * n - 2))

/-- The first packages of the last round: a whole code of the least that they cost. -/
theorem pm_main {D : Nat → Int} {ss : List Nat} {S : List Pt} (hS : Sy D ss S) {i : Nat} {ys : List Pt} (h : Rw S i ys) (hn : 2 ≤ ss.length) (hm : ss.length ≤ 2 ^ (i + 1)) :
    (∀ s ∈ ss, 1 ≤ bt ys ss.length s ∧ bt ys ss.length s ≤ i + 1) ∧ (∀ s, s ∉ ss → bt ys ss.length s = 0) ∧
    sm (fun s => (2 : Int) ^ (i + 1 - bt ys ss.length s)) ss = 2 ^ (i + 1) ∧
    sm (fun s => D s * (bt ys ss.length s : Int)) ss = sm Pt.ct (ys.take (2 * ss.length - 2)) ∧
    (∀ s, sn (fun t => t.occ s) ((prs 288 ys).take (ss.length - 1)) = bt ys ss.length s) ∧ ss.length - 1 ≤ (prs 288 ys).length := by
  have hlS : S.length = ss.length := by rw [hS.eq]; simp
  have hlen : 2 * ss.length - 2 ≤ ys.length := by rw [← hlS]; exact h.enough (by omega) (by omega)
  have hf := Rw.front hS h _ _ (List.Perm.of_eq (List.take_append_drop (2 * ss.length - 2) ys).symm) (take_dc h.sorted _)
  have hwf : ∀ t ∈ ys.take (2 * ss.length - 2), Wf D ss i t := fun t ht => Rw.wf hS h t (List.mem_of_mem_take ht)
  have htl : (ys.take (2 * ss.length - 2)).length = 2 * ss.length - 2 := by rw [List.length_take]; omega
  have hK : sm (fun s => (2 : Int) ^ (i + 1 - bt ys ss.length s)) ss = 2 ^ (i + 1) := by
    have e1 : sm (fun s => sm (fun t => t.vs i s) (ys.take (2 * ss.length - 2))) ss = 2 ^ i * ((2 * ss.length - 2 : Nat) : Int) := by
      rw [sm_swap, sm_congr (g := fun _ => (2 : Int) ^ i) (fun t ht => (hwf t ht).width hS.nd), sm_const, htl]
    rw [sm_congr (g := fun s => (2 : Int) ^ (i + 1) - 2 ^ (i + 1 - bt ys ss.length s)) (fun s hs => (hf s hs).2.1), sm_sub, sm_const, Int.pow_succ] at e1
    rw [Int.pow_succ]
    have e2 : ((2 * ss.length - 2 : Nat) : Int) = 2 * (ss.length : Int) - 2 := by omega
    rw [e2, Int.mul_sub, ← Int.mul_assoc] at e1
    omega
  have hpos : ∀ s ∈ ss, bt ys ss.length s ≠ 0 := by
    intro s hs h0
    obtain ⟨a, r, hp⟩ : ∃ a r, ss.Perm (s :: a :: r) := by
      have h1 := List.perm_cons_erase hs
      cases hr : ss.erase s with
      | nil =>
        rw [hr] at h1
        have := h1.length_eq
        simp at this
        omega
      | cons a r => rw [hr] at h1; exact ⟨a, r, h1⟩
    have h1 := sm_perm (fun s => (2 : Int) ^ (i + 1 - bt ys ss.length s)) hp
    simp only [sm] at h1
    have h2 := sm_nn (f := fun s => (2 : Int) ^ (i + 1 - bt ys ss.length s)) (l := r) (fun x _ => Int.le_of_lt (p2 _))
    have h3 := p2 (i + 1 - bt ys ss.length a)
    rw [h0, Nat.sub_zero, hK] at h1
    omega
  refine ⟨fun s hs => ⟨by have := hpos s hs; omega, (hf s hs).1⟩, ?_, hK, ?_, ?_, ?_⟩
  · intro s hs
    unfold bt
    by_cases h0 : sn (fun t => t.occ s) (ys.take (2 * ss.length - 2)) = 0
    · exact h0
    · obtain ⟨t, ht, hne⟩ := sn_pos h0
      exact absurd ((hwf t ht).occ0 s hs) hne
  · rw [sm_congr (l := ys.take (2 * ss.length - 2)) (g := fun t => sm (fun s => D s * (t.occ s : Int)) ss) (fun t ht => ((hwf t ht).cost hS.nd).symm), sm_swap]
    refine sm_congr (fun s _ => ?_)
    unfold bt
    generalize ys.take (2 * ss.length - 2) = X
    induction X with
    | nil => simp [sm, sn]
    | cons t X ih => simp only [sm, sn]; rw [← ih, Int.natCast_add, Int.mul_add]
  · intro s
    rw [prs_take, show 2 * (ss.length - 1) = 2 * ss.length - 2 by omega, prs_occ, prs_even _ _ (by rw [htl]; omega)]
    rfl
  · rw [prs_len]; omega

/-- A number put into a rising list. -/
def ins : List Int → Int → List Int
  | [], x => [x]
  | a :: l, x => if a ≤ x then a :: ins l x else x :: a :: l

/-- Sums by twos. -/
def ps : List Int → List Int
  | a :: b :: r => (a + b) :: ps r
  | _ => []

/-- The document's rows. -/
def RR (l : List Int) : Nat → List Int
  | 0 => []
  | i + 1 => (ps (RR l i)).foldl ins l

abbrev Up (l : List Int) : Prop := l.Pairwise (· ≤ ·)

theorem ins_perm (l : List Int) (x : Int) : (ins l x).Perm (x :: l) := by
  induction l with
  | nil => exact List.Perm.refl _
  | cons a l ih =>
    simp only [ins]
    split
    · exact (ih.cons a).trans (List.Perm.swap x a l)
    · exact List.Perm.refl _

theorem ins_up (l : List Int) (x : Int) (h : Up l) : Up (ins l x) := by
  induction l with
  | nil => simp [ins, Up]
  | cons a l ih =>
    obtain ⟨h1, h2⟩ := List.pairwise_cons.1 h
    simp only [ins]
    split
    · rename_i hle
      refine List.pairwise_cons.2 ⟨fun b hb => ?_, ih h2⟩
      rcases List.mem_cons.1 ((ins_perm l x).mem_iff.1 hb) with rfl | hb
      · exact hle
      · exact h1 b hb
    · rename_i hle
      refine List.pairwise_cons.2 ⟨fun b hb => ?_, h⟩
      rcases List.mem_cons.1 hb with rfl | hb
      · omega
      · have := h1 b hb; omega

theorem ins_len (l : List Int) (x : Int) : (ins l x).length = l.length + 1 := by have := (ins_perm l x).length_eq; simpa using this

theorem insAll_perm (p l : List Int) : (p.foldl ins l).Perm (l ++ p) := by
  induction p generalizing l with
  | nil => simp
  | cons x p ih =>
    simp only [List.foldl_cons]
    refine (ih (ins l x)).trans ?_
    have h1 := (List.perm_append_right_iff p).2 (ins_perm l x)
    refine h1.trans ?_
    exact List.perm_middle.symm

theorem insAll_up (p l : List Int) (h : Up l) : Up (p.foldl ins l) := by
  induction p generalizing l with
  | nil => exact h
  | cons x p ih => exact ih (ins l x) (ins_up l x h)

theorem RR_up (l : List Int) (h : Up l) (i : Nat) : Up (RR l i) := by
  cases i with
  | zero => simp [RR]
  | succ i => exact insAll_up _ _ h

theorem up_eq {a b : List Int} (ha : Up a) (hb : Up b) (h : a.Perm b) : a = b :=
  List.Perm.eq_of_pairwise (le := fun x y : Int => x ≤ y) (fun x y _ _ h1 h2 => by omega) ha hb h

theorem prs_ct (p : Int) (l : List Pt) : (prs p l).map Pt.ct = ps (l.map Pt.ct) := by
  match l with
  | [] => rfl
  | [_] => rfl
  | a :: b :: r =>
    simp only [prs, List.map_cons, ps]
    rw [prs_ct (p + 1) r]
    rfl

theorem ct_up {ys : List Pt} (h : ys.Pairwise Ple) : Up (ys.map Pt.ct) := List.pairwise_map.2 (h.imp (fun h => h.ct))

/-- The rows have the document's counts. -/
theorem Rw.row {S : List Pt} {i : Nat} {ys : List Pt} (h : Rw S i ys) (l : List Int) (hl : Up l) (hp : l.Perm (S.map Pt.ct)) : ys.map Pt.ct = RR l (i + 1) := by
  induction h with
  | base ys hy hs =>
    show _ = l
    exact up_eq (ct_up hs) hl ((hy.map Pt.ct).trans hp.symm)
  | step i ys zs hr hz hs ih =>
    refine up_eq (ct_up hs) (RR_up l hl _) ?_
    have h1 := hz.map Pt.ct
    rw [List.map_append, prs_ct, ih] at h1
    refine h1.trans (((List.perm_append_right_iff _).2 hp.symm).trans ?_)
    exact (insAll_perm _ _).symm

theorem sm_map {α β : Type} (f : β → Int) (g : α → β) (l : List α) : sm f (l.map g) = sm (fun x => f (g x)) l := by
  induction l with
  | nil => rfl
  | cons x l ih => simp only [List.map_cons, sm, ih]

/-- One list is at no place above the other, and no shorter. -/
inductive Dom : List Int → List Int → Prop where
  | nil (a : List Int) : Dom a []
  | cons (x y : Int) (a b : List Int) : x ≤ y → Dom a b → Dom (x :: a) (y :: b)

theorem Dom.refl (a : List Int) : Dom a a := by
  induction a with
  | nil => exact .nil _
  | cons x a ih => exact .cons _ _ _ _ (Int.le_refl _) ih

theorem Dom.trans {a b c : List Int} (h : Dom a b) (k : Dom b c) : Dom a c := by
  induction h generalizing c with
  | nil a => cases k; exact .nil _
  | cons x y a b hxy _ ih =>
    cases k with
    | nil => exact .nil _
    | cons _ z _ c hyz k => exact .cons _ _ _ _ (by omega) (ih k)

theorem Dom.ps : ∀ {a b : List Int}, Dom a b → Dom (Ytkclaikofdolmaa.ps a) (Ytkclaikofdolmaa.ps b)
  | _, [], _ => .nil _
  | _, [_], _ => .nil _
  | _, _ :: _ :: _, .cons _ _ _ _ h1 (.cons _ _ _ _ h2 h3) => .cons _ _ _ _ (by omega) h3.ps

/-- One more is put in: no place rises. -/
theorem ins_dom (a : List Int) (x : Int) (h : Up a) : Dom (ins a x) a := by
  induction a with
  | nil => exact .nil _
  | cons y a ih =>
    obtain ⟨h1, h2⟩ := List.pairwise_cons.1 h
    simp only [ins]
    split
    · exact .cons _ _ _ _ (Int.le_refl _) (ih h2)
    · rename_i hle
      refine .cons _ _ _ _ (by omega) ?_
      clear ih h hle
      induction a generalizing y with
      | nil => exact .nil _
      | cons z a ih =>
        obtain ⟨h3, h4⟩ := List.pairwise_cons.1 h2
        exact .cons _ _ _ _ (h1 z (by simp)) (ih z h3 h4)

theorem ins_low {a c : List Int} (x z : Int) (h : Dom (z :: a) c) (hc : ∀ e ∈ c, x ≤ e) : Dom (ins a x) c := by
  induction a generalizing z c with
  | nil =>
    cases h with
    | nil => exact .nil _
    | cons _ e _ c' _ hd => cases hd; exact .cons _ _ _ _ (hc e (by simp)) (.nil _)
  | cons w a ih =>
    cases h with
    | nil => exact .nil _
    | cons _ e _ c' _ hd =>
      have he := hc e (by simp)
      simp only [ins]
      split
      · exact .cons _ _ _ _ (by omega) (ih w hd (fun e he => hc e (by simp [he])))
      · exact .cons _ _ _ _ he hd

theorem ins_high (b : List Int) (v y : Int) (h : Up (v :: b)) (hv : v ≤ y) : Dom (v :: b) (ins b y) := by
  induction b generalizing v with
  | nil => exact .cons _ _ _ _ hv (.nil _)
  | cons w b ih =>
    obtain ⟨h1, h2⟩ := List.pairwise_cons.1 h
    simp only [ins]
    split
    · rename_i hw
      exact .cons _ _ _ _ (h1 w (by simp)) (ih w h2 hw)
    · exact .cons _ _ _ _ hv (Dom.refl _)

theorem ins_both {a b : List Int} (h : Dom a b) (x y : Int) (hxy : x ≤ y) (ha : Up a) (hb : Up b) : Dom (ins a x) (ins b y) := by
  induction h with
  | nil a =>
    simp only [ins]
    cases a with
    | nil => exact .cons _ _ _ _ hxy (.nil _)
    | cons z a =>
      simp only [ins]
      split
      · exact .cons _ _ _ _ (by omega) (.nil _)
      · exact .cons _ _ _ _ hxy (.nil _)
  | cons u v a b huv hd ih =>
    obtain ⟨a1, a2⟩ := List.pairwise_cons.1 ha
    obtain ⟨b1, b2⟩ := List.pairwise_cons.1 hb
    have hw : Dom (u :: a) (v :: b) := .cons _ _ _ _ huv hd
    simp only [ins]
    split
    · split
      · exact .cons _ _ _ _ huv (ih a2 b2)
      · refine .cons _ _ _ _ (by omega) (ins_low x u hw (fun e he => ?_))
        rcases List.mem_cons.1 he with rfl | he
        · omega
        · have := b1 e he; omega
    · split
      · exact .cons _ _ _ _ (by omega) (hw.trans (ins_high b v y hb (by assumption)))
      · exact .cons _ _ _ _ hxy hw

theorem insAll_dom {p q : List Int} (h : Dom p q) {a b : List Int} (hd : Dom a b) (ha : Up a) (hb : Up b) : Dom (p.foldl ins a) (q.foldl ins b) := by
  induction h generalizing a b with
  | nil p =>
    simp only [List.foldl_nil]
    induction p generalizing a with
    | nil => exact hd
    | cons x p ih => exact ih ((ins_dom a x ha).trans hd) (ins_up a x ha)
  | cons x y p q hxy _ ih => exact ih (ins_both hd x y hxy ha hb) (ins_up a x ha) (ins_up b y hb)

theorem RR_dom (l : List Int) (h : Up l) (i : Nat) : Dom (RR l (i + 1)) (RR l i) := by
  induction i with
  | zero => exact .nil _
  | succ i ih => exact insAll_dom ih.ps (Dom.refl l) h h

theorem Dom.sum {a b : List Int} (h : Dom a b) (m : Nat) (hm : m ≤ b.length) : sm id (a.take m) ≤ sm id (b.take m) := by
  induction h generalizing m with
  | nil a =>
    obtain rfl : m = 0 := by simpa using hm
    simp [sm]
  | cons x y a b hxy _ ih =>
    cases m with
    | zero => simp [sm]
    | succ m =>
      have := ih m (by simpa using hm)
      simp only [List.take_succ_cons, sm, id]
      omega

/-- The symbols that come, of the first k. -/
def sy (D : Nat → Int) : Nat → List Nat
  | 0 => []
  | k + 1 => if 0 < D k then sy D k ++ [k] else sy D k

/-- Their counts, rising, as the document puts them. -/
def so (D : Nat → Int) : Nat → List Int
  | 0 => []
  | k + 1 => if 0 < D k then ins (so D k) (D k) else so D k

theorem sy_mem (D : Nat → Int) (k s : Nat) : s ∈ sy D k ↔ s < k ∧ 0 < D s := by
  induction k with
  | zero => simp [sy]
  | succ k ih =>
    simp only [sy]
    by_cases h : 0 < D k
    · rw [if_pos h, List.mem_append, ih, List.mem_singleton]
      constructor
      · rintro (h' | rfl)
        · exact ⟨by omega, h'.2⟩
        · exact ⟨by omega, h⟩
      · rintro ⟨h1, h2⟩
        rcases Nat.lt_or_ge s k with h' | h'
        · exact .inl ⟨h', h2⟩
        · exact .inr (by omega)
    · rw [if_neg h, ih]
      constructor
      · rintro ⟨h1, h2⟩; exact ⟨by omega, h2⟩
      · rintro ⟨h1, h2⟩
        refine ⟨?_, h2⟩
        rcases Nat.lt_or_ge s k with h' | h'
        · exact h'
        · obtain rfl : s = k := by omega
          exact absurd h2 h

theorem sy_nd (D : Nat → Int) (k : Nat) : (sy D k).Nodup := by
  induction k with
  | zero => simp [sy]
  | succ k ih =>
    simp only [sy]
    split
    · rw [List.nodup_append]
      refine ⟨ih, by simp, ?_⟩
      intro a ha b hb
      rw [List.mem_singleton] at hb
      have := (sy_mem D k a).1 ha
      omega
    · exact ih

theorem sy_le (D : Nat → Int) (k : Nat) : (sy D k).length ≤ k := by
  induction k with
  | zero => simp [sy]
  | succ k ih =>
    simp only [sy]
    split
    · rw [List.length_append, List.length_singleton]; omega
    · omega

theorem so_up (D : Nat → Int) (k : Nat) : Up (so D k) := by
  induction k with
  | zero => simp [so]
  | succ k ih =>
    simp only [so]
    split
    · exact ins_up _ _ ih
    · exact ih

theorem so_perm (D : Nat → Int) (k : Nat) : (so D k).Perm ((sy D k).map D) := by
  induction k with
  | zero => simp [so, sy]
  | succ k ih =>
    simp only [so, sy]
    split
    · rw [List.map_append]
      exact (ins_perm _ _).trans ((ih.cons _).trans (List.perm_append_comm (l₁ := [D k])))
    · exact ih

theorem so_len (D : Nat → Int) (k : Nat) : (so D k).length = (sy D k).length := by have := (so_perm D k).length_eq; simpa using this

/-- The symbols that come, as parts. -/
def lvs (D : Nat → Int) (k : Nat) : List Pt := (sy D k).map (fun s => .leaf (D s) s)

theorem lvs_sy (D : Nat → Int) (k : Nat) (h : ∀ j, j < k → 0 ≤ D j ∧ D j ≤ 16777216) : Sy D (sy D k) (lvs D k) :=
  ⟨rfl, sy_nd D k, fun s hs => by have := (sy_mem D k s).1 hs; exact ⟨this.2, (h s this.1).2⟩⟩

theorem lvs_ct (D : Nat → Int) (k : Nat) : (so D k).Perm ((lvs D k).map Pt.ct) := by
  have e : (lvs D k).map Pt.ct = (sy D k).map D := by unfold lvs; rw [List.map_map]; rfl
  rw [e]; exact so_perm D k

/-- The least cost. -/
def lc (D : Nat → Int) (n : Nat) (m : Nat) : Int :=
  if (sy D n).length < 2 then (so D n).headD 0 else sm id ((RR (so D n) m).take (2 * (sy D n).length - 2))

/-- A sum over the symbols that come. -/
theorem sm_sy (D : Nat → Int) (f : Nat → Int) (k : Nat) (g : Nat → Nat → Int) (h0 : ∀ j, g 0 j = 0) (hs : ∀ i, g (i + 1) 0 = g i 0 + (if 0 < D i then f i else 0)) : sm f (sy D k) = g k 0 := by
  induction k with
  | zero => rw [h0]; rfl
  | succ k ih =>
    rw [hs]
    simp only [sy]
    split
    · rw [sm_append, ih]; simp only [sm]; omega
    · rw [ih]; omega

end Go.Proofs.Ytkclaikofdolmaa
