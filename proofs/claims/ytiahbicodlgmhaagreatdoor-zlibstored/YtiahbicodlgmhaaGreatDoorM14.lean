/- LimPm2, LimWLow, LimWRaw, LimWPut. -/
import Derived.Test.YtiahbicodlgmhaaGreatDoorM13
import Derived.Test.YtiahbicodlgmhaaGreatDoorM01
import Derived.Deep.RegionWith
import Derived.Deep.DeepCutAuto
/- Packages: how many there are, what they cost, that they are a whole code; a wider bound. -/
namespace Go.Proofs.YtiahbicodlgmhaaGreatDoor.Lim
open Go.RowKit

theorem Rw.sorted {S : List Pt} {i : Nat} {ys : List Pt} (h : Rw S i ys) : ys.Pairwise Ple := by cases h <;> assumption

theorem Rw.len {S : List Pt} {i : Nat} {ys : List Pt} (h : Rw S i ys) (hn : 0 < S.length) : ys.length < 2 * S.length ∧ (2 * S.length - ys.length - 1) * 2 ^ i < S.length := by
  induction h with
  | base ys hp _ => have := hp.length_eq; simp; omega
  | step i ys zs _ hp _ ih =>
    have h1 := hp.length_eq
    rw [List.length_append, prs_len] at h1
    refine ⟨by omega, ?_⟩
    have h2 : 2 * (2 * S.length - zs.length - 1) ≤ 2 * S.length - ys.length - 1 := by omega
    have h3 := Nat.mul_le_mul_right (2 ^ i) h2
    have h4 : (2 * S.length - zs.length - 1) * 2 ^ (i + 1) = 2 * (2 * S.length - zs.length - 1) * 2 ^ i := by rw [Nat.pow_succ, Nat.mul_comm (2 ^ i) 2, ← Nat.mul_assoc, Nat.mul_comm _ 2]
    omega

theorem Rw.enough {S : List Pt} {i : Nat} {ys : List Pt} (h : Rw S i ys) (hn : 0 < S.length) (hm : S.length ≤ 2 ^ (i + 1)) : 2 * S.length - 2 ≤ ys.length := by
  obtain ⟨h1, h2⟩ := h.len hn
  have h3 : (2 * S.length - ys.length - 1) * 2 ^ i < 2 * 2 ^ i := by rw [Nat.pow_succ] at hm; omega
  have h4 := Nat.lt_of_mul_lt_mul_right h3
  omega

theorem prs_even (p : Int) (l : List Pt) (h : l.length % 2 = 0) : (prs p l).flatMap Pt.ch = l := by
  obtain ⟨z, hz⟩ := prs_ch p l
  have h1 : ((prs p l).flatMap Pt.ch).length = 2 * (prs p l).length := by
    clear hz h
    fun_induction prs p l with
    | case1 p a b r ih => simp only [List.flatMap_cons, Pt.ch, List.length_append, List.length_cons, ih, List.length_nil]; omega
    | case2 p l hne => rfl
  have h2 := congrArg List.length hz
  rw [List.length_append, h1, prs_len] at h2
  have h3 : z = [] := List.eq_nil_of_length_eq_zero (by omega)
  rw [h3, List.append_nil] at hz
  exact hz.symm

theorem prs_occ (p : Int) (l : List Pt) (s : Nat) : sn (fun t => t.occ s) (prs p l) = sn (fun t => t.occ s) ((prs p l).flatMap Pt.ch) := by
  rw [occ_flat]
  have h7 : sn (fun t => t.lf s) (prs p l) = 0 := by
    by_cases h0 : sn (fun t => t.lf s) (prs p l) = 0
    · exact h0
    · obtain ⟨t, ht, hf⟩ := sn_pos h0
      obtain ⟨q, a, b, rfl, _, _⟩ := prs_node ht
      exact absurd rfl hf
  omega

theorem take_dc {ys : List Pt} (h : ys.Pairwise Ple) (k : Nat) : Dc (ys.take k) ys := by
  intro y hy x hx hlt
  rw [← List.take_append_drop k ys] at hy h
  rcases List.mem_append.1 hy with h' | h'
  · exact h'
  · have := ((List.pairwise_append.1 h).2.2 x hx y h').ct
    omega

/-- What the first of the last row hold of a symbol. -/
def bt (ys : List Pt) (n s : Nat) : Nat := sn (fun t => t.occ s) (ys.take (2 * n - 2))

/-- The first packages of the last round: a whole code of the least that they cost. -/
theorem pm_main {D : Nat → Int} {ss : List Nat} {S : List Pt} (hS : Sy D ss S) {i : Nat} {ys : List Pt} (h : Rw S i ys) (hn : 2 ≤ ss.length) (hm : ss.length ≤ 2 ^ (i + 1)) :
    (∀ s ∈ ss, 1 ≤ bt ys ss.length s ∧ bt ys ss.length s ≤ i + 1) ∧ (∀ s, s ∉ ss → bt ys ss.length s = 0) ∧
    sm (fun s => (2 : Int) ^ (i + 1 - bt ys ss.length s)) ss = 2 ^ (i + 1) ∧
    sm (fun s => D s * (bt ys ss.length s : Int)) ss = sm Pt.ct (ys.take (2 * ss.length - 2)) ∧
    (∀ s, sn (fun t => t.occ s) ((prs 288 ys).take (ss.length - 1)) = bt ys ss.length s) ∧ ss.length - 1 ≤ (prs 288 ys).length := by
  have hlS : S.length = ss.length := by rw [hS.eq]; simp
  have hlen : 2 * ss.length - 2 ≤ ys.length := by rw [← hlS]; exact h.enough (by omega) (by omega)
  have hf := Rw.front hS h _ _ (List.Perm.of_eq (List.take_append_drop (2 * ss.length - 2) ys).symm) (take_dc h.sorted _)
  have hwf : ∀ t ∈ ys.take (2 * ss.length - 2), Wf D ss i t := fun t ht => Rw.wf hS h t (List.mem_of_mem_take ht)
  have htl : (ys.take (2 * ss.length - 2)).length = 2 * ss.length - 2 := by rw [List.length_take]; omega
  have hK : sm (fun s => (2 : Int) ^ (i + 1 - bt ys ss.length s)) ss = 2 ^ (i + 1) := by
    have e1 : sm (fun s => sm (fun t => t.vs i s) (ys.take (2 * ss.length - 2))) ss = 2 ^ i * ((2 * ss.length - 2 : Nat) : Int) := by
      rw [sm_swap, sm_congr (g := fun _ => (2 : Int) ^ i) (fun t ht => (hwf t ht).width hS.nd), sm_const, htl]
    rw [sm_congr (g := fun s => (2 : Int) ^ (i + 1) - 2 ^ (i + 1 - bt ys ss.length s)) (fun s hs => (hf s hs).2.1), sm_sub, sm_const, Int.pow_succ] at e1
    rw [Int.pow_succ]
    have e2 : ((2 * ss.length - 2 : Nat) : Int) = 2 * (ss.length : Int) - 2 := by omega
    rw [e2, Int.mul_sub, ← Int.mul_assoc] at e1
    omega
  have hpos : ∀ s ∈ ss, bt ys ss.length s ≠ 0 := by
    intro s hs h0
    obtain ⟨a, r, hp⟩ : ∃ a r, ss.Perm (s :: a :: r) := by
      have h1 := List.perm_cons_erase hs
      cases hr : ss.erase s with
      | nil =>
        rw [hr] at h1
        have := h1.length_eq
        simp at this
        omega
      | cons a r => rw [hr] at h1; exact ⟨a, r, h1⟩
    have h1 := sm_perm (fun s => (2 : Int) ^ (i + 1 - bt ys ss.length s)) hp
    simp only [sm] at h1
    have h2 := sm_nn (f := fun s => (2 : Int) ^ (i + 1 - bt ys ss.length s)) (l := r) (fun x _ => Int.le_of_lt (p2 _))
    have h3 := p2 (i + 1 - bt ys ss.length a)
    rw [h0, Nat.sub_zero, hK] at h1
    omega
  refine ⟨fun s hs => ⟨by have := hpos s hs; omega, (hf s hs).1⟩, ?_, hK, ?_, ?_, ?_⟩
  · intro s hs
    unfold bt
    by_cases h0 : sn (fun t => t.occ s) (ys.take (2 * ss.length - 2)) = 0
    · exact h0
    · obtain ⟨t, ht, hne⟩ := sn_pos h0
      exact absurd ((hwf t ht).occ0 s hs) hne
  · rw [sm_congr (l := ys.take (2 * ss.length - 2)) (g := fun t => sm (fun s => D s * (t.occ s : Int)) ss) (fun t ht => ((hwf t ht).cost hS.nd).symm), sm_swap]
    refine sm_congr (fun s _ => ?_)
    unfold bt
    generalize ys.take (2 * ss.length - 2) = X
    induction X with
    | nil => simp [sm, sn]
    | cons t X ih => simp only [sm, sn]; rw [← ih, Int.natCast_add, Int.mul_add]
  · intro s
    rw [prs_take, show 2 * (ss.length - 1) = 2 * ss.length - 2 by omega, prs_occ, prs_even _ _ (by rw [htl]; omega)]
    rfl
  · rw [prs_len]; omega

/-- A number put into a rising list. -/
def ins : List Int → Int → List Int
  | [], x => [x]
  | a :: l, x => if a ≤ x then a :: ins l x else x :: a :: l

/-- Sums by twos. -/
def ps : List Int → List Int
  | a :: b :: r => (a + b) :: ps r
  | _ => []

/-- The document's rows. -/
def RR (l : List Int) : Nat → List Int
  | 0 => []
  | i + 1 => (ps (RR l i)).foldl ins l

abbrev Up (l : List Int) : Prop := l.Pairwise (· ≤ ·)

theorem ins_perm (l : List Int) (x : Int) : (ins l x).Perm (x :: l) := by
  induction l with
  | nil => exact List.Perm.refl _
  | cons a l ih =>
    simp only [ins]
    split
    · exact (ih.cons a).trans (List.Perm.swap x a l)
    · exact List.Perm.refl _

theorem ins_up (l : List Int) (x : Int) (h : Up l) : Up (ins l x) := by
  induction l with
  | nil => simp [ins, Up]
  | cons a l ih =>
    obtain ⟨h1, h2⟩ := List.pairwise_cons.1 h
    simp only [ins]
    split
    · rename_i hle
      refine List.pairwise_cons.2 ⟨fun b hb => ?_, ih h2⟩
      rcases List.mem_cons.1 ((ins_perm l x).mem_iff.1 hb) with rfl | hb
      · exact hle
      · exact h1 b hb
    · rename_i hle
      refine List.pairwise_cons.2 ⟨fun b hb => ?_, h⟩
      rcases List.mem_cons.1 hb with rfl | hb
      · omega
      · have := h1 b hb; omega

theorem ins_len (l : List Int) (x : Int) : (ins l x).length = l.length + 1 := by have := (ins_perm l x).length_eq; simpa using this

theorem insAll_perm (p l : List Int) : (p.foldl ins l).Perm (l ++ p) := by
  induction p generalizing l with
  | nil => simp
  | cons x p ih =>
    simp only [List.foldl_cons]
    refine (ih (ins l x)).trans ?_
    have h1 := (List.perm_append_right_iff p).2 (ins_perm l x)
    refine h1.trans ?_
    exact List.perm_middle.symm

theorem insAll_up (p l : List Int) (h : Up l) : Up (p.foldl ins l) := by
  induction p generalizing l with
  | nil => exact h
  | cons x p ih => exact ih (ins l x) (ins_up l x h)

theorem RR_up (l : List Int) (h : Up l) (i : Nat) : Up (RR l i) := by
  cases i with
  | zero => simp [RR]
  | succ i => exact insAll_up _ _ h

theorem up_eq {a b : List Int} (ha : Up a) (hb : Up b) (h : a.Perm b) : a = b :=
  List.Perm.eq_of_pairwise (le := fun x y : Int => x ≤ y) (fun x y _ _ h1 h2 => by omega) ha hb h

theorem prs_ct (p : Int) (l : List Pt) : (prs p l).map Pt.ct = ps (l.map Pt.ct) := by
  match l with
  | [] => rfl
  | [_] => rfl
  | a :: b :: r =>
    simp only [prs, List.map_cons, ps]
    rw [prs_ct (p + 1) r]
    rfl

theorem ct_up {ys : List Pt} (h : ys.Pairwise Ple) : Up (ys.map Pt.ct) := List.pairwise_map.2 (h.imp (fun h => h.ct))

/-- The rows have the document's counts. -/
theorem Rw.row {S : List Pt} {i : Nat} {ys : List Pt} (h : Rw S i ys) (l : List Int) (hl : Up l) (hp : l.Perm (S.map Pt.ct)) : ys.map Pt.ct = RR l (i + 1) := by
  induction h with
  | base ys hy hs =>
    show _ = l
    exact up_eq (ct_up hs) hl ((hy.map Pt.ct).trans hp.symm)
  | step i ys zs hr hz hs ih =>
    refine up_eq (ct_up hs) (RR_up l hl _) ?_
    have h1 := hz.map Pt.ct
    rw [List.map_append, prs_ct, ih] at h1
    refine h1.trans (((List.perm_append_right_iff _).2 hp.symm).trans ?_)
    exact (insAll_perm _ _).symm

theorem sm_map {α β : Type} (f : β → Int) (g : α → β) (l : List α) : sm f (l.map g) = sm (fun x => f (g x)) l := by
  induction l with
  | nil => rfl
  | cons x l ih => simp only [List.map_cons, sm, ih]

/-- One list is at no place above the other, and no shorter. -/
inductive Dom : List Int → List Int → Prop where
  | nil (a : List Int) : Dom a []
  | cons (x y : Int) (a b : List Int) : x ≤ y → Dom a b → Dom (x :: a) (y :: b)

theorem Dom.refl (a : List Int) : Dom a a := by
  induction a with
  | nil => exact .nil _
  | cons x a ih => exact .cons _ _ _ _ (Int.le_refl _) ih

theorem Dom.trans {a b c : List Int} (h : Dom a b) (k : Dom b c) : Dom a c := by
  induction h generalizing c with
  | nil a => cases k; exact .nil _
  | cons x y a b hxy _ ih =>
    cases k with
    | nil => exact .nil _
    | cons _ z _ c hyz k => exact .cons _ _ _ _ (by omega) (ih k)

theorem Dom.ps : ∀ {a b : List Int}, Dom a b → Dom (YtiahbicodlgmhaaGreatDoor.Lim.ps a) (YtiahbicodlgmhaaGreatDoor.Lim.ps b)
  | _, [], _ => .nil _
  | _, [_], _ => .nil _
  | _, _ :: _ :: _, .cons _ _ _ _ h1 (.cons _ _ _ _ h2 h3) => .cons _ _ _ _ (by omega) h3.ps

/-- One more is put in: no place rises. -/
theorem ins_dom (a : List Int) (x : Int) (h : Up a) : Dom (ins a x) a := by
  induction a with
  | nil => exact .nil _
  | cons y a ih =>
    obtain ⟨h1, h2⟩ := List.pairwise_cons.1 h
    simp only [ins]
    split
    · exact .cons _ _ _ _ (Int.le_refl _) (ih h2)
    · rename_i hle
      refine .cons _ _ _ _ (by omega) ?_
      clear ih h hle
      induction a generalizing y with
      | nil => exact .nil _
      | cons z a ih =>
        obtain ⟨h3, h4⟩ := List.pairwise_cons.1 h2
        exact .cons _ _ _ _ (h1 z (by simp)) (ih z h3 h4)

theorem ins_low {a c : List Int} (x z : Int) (h : Dom (z :: a) c) (hc : ∀ e ∈ c, x ≤ e) : Dom (ins a x) c := by
  induction a generalizing z c with
  | nil =>
    cases h with
    | nil => exact .nil _
    | cons _ e _ c' _ hd => cases hd; exact .cons _ _ _ _ (hc e (by simp)) (.nil _)
  | cons w a ih =>
    cases h with
    | nil => exact .nil _
    | cons _ e _ c' _ hd =>
      have he := hc e (by simp)
      simp only [ins]
      split
      · exact .cons _ _ _ _ (by omega) (ih w hd (fun e he => hc e (by simp [he])))
      · exact .cons _ _ _ _ he hd

theorem ins_high (b : List Int) (v y : Int) (h : Up (v :: b)) (hv : v ≤ y) : Dom (v :: b) (ins b y) := by
  induction b generalizing v with
  | nil => exact .cons _ _ _ _ hv (.nil _)
  | cons w b ih =>
    obtain ⟨h1, h2⟩ := List.pairwise_cons.1 h
    simp only [ins]
    split
    · rename_i hw
      exact .cons _ _ _ _ (h1 w (by simp)) (ih w h2 hw)
    · exact .cons _ _ _ _ hv (Dom.refl _)

theorem ins_both {a b : List Int} (h : Dom a b) (x y : Int) (hxy : x ≤ y) (ha : Up a) (hb : Up b) : Dom (ins a x) (ins b y) := by
  induction h with
  | nil a =>
    simp only [ins]
    cases a with
    | nil => exact .cons _ _ _ _ hxy (.nil _)
    | cons z a =>
      simp only [ins]
      split
      · exact .cons _ _ _ _ (by omega) (.nil _)
      · exact .cons _ _ _ _ hxy (.nil _)
  | cons u v a b huv hd ih =>
    obtain ⟨a1, a2⟩ := List.pairwise_cons.1 ha
    obtain ⟨b1, b2⟩ := List.pairwise_cons.1 hb
    have hw : Dom (u :: a) (v :: b) := .cons _ _ _ _ huv hd
    simp only [ins]
    split
    · split
      · exact .cons _ _ _ _ huv (ih a2 b2)
      · refine .cons _ _ _ _ (by omega) (ins_low x u hw (fun e he => ?_))
        rcases List.mem_cons.1 he with rfl | he
        · omega
        · have := b1 e he; omega
    · split
      · exact .cons _ _ _ _ (by omega) (hw.trans (ins_high b v y hb (by assumption)))
      · exact .cons _ _ _ _ hxy hw

theorem insAll_dom {p q : List Int} (h : Dom p q) {a b : List Int} (hd : Dom a b) (ha : Up a) (hb : Up b) : Dom (p.foldl ins a) (q.foldl ins b) := by
  induction h generalizing a b with
  | nil p =>
    simp only [List.foldl_nil]
    induction p generalizing a with
    | nil => exact hd
    | cons x p ih => exact ih ((ins_dom a x ha).trans hd) (ins_up a x ha)
  | cons x y p q hxy _ ih => exact ih (ins_both hd x y hxy ha hb) (ins_up a x ha) (ins_up b y hb)

theorem RR_dom (l : List Int) (h : Up l) (i : Nat) : Dom (RR l (i + 1)) (RR l i) := by
  induction i with
  | zero => exact .nil _
  | succ i ih => exact insAll_dom ih.ps (Dom.refl l) h h

theorem Dom.sum {a b : List Int} (h : Dom a b) (m : Nat) (hm : m ≤ b.length) : sm id (a.take m) ≤ sm id (b.take m) := by
  induction h generalizing m with
  | nil a =>
    obtain rfl : m = 0 := by simpa using hm
    simp [sm]
  | cons x y a b hxy _ ih =>
    cases m with
    | zero => simp [sm]
    | succ m =>
      have := ih m (by simpa using hm)
      simp only [List.take_succ_cons, sm, id]
      omega

/-- The symbols that come, of the first k. -/
def sy (D : Nat → Int) : Nat → List Nat
  | 0 => []
  | k + 1 => if 0 < D k then sy D k ++ [k] else sy D k

/-- Their counts, rising, as the document puts them. -/
def so (D : Nat → Int) : Nat → List Int
  | 0 => []
  | k + 1 => if 0 < D k then ins (so D k) (D k) else so D k

theorem sy_mem (D : Nat → Int) (k s : Nat) : s ∈ sy D k ↔ s < k ∧ 0 < D s := by
  induction k with
  | zero => simp [sy]
  | succ k ih =>
    simp only [sy]
    by_cases h : 0 < D k
    · rw [if_pos h, List.mem_append, ih, List.mem_singleton]
      constructor
      · rintro (h' | rfl)
        · exact ⟨by omega, h'.2⟩
        · exact ⟨by omega, h⟩
      · rintro ⟨h1, h2⟩
        rcases Nat.lt_or_ge s k with h' | h'
        · exact .inl ⟨h', h2⟩
        · exact .inr (by omega)
    · rw [if_neg h, ih]
      constructor
      · rintro ⟨h1, h2⟩; exact ⟨by omega, h2⟩
      · rintro ⟨h1, h2⟩
        refine ⟨?_, h2⟩
        rcases Nat.lt_or_ge s k with h' | h'
        · exact h'
        · obtain rfl : s = k := by omega
          exact absurd h2 h

theorem sy_nd (D : Nat → Int) (k : Nat) : (sy D k).Nodup := by
  induction k with
  | zero => simp [sy]
  | succ k ih =>
    simp only [sy]
    split
    · rw [List.nodup_append]
      refine ⟨ih, by simp, ?_⟩
      intro a ha b hb
      rw [List.mem_singleton] at hb
      have := (sy_mem D k a).1 ha
      omega
    · exact ih

theorem sy_le (D : Nat → Int) (k : Nat) : (sy D k).length ≤ k := by
  induction k with
  | zero => simp [sy]
  | succ k ih =>
    simp only [sy]
    split
    · rw [List.length_append, List.length_singleton]; omega
    · omega

theorem so_up (D : Nat → Int) (k : Nat) : Up (so D k) := by
  induction k with
  | zero => simp [so]
  | succ k ih =>
    simp only [so]
    split
    · exact ins_up _ _ ih
    · exact ih

theorem so_perm (D : Nat → Int) (k : Nat) : (so D k).Perm ((sy D k).map D) := by
  induction k with
  | zero => simp [so, sy]
  | succ k ih =>
    simp only [so, sy]
    split
    · rw [List.map_append]
      exact (ins_perm _ _).trans ((ih.cons _).trans (List.perm_append_comm (l₁ := [D k])))
    · exact ih

theorem so_len (D : Nat → Int) (k : Nat) : (so D k).length = (sy D k).length := by have := (so_perm D k).length_eq; simpa using this

/-- The symbols that come, as parts. -/
def lvs (D : Nat → Int) (k : Nat) : List Pt := (sy D k).map (fun s => .leaf (D s) s)

theorem lvs_sy (D : Nat → Int) (k : Nat) (h : ∀ j, j < k → 0 ≤ D j ∧ D j ≤ 16777216) : Sy D (sy D k) (lvs D k) :=
  ⟨rfl, sy_nd D k, fun s hs => by have := (sy_mem D k s).1 hs; exact ⟨this.2, (h s this.1).2⟩⟩

theorem lvs_ct (D : Nat → Int) (k : Nat) : (so D k).Perm ((lvs D k).map Pt.ct) := by
  have e : (lvs D k).map Pt.ct = (sy D k).map D := by unfold lvs; rw [List.map_map]; rfl
  rw [e]; exact so_perm D k

/-- The least cost. -/
def lc (D : Nat → Int) (n : Nat) (m : Nat) : Int :=
  if (sy D n).length < 2 then (so D n).headD 0 else sm id ((RR (so D n) m).take (2 * (sy D n).length - 2))

/-- A sum over the symbols that come. -/
theorem sm_sy (D : Nat → Int) (f : Nat → Int) (k : Nat) (g : Nat → Nat → Int) (h0 : ∀ j, g 0 j = 0) (hs : ∀ i, g (i + 1) 0 = g i 0 + (if 0 < D i then f i else 0)) : sm f (sy D k) = g k 0 := by
  induction k with
  | zero => rw [h0]; rfl
  | succ k ih =>
    rw [hs]
    simp only [sy]
    split
    · rw [sm_append, ih]; simp only [sm]; omega
    · rw [ih]; omega

end Go.Proofs.YtiahbicodlgmhaaGreatDoor.Lim

/- mayBe, lowest, Turn. -/
namespace Go.Proofs.YtiahbicodlgmhaaGreatDoor.Lim
open Go.RowKit

theorem Tryz.info5 : (Tryz.prog.info? 5).map (fun i => (i.zero, i.size, i.bytes)) = some (some (.int .u8 0), 1, 1) := by kernel_rfl
theorem Tryz.info4 : (Tryz.prog.info? 4).map (fun i => (i.zero, i.size, i.bytes)) = some (some (.bool false), 1, 1) := by kernel_rfl

theorem mayBe_no (n : Int) (w : World) (h : n < 0 ∨ 24 < n) : Calls Tryz.prog 85 #[.int .i64 n] w fun e w' => e = .returned (.bool false) ∧ w' = w := by
  by_cases h0 : n < 0
  · have hd : decide (0 ≤ n) = false := by simp; omega
    clear h
    go_enter Tryz.func85, Tryz.ntmps85
    go_wp2
    go_ret
    exact ⟨rfl, rfl⟩
  · have hd : decide (0 ≤ n) = true := by simp; omega
    have hd2 : decide (n ≤ 24) = false := by simp; omega
    clear h
    go_enter Tryz.func85, Tryz.ntmps85
    go_wp2
    go_ret
    exact ⟨rfl, rfl⟩

theorem mayBe_yes (n : Nat) (w : World) (h : n ≤ 24) : Calls Tryz.prog 85 #[.int .i64 n] w fun e w' => e = .returned (.bool true) ∧ w' = w := by
  have hd : decide (0 ≤ (n : Int)) = true := by simp
  have hd2 : decide ((n : Int) ≤ 24) = true := by simp; omega
  go_enter Tryz.func85, Tryz.ntmps85
  go_wp2
  go_ret
  exact ⟨rfl, rfl⟩

theorem lowest_any (v : Int) (n : Nat) (w : World) (h : n ≤ 24) (h0 : 0 ≤ v) (h1 : v < 18446744073709551616) : Calls Tryz.prog 86 #[.int .u64 v, .int .i64 n] w fun e w' => e = .returned (.int .u64 (v % 2 ^ n)) ∧ w' = w := by
  have hp := p2 n
  have hle := p2_le n 24 h
  have e1 : IntKind.u64.wrap (2 ^ n) = 2 ^ n := wraps_u64 _ (by omega) (by omega)
  have e2 : IntKind.u64.wrap (2 ^ n - 1) = 2 ^ n - 1 := wraps_u64 _ (by omega) (by omega)
  have e3 := u64_mask v n h h0 h1
  clear hp hle
  go_enter Tryz.func86, Tryz.ntmps86
  go_wp2
  go_ret
  exact ⟨rfl, rfl⟩

theorem turn_step (t v : Int) (k : Nat) (hk : k < 24) (t0 : 0 ≤ t) (t1 : t < 2 ^ k) : bits .or .i64 (wrap64 (t * 2)) (bits .and .i64 v 1) = 2 * t + v % 2 := by
  have hle := p2_le k 24 (by omega)
  rw [or_comm', i64_one, show t * 2 = t * 2 ^ 1 from rfl, i64_put 1 24 _ _ (by omega) (by omega) t0 (by omega) (by omega)]
  omega

theorem turn_no (v n : Int) (w : World) (h : n < 0 ∨ 24 < n) : Calls Tryz.prog 164 #[.int .i64 v, .int .i64 n] w fun e w' => e = .returned (.int .i64 0) ∧ w' = w := by
  go_enter Tryz.func164, Tryz.ntmps164
  go_wp2_with (go_at_call 85; refine (mayBe_no n w h).mono ?_; rintro e w1 ⟨rfl, rfl⟩)
  go_ret
  exact ⟨rfl, rfl⟩

set_option maxHeartbeats 400000 in
theorem turn_yes (v : Int) (n : Nat) (w : World) (h : n ≤ 24) : Calls Tryz.prog 164 #[.int .i64 v, .int .i64 n] w fun e w' => e = .returned (.int .i64 (T v n)) ∧ w' = w := by
  go_enter Tryz.func164, Tryz.ntmps164
  go_wp2_with (go_at_call 85; refine (mayBe_yes n w h).mono ?_; rintro e _ ⟨rfl, rfl⟩)
  go_loop [0, 5, 10] (fun u t i => ∃ k : Nat, k ≤ n ∧ u = .int .i64 (v / 2 ^ k) ∧ t = .int .i64 (T v k) ∧ i = .int .i64 k) (fun _ _ i => n - (intOf i).toNat)
  case atStart => exact ⟨0, by omega, by simp, rfl, rfl⟩
  case round =>
    obtain ⟨k, hk, rfl, rfl, rfl⟩ := hrel
    by_cases hlt : k < n
    · have hb := T_bound v k
      have e1 := turn_step (T v k) (v / 2 ^ k) k (by omega) hb.1 hb.2
      have HE : Hid (bits .or .i64 (wrap64 (T v k * 2)) (bits .and .i64 (v / 2 ^ k) 1) = 2 * T v k + v / 2 ^ k % 2) := e1
      clear hb e1
      go_wp2
      go_round
      case rel => exact ⟨k + 1, by omega, by rw [← div_div]; rfl, by rw [HE.out]; rfl, by go_num⟩
      case measure => simp [intOf]; omega
    · obtain rfl : k = n := by omega
      go_wp2
      go_ret
      exact ⟨rfl, rfl⟩

end Go.Proofs.YtiahbicodlgmhaaGreatDoor.Lim

/- A writer of bits in memory. -/
namespace Go.Proofs.YtiahbicodlgmhaaGreatDoor.Lim
open Go.RowKit

/-- A writer's cells. -/
def wcells (v : Value) (wd hv : Int) : Nat → Value
  | 0 => v
  | 1 => .int .u64 wd
  | _ => .int .i64 hv

/-- Block R is a writer whose slice v holds the lowest q bytes of N; the rest of N waits in its word, said to be hv bits. -/
structure Raw (w : World) (R : Nat) (v : Value) (N : Int) (q : Nat) (hv : Int) : Prop where
  row : w.rowIs R 77 3 (wcells v (N / 2 ^ (8 * q)) hv)
  own : w.ownsRow 0 5 1 v q ((by8 N q).map (Value.int .u8))
  sep : v.ownBlock ≠ some R

/-- The blocks of a writer. -/
def Of (R : Nat) (v : Value) (k : Nat) : Prop := k = R ∨ v.ownBlock = some k

/-- Block R is a writer of the len bits of N. -/
structure IsW (w : World) (R : Nat) (v : Value) (N : Int) (len : Nat) : Prop where
  raw : Raw w R v N (len / 8) ((len % 8 : Nat) : Int)
  nn : 0 ≤ N
  lt : N < 2 ^ len

theorem Raw.fr {P : Nat → Prop} {w w' : World} {R : Nat} {v : Value} {N : Int} {q : Nat} {hv : Int} (h : Raw w R v N q hv) (hf : Fr P w w') (hP : ∀ k, Of R v k → ¬ P k) : Raw w' R v N q hv :=
  ⟨rowIs_fr h.row hf (hP R (.inl rfl)), ownsRow_fr h.own hf (fun k hk => hP k (.inr hk)), h.sep⟩

theorem IsW.fr {P : Nat → Prop} {w w' : World} {R : Nat} {v : Value} {N : Int} {len : Nat} (h : IsW w R v N len) (hf : Fr P w w') (hP : ∀ k, Of R v k → ¬ P k) : IsW w' R v N len :=
  ⟨h.raw.fr hf hP, h.nn, h.lt⟩

theorem Raw.lt {w : World} {R : Nat} {v : Value} {N : Int} {q : Nat} {hv : Int} (h : Raw w R v N q hv) : ∀ k, Of R v k → k < w.heap.size := by
  rintro k (rfl | hk)
  · exact h.row.lt
  · exact (h.own.lt k hk).2

/-- A writer's number and word may be set anew. -/
theorem Raw.set1 {w : World} {R : Nat} {v : Value} {N : Int} {q : Nat} {hv : Int} (h : Raw w R v N q hv) (M : Int) (hM : by8 M q = by8 N q) : Raw (w.setCell ⟨R, 1, none⟩ (.int .u64 (M / 2 ^ (8 * q)))) R v M q hv :=
  ⟨(h.row.set 1 _).congr (fun i hi => by rcases i with _ | _ | _ | i <;> first | rfl | omega), by
    rw [hM]
    exact ownsRow_fr h.own ((Fr.refl (fun k => k = R) w).setCell rfl _) (fun k hk e => h.sep (by rw [hk, e])), h.sep⟩

theorem Raw.set2 {w : World} {R : Nat} {v : Value} {N : Int} {q : Nat} {hv : Int} (h : Raw w R v N q hv) (hv' : Int) : Raw (w.setCell ⟨R, 2, none⟩ (.int .i64 hv')) R v N q hv' :=
  ⟨(h.row.set 2 _).congr (fun i hi => by rcases i with _ | _ | _ | i <;> first | rfl | omega), ownsRow_fr h.own ((Fr.refl (fun k => k = R) w).setCell rfl _) (fun k hk e => h.sep (by rw [hk, e])), h.sep⟩

theorem row_after {wr w5 : World} {R t nc : Nat} {v' : Value} {f : Nat → Value} {O : Obj} (rr : wr.rowIs R t nc f) (sep : v'.ownBlock ≠ some R) (gr : (wr.drew.alloc O).grownBy w5 v'.ownBlock) : w5.rowIs R t nc f :=
  rowIs_fr rr (((Fr.refl (fun k => v'.ownBlock = some k) wr).drew.alloc _).grown gr (fun _ _ hk => hk)) sep

/-- Behind an append onto the slice in cell 0 of block R, and its store. -/
theorem pushed {w wr w5 : World} {R g5 c5 m e t nc : Nat} {v v' : Value} {xs : List Value} {f : Nat → Value} {O : Obj} (rr : wr.rowIs R t nc f) (sep : v'.ownBlock ≠ some R) (fr : Fr (Of R v) w wr)
    (hv : v'.ownBlock = v.ownBlock ∨ ∀ k, v'.ownBlock = some k → w.heap.size ≤ k) (o5 : w5.ownsRow 0 e 1 (.slice (some ⟨g5, 0, none⟩) m c5) m xs) (gr : (wr.drew.alloc O).grownBy w5 v'.ownBlock)
    (l5 : v'.ownBlock = some g5 ∨ g5 = wr.heap.size + 1) :
    (w5.setCell ⟨R, 0, none⟩ (.slice (some ⟨g5, 0, none⟩) m c5)).rowIs R t nc (fun j => if j = 0 then (.slice (some ⟨g5, 0, none⟩) m c5) else f j) ∧
    (w5.setCell ⟨R, 0, none⟩ (.slice (some ⟨g5, 0, none⟩) m c5)).ownsRow 0 e 1 (.slice (some ⟨g5, 0, none⟩) m c5) m xs ∧ g5 ≠ R ∧
    Fr (Of R v) w (w5.setCell ⟨R, 0, none⟩ (.slice (some ⟨g5, 0, none⟩) m c5)) ∧ (some g5 = v.ownBlock ∨ w.heap.size ≤ g5) := by
  have hne : g5 ≠ R := by
    rintro rfl
    rcases l5 with h | h
    · exact sep h
    · have := rr.lt; omega
  have hold : ∀ i, i < w.heap.size → v'.ownBlock = some i → Of R v i := fun i hi hk => by
    rcases hv with h | h
    · exact .inr (h ▸ hk)
    · have := h i hk; omega
  have r5 := row_after rr sep gr
  refine ⟨r5.set 0 _, ownsRow_fr o5 ((Fr.refl (fun k => k = R) w5).setCell rfl _) (fun k hk e => hne (by cases hk; exact e)), hne, ?_, ?_⟩
  · exact ((fr.drew.alloc _).grown gr hold).setCell (.inl rfl) _
  · rcases l5 with h | h
    · rcases hv with h' | h'
      · exact .inl (by rw [← h', h])
      · exact .inr (h' _ h)
    · have := fr.size
      exact .inr (by omega)

end Go.Proofs.YtiahbicodlgmhaaGreatDoor.Lim

/- NewWriter, Put. -/
namespace Go.Proofs.YtiahbicodlgmhaaGreatDoor.Lim
open Go.RowKit

theorem u64_wrap (n : Int) : IntKind.u64.wrap n = n % 18446744073709551616 := by simp [IntKind.wrap, IntKind.bits, IntKind.signed]

theorem newW_any (w : World) : Calls Tryz.prog 23 #[] w fun e w' => ∃ R, e = .returned (.pointer (some ⟨R, 0, none⟩)) ∧ IsW w' R (.slice none 0 0) 0 0 ∧ w.heap.size = R ∧ Below w.heap.size w w' := by
  go_enter Tryz.func23, Tryz.ntmps23
  go_wp2
  go_ret
  have hb : Below w.heap.size w (w.alloc (Obj.cells #[Value.slice none 0 0, Value.int IntKind.u64 0, Value.int IntKind.i64 0] 77)) := (Below.refl _ _).alloc (Nat.le_refl _) _
  refine ⟨w.heap.size, rfl, ⟨⟨?_, World.ownsRow_nil _ _ _ _, by simp [Value.ownBlock]⟩, by omega, by simp⟩, rfl, hb⟩
  exact World.rowIs_alloc w _ 77 _ (fun i hi => by
    simp at hi
    rcases i with _ | _ | _ | i <;> first | rfl | omega)

theorem put_no (R : Nat) (x n : Int) (w : World) (hn : n < 0 ∨ 24 < n) :
    Calls Tryz.prog 58 #[.pointer (some ⟨R, 0, none⟩), .int .i64 x, .int .i64 n] w fun e w' => e = .returned (.tuple #[]) ∧ w' = w := by
  go_enter Tryz.func58, Tryz.ntmps58
  go_wp2_with (go_at_call 85; refine (mayBe_no n w hn).mono ?_; rintro e w1 ⟨rfl, rfl⟩)
  refine bodyPost_ret (results_none rfl _ _ _) rfl ?_
  exact ⟨rfl, rfl⟩

set_option maxRecDepth 100000 in
set_option maxHeartbeats 1000000 in
theorem put_raw (R : Nat) (v : Value) (N x : Int) (q hb n : Nat) (w : World) (h : Raw w R v N q hb) (h0 : 0 ≤ N) (h1 : N < 2 ^ (8 * q + hb)) (hn : n ≤ 24) (hh : hb < 8) (hl : q ≤ 1000000000) :
    Calls Tryz.prog 58 #[.pointer (some ⟨R, 0, none⟩), .int .i64 x, .int .i64 n] w fun e w' => e = .returned (.tuple #[]) ∧ ∃ v' q' hb', Raw w' R v' (N + 2 ^ (8 * q + hb) * (x % 2 ^ n)) q' (hb' : Nat) ∧ Fr (Of R v) w w' ∧
      8 * q' + hb' = 8 * q + hb + n ∧ hb' < 8 ∧ (v'.ownBlock = v.ownBlock ∨ ∀ k, v'.ownBlock = some k → w.heap.size ≤ k) := by
  have c1 := h.row.cell (i := 1) (by omega)
  have c2 := h.row.cell (i := 2) (by omega)
  have f1 := h.row.frozen 1
  have f2 := h.row.frozen 2
  simp only [wcells] at c1 c2
  have x0 : 0 ≤ IntKind.u64.wrap x := by rw [u64_wrap]; omega
  have x1 : IntKind.u64.wrap x < 18446744073709551616 := by rw [u64_wrap]; omega
  have e0 : IntKind.u64.wrap x % 2 ^ n = x % 2 ^ n := by rw [u64_wrap]; exact mod_mod x n 64 (by omega)
  obtain ⟨M, hM⟩ : ∃ M, M = N + 2 ^ (8 * q + hb) * (x % 2 ^ n) := ⟨_, rfl⟩
  obtain ⟨wd, hwd⟩ : ∃ wd, wd = N / 2 ^ (8 * q) := ⟨_, rfl⟩
  obtain ⟨wd', hwd'⟩ : ∃ wd, wd = M / 2 ^ (8 * q) := ⟨_, rfl⟩
  have E : bits .or .u64 wd (IntKind.u64.wrap (IntKind.u64.wrap x % 2 ^ n * 2 ^ hb)) = wd' := by
    rw [e0, u64_put hb n wd _ (by rw [hwd]; exact div_nn _ _ h0) (by rw [hwd]; exact div_lt _ _ _ h1) (mod_nn _ _) (mod_lt _ _) (by omega), hwd', hM, put_div _ _ _ _ (by omega), hwd]
    congr 3
    omega
  have hby : by8 M q = by8 N q := by rw [hM]; exact by8_put _ _ _ _ (by omega)
  rw [← hwd] at c1
  rw [← hM]
  have S1 := h.set1 M hby
  rw [← hwd'] at S1
  have HW : Hid (wd' = M / 2 ^ (8 * q)) := hwd'
  clear hM hwd hwd' e0 hby h0 h1
  go_enter Tryz.func58, Tryz.ntmps58
  go_upto_region 1 with (go_at_call 85; refine (mayBe_yes n w hn).mono ?_; rintro e w1 ⟨rfl, hw⟩; subst w1)
  go_cut [] (fun wx => wx = (w.setCell ⟨R, 1, none⟩ (.int .u64 wd')).drew)
  case first =>
    go_region_with ((go_at_call 86; refine (lowest_any (IntKind.u64.wrap x) n _ hn x0 x1).mono ?_; rintro e w1 ⟨rfl, hw⟩; subst w1))
    all_goals
      go_wp2_with fail
      go_meet
      rfl
  case rest =>
    subst hcut
    have S2 := S1.set2 ((hb : Int) + n)
    have F2 : Fr (Of R v) w ((w.setCell ⟨R, 1, none⟩ (.int .u64 wd')).setCell ⟨R, 2, none⟩ (.int .i64 ((hb : Int) + n))).drew := (((Fr.refl _ w).setCell (.inl rfl) _).setCell (.inl rfl) _).drew
    clear E x0 x1 S1 h
    go_wp2_with fail
    go_loopw [] (fun wr => ∃ (v' : Value) (q' hb' : Nat), Raw wr R v' M q' hb' ∧ Fr (Of R v) w wr ∧ 8 * q' + hb' = 8 * q + hb + n ∧ (v'.ownBlock = v.ownBlock ∨ ∀ k, v'.ownBlock = some k → w.heap.size ≤ k))
      (fun wr => (intOf ((wr.cell? ⟨R, 2, none⟩).getD (.int .i64 0))).toNat)
    case atStart => exact ⟨v, q, hb + n, by simpa using S2.fr (Fr.refl (fun _ => False) _).drew (fun _ _ h => h), F2, by omega, .inl rfl⟩
    case round =>
      obtain ⟨v', q', hb', r, fr, hsum, hv⟩ := hrel
      clear f1 f2 c1 c2 S2 F2 HW
      have c0 := r.row.cell (i := 0) (by omega)
      have c1 := r.row.cell (i := 1) (by omega)
      have c2 := r.row.cell (i := 2) (by omega)
      have f0 := r.row.frozen 0
      have f1 := r.row.frozen 1
      have f2 := r.row.frozen 2
      simp only [wcells] at c0 c1 c2
      obtain ⟨wd2, hwd2⟩ : ∃ wd, wd = M / 2 ^ (8 * q') := ⟨_, rfl⟩
      rw [← hwd2] at c1
      have rr : wr.rowIs R 77 3 (wcells v' wd2 hb') := by rw [hwd2]; exact r.row
      have HW : Hid (wd2 = M / 2 ^ (8 * q')) := hwd2
      clear hwd2
      by_cases h8 : 8 ≤ hb'
      · obtain ⟨i0, hi, hz0, hz1, hz2⟩ := info_parts Tryz.info5
        have own1 : (wr.drew.alloc (Obj.cells #[Value.int .u8 (wd2 % 256)] 5)).ownsRow 0 5 1 v' q' ((by8 M q').map (Value.int .u8)) := ownsRow_fr r.own (((Fr.refl (fun _ => False) _).drew).alloc _) (fun _ _ h => h)
        have new1 := cell_one_new wr.drew (Value.int .u8 (wd2 % 256)) 5
        have hA : (wr.alloc (Obj.cells #[Value.int .u8 (IntKind.u8.wrap wd2)] 5)).cell? ⟨R, 0, none⟩ = some v' := (((Below.refl _ wr).alloc (Nat.le_refl _) _).cell (p := ⟨R, 0, none⟩) rr.lt).trans c0
        go_upto_region 5 with fail
        go_cut [] from 33 to 65 (fun wx => ∃ v'' : Value, wx.rowIs R 77 3 (wcells v'' wd2 hb') ∧ wx.ownsRow 0 5 1 v'' (q' + 1) ((by8 M q' ++ [wd2 % 256]).map (Value.int .u8)) ∧ v''.ownBlock ≠ some R ∧ Fr (Of R v) w wx ∧
          (v''.ownBlock = v.ownBlock ∨ ∀ k, v''.ownBlock = some k → w.heap.size ≤ k))
        case first =>
          go_region_law (refine step_append_lies (wr.drew.alloc (Obj.cells #[Value.int .u8 (wd2 % 256)] 5)) (by rfl) (.tmp 49) (.tmp 55) 22 (by rfl) 0 5 i0 (.int .u8 0) 1 1 Tryz.underlying22 hi hz0 hz1 hz2 rfl (by decide) v' q' _ (by rfl) own1 ⟨wr.heap.size, 0, none⟩ 1 1 [Value.int .u8 (wd2 % 256)] (by rfl) rfl new1 (by intro u hu; simp at hu; subst hu; rfl) (by omega) (by unfold maxLen; omega) (by omega) (by omega) (wr.heap.size + 1) (by simp) ?_; intro g5 c5 w5 o5 g5r l5 s5; have k0 := (row_after rr r.sep g5r).cell (i := 0) (by omega); have k1 := (row_after rr r.sep g5r).frozen 0; simp only [wcells] at k0)
          all_goals
            have pd := pushed rr r.sep fr hv o5 g5r l5
            clear k0 k1 o5 g5r s5 own1 new1
            go_wp2_with fail
            go_meet
            refine ⟨_, pd.1.congr (fun i hi => by rcases i with _ | _ | _ | i <;> first | rfl | omega), by simpa using pd.2.1, fun e => pd.2.2.1 (by simpa [Value.ownBlock] using e), pd.2.2.2.1, ?_⟩
            rcases pd.2.2.2.2 with e | e
            · exact .inl e
            · exact .inr (fun k hk => by cases hk; exact e)
        case rest =>
          obtain ⟨v'', r2, own2, sep2, fr2, hv2⟩ := hcut
          clear c0 c1 c2 f0 f1 f2 own1 new1 hA
          have c1 := r2.cell (i := 1) (by omega)
          have c2 := r2.cell (i := 2) (by omega)
          have f1 := r2.frozen 1
          have f2 := r2.frozen 2
          simp only [wcells] at c1 c2
          have raw2 : Raw ((wc.setCell ⟨R, 1, none⟩ (.int .u64 (wd2 / 256))).setCell ⟨R, 2, none⟩ (.int .i64 ((hb' : Int) - 8))) R v'' M (q' + 1) ((hb' - 8 : Nat) : Int) := by
            refine ⟨?_, ?_, sep2⟩
            · refine ((r2.set 1 _).set 2 _).congr (fun i hi => ?_)
              have e1 : M / 2 ^ (8 * (q' + 1)) = wd2 / 256 := by rw [HW.out]; exact (div_div M (8 * q') 8).symm
              have e2 : ((hb' - 8 : Nat) : Int) = (hb' : Int) - 8 := by omega
              rcases i with _ | _ | _ | i
              · rfl
              · simp [wcells, e1]
              · simp [wcells, e2]
              · omega
            · rw [by8_succ, ← HW.out]
              exact ownsRow_fr own2 (((Fr.refl (fun k => k = R) wc).setCell rfl _).setCell rfl _) (fun k hk e => sep2 (by rw [hk, e]))
          have frr : Fr (Of R v) w ((wc.setCell ⟨R, 1, none⟩ (.int .u64 (wd2 / 256))).setCell ⟨R, 2, none⟩ (.int .i64 ((hb' : Int) - 8))) := (fr2.setCell (.inl rfl) _).setCell (.inl rfl) _
          have m1 := raw2.row.cell (i := 2) (by omega)
          have m0 := r.row.cell (i := 2) (by omega)
          simp only [wcells] at m0 m1
          have M0 : Hid (wr.cell? ⟨R, 2, none⟩ = some (.int .i64 (hb' : Int))) := m0
          have M1 : Hid (((wc.setCell ⟨R, 1, none⟩ (.int .u64 (wd2 / 256))).setCell ⟨R, 2, none⟩ (.int .i64 ((hb' : Int) - 8))).cell? ⟨R, 2, none⟩ = some (.int .i64 ((hb' - 8 : Nat) : Int))) := m1
          clear r2 own2 sep2 fr2 r rr fr hv m0 m1
          go_wp2
          go_roundw
          case rel => exact ⟨v'', q' + 1, hb' - 8, raw2, frr, by omega, hv2⟩
          case measure => rw [M0.out, M1.out]; simp [intOf]; omega
      · go_wp2
        go_end0
        exact ⟨rfl, v', q', hb', r, fr, hsum, by omega, hv⟩

end Go.Proofs.YtiahbicodlgmhaaGreatDoor.Lim
