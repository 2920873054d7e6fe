/- Packages of symbols, as mathematics: each round's row, what the first of it hold. -/
import Derived.Test.YtiahbicodlgmhaaGreatDoorM01
namespace Go.Proofs.YtiahbicodlgmhaaGreatDoor.Lim
open Go.RowKit

/-- A part: a symbol, or two parts. -/
inductive Pt where
  | leaf (c : Int) (s : Nat)
  | node (c p : Int) (l r : Pt)

def Pt.ct : Pt → Int
  | .leaf c _ => c
  | .node c _ _ _ => c

def Pt.pl : Pt → Int
  | .leaf _ s => s
  | .node _ p _ _ => p

/-- How often a symbol is in a part. -/
def Pt.occ : Pt → Nat → Nat
  | .leaf _ a, s => if a = s then 1 else 0
  | .node _ _ l r, s => l.occ s + r.occ s

/-- Its halves. -/
def Pt.ch : Pt → List Pt
  | .leaf _ _ => []
  | .node _ _ l r => [l, r]

/-- Whether it is that symbol alone. -/
def Pt.lf : Pt → Nat → Nat
  | .leaf _ a, s => if a = s then 1 else 0
  | .node _ _ _ _, _ => 0

/-- What a symbol has of a part's width 2^k. -/
def Pt.vs : Nat → Pt → Nat → Int
  | k, .leaf _ a, s => if a = s then 2 ^ k else 0
  | 0, .node _ _ _ _, _ => 0
  | k + 1, .node _ _ l r, s => vs k l s + vs k r s

/-- A sum over a list. -/
def sm {α : Type} (f : α → Int) : List α → Int
  | [] => 0
  | a :: r => f a + sm f r

def sn {α : Type} (f : α → Nat) : List α → Nat
  | [] => 0
  | a :: r => f a + sn f r

theorem sm_append {α : Type} (f : α → Int) (a b : List α) : sm f (a ++ b) = sm f a + sm f b := by
  induction a with
  | nil => simp [sm]
  | cons x a ih => simp only [List.cons_append, sm, ih]; omega

theorem sn_append {α : Type} (f : α → Nat) (a b : List α) : sn f (a ++ b) = sn f a + sn f b := by
  induction a with
  | nil => simp [sn]
  | cons x a ih => simp only [List.cons_append, sn, ih]; omega

theorem sm_perm {α : Type} (f : α → Int) {a b : List α} (h : a.Perm b) : sm f a = sm f b := by
  induction h with
  | nil => rfl
  | cons x _ ih => simp only [sm, ih]
  | swap x y l => simp only [sm]; omega
  | trans _ _ h1 h2 => rw [h1, h2]

theorem sn_perm {α : Type} (f : α → Nat) {a b : List α} (h : a.Perm b) : sn f a = sn f b := by
  induction h with
  | nil => rfl
  | cons x _ ih => simp only [sn, ih]
  | swap x y l => simp only [sn]; omega
  | trans _ _ h1 h2 => rw [h1, h2]

theorem sm_congr {α : Type} {f g : α → Int} {l : List α} (h : ∀ x ∈ l, f x = g x) : sm f l = sm g l := by
  induction l with
  | nil => rfl
  | cons x l ih => simp only [sm]; rw [h x (by simp), ih (fun y hy => h y (by simp [hy]))]

theorem sm_add {α : Type} (f g : α → Int) (l : List α) : sm (fun x => f x + g x) l = sm f l + sm g l := by
  induction l with
  | nil => rfl
  | cons x l ih => simp only [sm, ih]; omega

theorem sm_sub {α : Type} (f g : α → Int) (l : List α) : sm (fun x => f x - g x) l = sm f l - sm g l := by
  induction l with
  | nil => rfl
  | cons x l ih => simp only [sm, ih]; omega

theorem sm_const {α : Type} (c : Int) (l : List α) : sm (fun _ => c) l = c * l.length := by
  induction l with
  | nil => simp [sm]
  | cons x l ih => simp only [sm, ih, List.length_cons]; rw [Int.natCast_add, Int.mul_add]; omega

theorem sm_zero {α : Type} (l : List α) : sm (fun _ => (0 : Int)) l = 0 := by rw [sm_const]; simp

theorem sm_mono {α : Type} {f g : α → Int} {l : List α} (h : ∀ x ∈ l, f x ≤ g x) : sm f l ≤ sm g l := by
  induction l with
  | nil => simp [sm]
  | cons x l ih =>
    have h1 := h x (by simp)
    have h2 := ih (fun y hy => h y (by simp [hy]))
    simp only [sm]; omega

theorem sm_nn {α : Type} {f : α → Int} {l : List α} (h : ∀ x ∈ l, 0 ≤ f x) : 0 ≤ sm f l := by
  have := sm_mono (f := fun _ => (0 : Int)) (g := f) (l := l) h
  rwa [sm_zero] at this

theorem sm_le_one {α : Type} {f : α → Int} {l : List α} (h : ∀ x ∈ l, 0 ≤ f x) {a : α} (ha : a ∈ l) : f a ≤ sm f l := by
  induction l with
  | nil => simp at ha
  | cons x l ih =>
    simp only [sm]
    have h1 := h x (by simp)
    have h2 := sm_nn (f := f) (l := l) (fun y hy => h y (by simp [hy]))
    rcases List.mem_cons.1 ha with rfl | ha'
    · omega
    · have := ih (fun y hy => h y (by simp [hy])) ha'
      omega

theorem sm_swap {α β : Type} (f : α → β → Int) (a : List α) (b : List β) : sm (fun x => sm (f x) b) a = sm (fun y => sm (fun x => f x y) a) b := by
  induction a with
  | nil => simp only [sm]; rw [sm_zero]
  | cons x a ih => simp only [sm]; rw [sm_add, ih]

theorem sm_flat {α β : Type} (f : β → Int) (g : α → List β) (l : List α) : sm f (l.flatMap g) = sm (fun x => sm f (g x)) l := by
  induction l with
  | nil => rfl
  | cons x l ih => simp only [List.flatMap_cons, sm_append, sm, ih]

theorem sn_flat {α β : Type} (f : β → Nat) (g : α → List β) (l : List α) : sn f (l.flatMap g) = sn (fun x => sn f (g x)) l := by
  induction l with
  | nil => rfl
  | cons x l ih => simp only [List.flatMap_cons, sn_append, sn, ih]

theorem sn_pos {α : Type} {f : α → Nat} {l : List α} (h : sn f l ≠ 0) : ∃ a ∈ l, f a ≠ 0 := by
  induction l with
  | nil => simp [sn] at h
  | cons x l ih =>
    by_cases hx : f x = 0
    · simp only [sn, hx, Nat.zero_add] at h
      obtain ⟨a, ha, hf⟩ := ih h
      exact ⟨a, by simp [ha], hf⟩
    · exact ⟨x, by simp, hx⟩

theorem sn_add {α : Type} (f g : α → Nat) (l : List α) : sn (fun x => f x + g x) l = sn f l + sn g l := by
  induction l with
  | nil => rfl
  | cons x l ih => simp only [sn, ih]; omega

theorem sn_congr {α : Type} {f g : α → Nat} {l : List α} (h : ∀ x ∈ l, f x = g x) : sn f l = sn g l := by
  induction l with
  | nil => rfl
  | cons x l ih => simp only [sn]; rw [h x (by simp), ih (fun y hy => h y (by simp [hy]))]

theorem sn_mem {α : Type} {f : α → Nat} {l : List α} {a : α} (ha : a ∈ l) : f a ≤ sn f l := by
  induction l with
  | nil => simp at ha
  | cons x l ih =>
    simp only [sn]
    rcases List.mem_cons.1 ha with rfl | ha'
    · omega
    · have := ih ha'; omega

/-- Rarer, or as rare and earlier. -/
def Ple (a b : Pt) : Prop := a.ct < b.ct ∨ (a.ct = b.ct ∧ a.pl ≤ b.pl)

theorem Ple.ct {a b : Pt} (h : Ple a b) : a.ct ≤ b.ct := by unfold Ple at h; omega
theorem Ple.refl (a : Pt) : Ple a a := by unfold Ple; omega
theorem Ple.trans {a b c : Pt} (h : Ple a b) (k : Ple b c) : Ple a c := by unfold Ple at *; omega
theorem Ple.total (a b : Pt) : Ple a b ∨ Ple b a := by unfold Ple; omega

/-- Put together by twos. -/
def prs : Int → List Pt → List Pt
  | p, a :: b :: r => .node (a.ct + b.ct) p a b :: prs (p + 1) r
  | _, _ => []

/-- The rows of packages: all symbols, and those of the round ahead put together, the rarest first. -/
inductive Rw (S : List Pt) : Nat → List Pt → Prop where
  | base (ys : List Pt) : ys.Perm S → ys.Pairwise Ple → Rw S 0 ys
  | step (i : Nat) (ys zs : List Pt) : Rw S i ys → zs.Perm (S ++ prs 288 ys) → zs.Pairwise Ple → Rw S (i + 1) zs

theorem prs_len (p : Int) (l : List Pt) : (prs p l).length = l.length / 2 := by
  match l with
  | [] => rfl
  | [_] => simp [prs]
  | a :: b :: r => simp only [prs, List.length_cons, prs_len (p + 1) r]; omega

/-- The halves of all packages: the row's front. -/
theorem prs_ch (p : Int) (l : List Pt) : ∃ z, l = (prs p l).flatMap Pt.ch ++ z := by
  match l with
  | [] => exact ⟨[], rfl⟩
  | [a] => exact ⟨[a], rfl⟩
  | a :: b :: r =>
    obtain ⟨z, hz⟩ := prs_ch (p + 1) r
    refine ⟨z, ?_⟩
    simp only [prs, List.flatMap_cons, Pt.ch, List.cons_append, List.nil_append]
    rw [← hz]

theorem prs_take (p : Int) (l : List Pt) (k : Nat) : (prs p l).take k = prs p (l.take (2 * k)) := by
  match l with
  | [] => simp [prs]
  | [a] =>
    have h1 : prs p [a] = [] := rfl
    rw [h1]
    cases k with
    | zero => rfl
    | succ k => rw [show 2 * (k + 1) = (2 * k + 1) + 1 by omega]; simp [prs]
  | a :: b :: r =>
    cases k with
    | zero => rfl
    | succ k =>
      rw [show 2 * (k + 1) = (2 * k + 1) + 1 by omega]
      simp only [prs, List.take_succ_cons, prs_take (p + 1) r k]

theorem prs_node {p : Int} {l : List Pt} {x : Pt} (h : x ∈ prs p l) : ∃ q a b, x = .node (a.ct + b.ct) q a b ∧ a ∈ l ∧ b ∈ l := by
  match l with
  | [] => simp [prs] at h
  | [_] => simp [prs] at h
  | a :: b :: r =>
    simp only [prs, List.mem_cons] at h
    rcases h with rfl | h
    · exact ⟨p, a, b, rfl, by simp, by simp⟩
    · obtain ⟨q, c, d, e, hc, hd⟩ := prs_node h
      exact ⟨q, c, d, e, by simp [hc], by simp [hd]⟩

/-- What of a symbol is in a row of packages: what is in their halves. -/
theorem Pt.occ_ch (t : Pt) (s : Nat) : t.occ s = t.lf s + sn (fun x => x.occ s) t.ch := by
  cases t <;> simp [Pt.occ, Pt.lf, Pt.ch, sn]

theorem Pt.vs_ch (k : Nat) (t : Pt) (s : Nat) : t.vs (k + 1) s = 2 ^ (k + 1) * (t.lf s : Int) + sm (fun x => x.vs k s) t.ch := by
  cases t with
  | leaf c a =>
    simp only [Pt.vs, Pt.lf, Pt.ch, sm]
    split <;> simp
  | node c p l r => simp [Pt.vs, Pt.lf, Pt.ch, sm]

/-- Symbols, each once, each of a count above 0. -/
structure Sy (D : Nat → Int) (ss : List Nat) (S : List Pt) : Prop where
  eq : S = ss.map (fun s => .leaf (D s) s)
  nd : ss.Nodup
  pos : ∀ s ∈ ss, 0 < D s ∧ D s ≤ 16777216

theorem nd_count (ss : List Nat) (h : ss.Nodup) (a : Nat) (ha : a ∈ ss) (v : Int) : sm (fun s => if a = s then v else 0) ss = v := by
  induction ss with
  | nil => simp at ha
  | cons x r ih =>
    obtain ⟨h1, h2⟩ := List.nodup_cons.1 h
    simp only [sm]
    by_cases e : a = x
    · subst e
      rw [if_pos rfl, sm_congr (g := fun _ => (0 : Int)) (fun y hy => if_neg (fun (e : a = y) => h1 (e ▸ hy))), sm_zero]
      omega
    · rw [if_neg e, ih h2 (by rcases List.mem_cons.1 ha with h' | h'; exact absurd h' e; exact h')]
      omega

theorem Sy.lf {D : Nat → Int} {ss : List Nat} {S : List Pt} (h : Sy D ss S) (s : Nat) : sn (fun t => t.lf s) S ≤ 1 := by
  rw [h.eq]
  have hn := h.nd
  clear h
  induction ss with
  | nil => simp [sn]
  | cons x r ih =>
    obtain ⟨h1, h2⟩ := List.nodup_cons.1 hn
    rw [List.map_cons]
    show (if x = s then 1 else 0) + sn (fun t => t.lf s) (r.map (fun s => Pt.leaf (D s) s)) ≤ 1
    by_cases e : x = s
    · subst e
      have : sn (fun t => t.lf x) (r.map (fun s => Pt.leaf (D s) s)) = 0 := by
        by_cases h0 : sn (fun t => t.lf x) (r.map (fun s => Pt.leaf (D s) s)) = 0
        · exact h0
        · obtain ⟨t, ht, hf⟩ := sn_pos h0
          obtain ⟨y, hy, rfl⟩ := List.mem_map.1 ht
          simp only [Pt.lf] at hf
          by_cases e : y = x
          · exact absurd (e ▸ hy) h1
          · rw [if_neg e] at hf; exact absurd rfl hf
      rw [if_pos rfl, this]
      omega
    · rw [if_neg e]
      have := ih h2
      omega

/-- A part of the row of number k is well made. -/
def Wf (D : Nat → Int) (ss : List Nat) : Nat → Pt → Prop
  | _, .leaf c s => c = D s ∧ s ∈ ss
  | 0, .node _ _ _ _ => False
  | k + 1, .node c _ l r => c = l.ct + r.ct ∧ Wf D ss k l ∧ Wf D ss k r

theorem Wf.up {D : Nat → Int} {ss : List Nat} {k : Nat} {t : Pt} (h : Wf D ss k t) : Wf D ss (k + 1) t := by
  induction k generalizing t with
  | zero =>
    cases t with
    | leaf c s => exact h
    | node c p l r => exact h.elim
  | succ k ih =>
    cases t with
    | leaf c s => exact h
    | node c p l r => exact ⟨h.1, ih h.2.1, ih h.2.2⟩

theorem Rw.wf {D : Nat → Int} {ss : List Nat} {S : List Pt} (hS : Sy D ss S) {i : Nat} {ys : List Pt} (h : Rw S i ys) : ∀ t ∈ ys, Wf D ss i t := by
  have hl : ∀ k, ∀ t ∈ S, Wf D ss k t := fun k t ht => by
    rw [hS.eq] at ht
    obtain ⟨s, hs, rfl⟩ := List.mem_map.1 ht
    cases k <;> exact ⟨rfl, hs⟩
  induction h with
  | base ys hp _ => exact fun t ht => hl 0 t (hp.mem_iff.1 ht)
  | step i ys zs _ hp _ ih =>
    intro t ht
    rcases List.mem_append.1 (hp.mem_iff.1 ht) with h' | h'
    · exact hl _ t h'
    · obtain ⟨q, a, b, rfl, ha, hb⟩ := prs_node h'
      exact ⟨rfl, ih a ha, ih b hb⟩

theorem Wf.width {D : Nat → Int} {ss : List Nat} (hn : ss.Nodup) {k : Nat} {t : Pt} (h : Wf D ss k t) : sm (fun s => t.vs k s) ss = 2 ^ k := by
  induction k generalizing t with
  | zero =>
    cases t with
    | leaf c a => simp only [Pt.vs]; exact nd_count ss hn a h.2 _
    | node c p l r => exact h.elim
  | succ k ih =>
    cases t with
    | leaf c a => simp only [Pt.vs]; exact nd_count ss hn a h.2 _
    | node c p l r =>
      simp only [Pt.vs]
      rw [sm_add, ih h.2.1, ih h.2.2, Int.pow_succ]
      omega

theorem Wf.cost {D : Nat → Int} {ss : List Nat} (hn : ss.Nodup) {k : Nat} {t : Pt} (h : Wf D ss k t) : sm (fun s => D s * (t.occ s : Int)) ss = t.ct := by
  have hleaf : ∀ c a, c = D a ∧ a ∈ ss → sm (fun s => D s * ((Pt.leaf c a).occ s : Int)) ss = c := fun c a ha => by
    rw [← nd_count ss hn a ha.2 c]
    refine sm_congr (fun s _ => ?_)
    simp only [Pt.occ]
    by_cases e : a = s
    · subst e; rw [if_pos rfl, if_pos rfl, ha.1]; simp
    · rw [if_neg e, if_neg e]; simp
  induction k generalizing t with
  | zero =>
    cases t with
    | leaf c a => exact hleaf c a h
    | node c p l r => exact h.elim
  | succ k ih =>
    cases t with
    | leaf c a => exact hleaf c a h
    | node c p l r =>
      simp only [Pt.occ, Pt.ct]
      rw [h.1, ← ih h.2.1, ← ih h.2.2, ← sm_add]
      refine sm_congr (fun s _ => ?_)
      rw [Int.natCast_add, Int.mul_add]

theorem Wf.occ0 {D : Nat → Int} {ss : List Nat} {k : Nat} {t : Pt} (h : Wf D ss k t) (s : Nat) (hs : s ∉ ss) : t.occ s = 0 := by
  have hleaf : ∀ c a, c = D a ∧ a ∈ ss → (Pt.leaf c a).occ s = 0 := fun c a ha => by
    simp only [Pt.occ]
    rw [if_neg (fun (e : a = s) => hs (e ▸ ha.2))]
  induction k generalizing t with
  | zero =>
    cases t with
    | leaf c a => exact hleaf c a h
    | node c p l r => exact h.elim
  | succ k ih =>
    cases t with
    | leaf c a => exact hleaf c a h
    | node c p l r => simp only [Pt.occ]; rw [ih h.2.1, ih h.2.2]

theorem Wf.bound {D : Nat → Int} {ss : List Nat} (hp : ∀ s ∈ ss, 0 < D s ∧ D s ≤ 16777216) {k : Nat} {t : Pt} (h : Wf D ss k t) : 0 < t.ct ∧ t.ct ≤ 2 ^ k * 16777216 := by
  induction k generalizing t with
  | zero =>
    cases t with
    | leaf c a => have := hp a h.2; have := h.1; simp only [Pt.ct]; omega
    | node c p l r => exact h.elim
  | succ k ih =>
    have e := Int.pow_succ (2 : Int) k
    have := p2 k
    cases t with
    | leaf c a => have := hp a h.2; have := h.1; simp only [Pt.ct]; omega
    | node c p l r =>
      have h1 := ih h.2.1
      have h2 := ih h.2.2
      have h3 := h.1
      simp only [Pt.ct]
      omega

/-- What is strictly rarer than one of X is in X. -/
def Dc (X ys : List Pt) : Prop := ∀ y ∈ ys, ∀ x ∈ X, y.ct < x.ct → y ∈ X

theorem prs_dc {p : Int} {ys : List Pt} (hs : ys.Pairwise Ple) {X : List Pt} (hX : ∀ y ∈ prs p ys, ∀ x ∈ X, y.ct < x.ct → y ∈ X) (hsub : ∀ x ∈ X, x.ch ≠ [] → x ∈ prs p ys) :
    Dc (X.flatMap Pt.ch) ys := by
  intro y hy x hx hlt
  obtain ⟨P, hP, hxP⟩ := List.mem_flatMap.1 hx
  have hPm := hsub P hP (fun e => by rw [e] at hxP; simp at hxP)
  suffices h : ∀ (p : Int) (l : List Pt), l.Pairwise Ple → P ∈ prs p l → y ∈ l → ∃ Q ∈ prs p l, y ∈ Q.ch ∧ (Q = P ∨ Q.ct < P.ct) by
    obtain ⟨Q, hQ, hyQ, hc⟩ := h p ys hs hPm hy
    rcases hc with rfl | hc
    · exact List.mem_flatMap.2 ⟨Q, hP, hyQ⟩
    · exact List.mem_flatMap.2 ⟨Q, hX Q hQ P hP hc, hyQ⟩
  clear hPm hs hsub hX hy
  intro p l
  fun_induction prs p l with
  | case1 p a b r ih =>
    intro hl hm hyl
    obtain ⟨ha, hl2⟩ := List.pairwise_cons.1 hl
    obtain ⟨hb, hr⟩ := List.pairwise_cons.1 hl2
    rcases List.mem_cons.1 hm with rfl | hm
    · refine ⟨_, by simp, ?_, .inl rfl⟩
      simp only [Pt.ch, List.mem_cons, List.not_mem_nil, or_false] at hxP ⊢
      simp only [List.mem_cons] at hyl
      rcases hyl with h' | h' | h'
      · exact .inl h'
      · exact .inr h'
      · rcases hxP with rfl | rfl
        · have := (ha y (by simp [h'])).ct; omega
        · have := (hb y h').ct; omega
    · obtain ⟨q, c, d, rfl, hc, hd⟩ := prs_node hm
      simp only [List.mem_cons] at hyl
      have key : ∀ z, y = a ∨ y = b → ∃ Q ∈ Pt.node (a.ct + b.ct) p a b :: prs (p + 1) r, y ∈ Q.ch ∧ (Q = z ∨ Q.ct < c.ct + d.ct) := fun z hz => by
        refine ⟨.node (a.ct + b.ct) p a b, by simp, by simp [Pt.ch, hz], .inr ?_⟩
        have h1 := (ha c (by simp [hc])).ct
        have h2 := (hb d hd).ct
        have h3 := (ha d (by simp [hd])).ct
        have h4 := (hb c hc).ct
        have h5 := (ha b (by simp)).ct
        simp only [Pt.ch, List.mem_cons, List.not_mem_nil, or_false] at hxP
        show a.ct + b.ct < c.ct + d.ct
        rcases hxP with rfl | rfl <;> rcases hz with rfl | rfl <;> omega
      rcases hyl with h' | h' | h'
      · exact key _ (.inl h')
      · exact key _ (.inr h')
      · obtain ⟨Q, hQ, hyQ, hc⟩ := ih hr hm h'
        exact ⟨Q, by simp [hQ], hyQ, hc⟩
  | case2 p l hne => intro _ h; simp at h

/-- The symbols of a list, each by how much it is in it. -/
theorem occ_flat (X : List Pt) (s : Nat) : sn (fun t => t.occ s) X = sn (fun t => t.lf s) X + sn (fun t => t.occ s) (X.flatMap Pt.ch) := by
  rw [sn_flat, ← sn_add]
  exact sn_congr (fun t _ => t.occ_ch s)

theorem vs_flat (k : Nat) (X : List Pt) (s : Nat) : sm (fun t => t.vs (k + 1) s) X = 2 ^ (k + 1) * (sn (fun t => t.lf s) X : Int) + sm (fun t => t.vs k s) (X.flatMap Pt.ch) := by
  rw [sm_flat]
  induction X with
  | nil => simp [sm, sn]
  | cons t X ih =>
    simp only [sm, sn]
    rw [ih, t.vs_ch k s, Int.natCast_add, Int.mul_add]
    omega

/-- One that is a symbol alone. -/
theorem lf_leaf {t : Pt} {s : Nat} (h : t.lf s ≠ 0) : ∃ c, t = .leaf c s := by
  cases t with
  | leaf c a =>
    simp only [Pt.lf] at h
    by_cases e : a = s
    · exact ⟨c, by rw [e]⟩
    · rw [if_neg e] at h; exact absurd rfl h
  | node c p l r => simp [Pt.lf] at h

theorem Sy.leaf {D : Nat → Int} {ss : List Nat} {S : List Pt} (h : Sy D ss S) {t : Pt} (ht : t ∈ S) : ∃ s ∈ ss, t = .leaf (D s) s := by
  rw [h.eq] at ht
  obtain ⟨s, hs, rfl⟩ := List.mem_map.1 ht
  exact ⟨s, hs, rfl⟩

theorem Sy.ch {D : Nat → Int} {ss : List Nat} {S : List Pt} (h : Sy D ss S) : S.flatMap Pt.ch = [] := by
  rw [List.flatMap_eq_nil_iff]
  intro t ht
  obtain ⟨s, _, rfl⟩ := h.leaf ht
  rfl

/-- Of a row's front that is shut below: each symbol is there once in each of so many rows, one upon the other. -/
theorem Rw.front {D : Nat → Int} {ss : List Nat} {S : List Pt} (hS : Sy D ss S) {i : Nat} {ys : List Pt} (h : Rw S i ys) : ∀ X Z, ys.Perm (X ++ Z) → Dc X ys → ∀ s ∈ ss,
    sn (fun t => t.occ s) X ≤ i + 1 ∧ sm (fun t => t.vs i s) X = 2 ^ (i + 1) - 2 ^ (i + 1 - sn (fun t => t.occ s) X) ∧ (sn (fun t => t.occ s) X ≠ 0 → ∃ t ∈ X, t.lf s ≠ 0) := by
  induction h with
  | base ys hp _ =>
    intro X Z hXZ _ s hs
    have hXS : ∀ t ∈ X, ∃ s ∈ ss, t = .leaf (D s) s := fun t ht => hS.leaf (hp.mem_iff.1 (hXZ.mem_iff.2 (by simp [ht])))
    have h1 : sn (fun t => t.occ s) X = sn (fun t => t.lf s) X := sn_congr (fun t ht => by obtain ⟨a, _, rfl⟩ := hXS t ht; rfl)
    have h2 : sm (fun t => t.vs 0 s) X = (sn (fun t => t.lf s) X : Int) := by
      clear hXZ h1
      rename_i hdcX
      clear hdcX
      induction X with
      | nil => rfl
      | cons t X ih =>
        simp only [sm, sn]
        rw [ih (fun y hy => hXS y (by simp [hy]))]
        obtain ⟨a, _, rfl⟩ := hXS t (by simp)
        simp only [Pt.vs, Pt.lf]
        split <;> omega
    have h3 : sn (fun t => t.lf s) X ≤ 1 := by
      have := hS.lf s
      rw [← sn_perm _ hp, sn_perm _ hXZ, sn_append] at this
      omega
    rw [h1, h2]
    refine ⟨by omega, ?_, fun hne => sn_pos hne⟩
    rcases Nat.le_one_iff_eq_zero_or_eq_one.1 h3 with e | e <;> rw [e] <;> rfl
  | step i ys zs hr hp hz ih =>
    intro X Z hXZ hdc s hs
    have hsort : ys.Pairwise Ple := by cases hr <;> assumption
    have hmem : ∀ t ∈ X, t ∈ S ++ prs 288 ys := fun t ht => hp.mem_iff.1 (hXZ.mem_iff.2 (by simp [ht]))
    obtain ⟨z, hzz⟩ := prs_ch 288 ys
    have hperm : ys.Perm (X.flatMap Pt.ch ++ (Z.flatMap Pt.ch ++ z)) := by
      have h1 := (hXZ.symm.trans hp).flatMap_right Pt.ch
      rw [List.flatMap_append, List.flatMap_append, hS.ch, List.nil_append] at h1
      rw [← List.append_assoc]
      have := (List.perm_append_right_iff z).2 h1.symm
      rwa [← hzz] at this
    have hdc' : Dc (X.flatMap Pt.ch) ys := prs_dc (p := 288) hsort (fun y hy x hx hlt => hdc y (hp.mem_iff.2 (by simp [hy])) x hx hlt) (fun x hx hne => by
      rcases List.mem_append.1 (hmem x hx) with h' | h'
      · obtain ⟨a, _, rfl⟩ := hS.leaf h'
        exact absurd rfl hne
      · exact h')
    obtain ⟨h1, h2, h3⟩ := ih _ _ hperm hdc' s hs
    have h4 : sn (fun t => t.lf s) X ≤ 1 := by
      have h5 := hS.lf s
      have h6 := sn_perm (fun t => t.lf s) hp
      rw [sn_append] at h6
      have h7 : sn (fun t => t.lf s) (prs 288 ys) = 0 := by
        by_cases h0 : sn (fun t => t.lf s) (prs 288 ys) = 0
        · exact h0
        · obtain ⟨t, ht, hf⟩ := sn_pos h0
          obtain ⟨q, a, b, rfl, _, _⟩ := prs_node ht
          exact absurd rfl hf
      have h8 := sn_perm (fun t => t.lf s) hXZ
      rw [sn_append] at h8
      omega
    have ho := occ_flat X s
    have hv := vs_flat i X s
    have hz : sn (fun t => t.lf s) X = 0 → sn (fun t => t.occ s) (X.flatMap Pt.ch) = 0 := by
      intro h0
      by_cases h9 : sn (fun t => t.occ s) (X.flatMap Pt.ch) = 0
      · exact h9
      · obtain ⟨y, hy, hf⟩ := h3 h9
        obtain ⟨c, rfl⟩ := lf_leaf hf
        obtain ⟨P, hP, hyP⟩ := List.mem_flatMap.1 hy
        have hPm : P ∈ prs 288 ys := by
          rcases List.mem_append.1 (hmem P hP) with h' | h'
          · obtain ⟨a, _, rfl⟩ := hS.leaf h'
            simp [Pt.ch] at hyP
          · exact h'
        obtain ⟨q, a, b, rfl, ha, hb⟩ := prs_node hPm
        have wa := (Rw.wf hS hr a ha).bound hS.pos
        have wb := (Rw.wf hS hr b hb).bound hS.pos
        have hlt : (Pt.leaf c s).ct < (Pt.node (a.ct + b.ct) q a b).ct := by
          simp only [Pt.ch, List.mem_cons, List.not_mem_nil, or_false] at hyP
          have e : (Pt.node (a.ct + b.ct) q a b).ct = a.ct + b.ct := rfl
          rw [e]
          rcases hyP with e | e <;> rw [e] <;> omega
        have hyS : Pt.leaf c s ∈ zs := by
          have hyy : Pt.leaf c s ∈ ys := by
            simp only [Pt.ch, List.mem_cons, List.not_mem_nil, or_false] at hyP
            rcases hyP with e | e <;> rw [e] <;> assumption
          have hw := Rw.wf hS hr _ hyy
          have hc : c = D s := by cases i <;> exact hw.1
          refine hp.mem_iff.2 (List.mem_append_left _ ?_)
          rw [hS.eq, hc]
          exact List.mem_map.2 ⟨s, hs, rfl⟩
        have hin := hdc _ hyS _ hP hlt
        have := sn_mem (f := fun t => Pt.lf t s) hin
        have h1' : (Pt.leaf c s).lf s = 1 := by simp [Pt.lf]
        have this' : (Pt.leaf c s).lf s ≤ sn (fun t => t.lf s) X := this
        omega
    refine ⟨by omega, ?_, fun hne => ?_⟩
    · rw [hv, h2, ho]
      rcases Nat.le_one_iff_eq_zero_or_eq_one.1 h4 with e | e
      · rw [e, hz e]
        simp
      · rw [e, show i + 1 + 1 - (1 + sn (fun t => t.occ s) (X.flatMap Pt.ch)) = i + 1 - sn (fun t => t.occ s) (X.flatMap Pt.ch) by omega, Int.pow_succ 2 (i + 1)]
        omega
    · rw [ho] at hne
      by_cases h0 : sn (fun t => t.lf s) X = 0
      · rw [h0, hz h0] at hne
        exact absurd rfl hne
      · exact sn_pos h0

end Go.Proofs.YtiahbicodlgmhaaGreatDoor.Lim
