/- Used: the bytes of all files. -/
import Derived.Test.YtmpfbemdljfamaaWName
namespace Go.Proofs.Ytmpfbemdljfamaa
open Go.RowKit Go.Maps

/-- The entries of names. -/
def ents : DataW Unit → List (Lit × DataW Unit)
  | .map es => es
  | _ => []

/-- How many bytes the file of an entry has. -/
def flen (F : Nat → Option Fl) (x : DataW Unit) : Int :=
  match pb x with
  | some f => match F f with
    | some y => y.xs.length
    | none => 0
  | none => 0

/-- How many bytes the files of some entries have together. -/
def usum (F : Nat → Option Fl) (es : List (Lit × DataW Unit)) (left : Lit → Bool) : Int := ((es.filter fun p => left p.1).map fun p => flen F p.2).sum

theorem flen_nn (F : Nat → Option Fl) (x : DataW Unit) : 0 ≤ flen F x := by
  unfold flen
  split
  · split <;> omega
  · omega

theorem usum_nn (F : Nat → Option Fl) (es : List (Lit × DataW Unit)) (left : Lit → Bool) : 0 ≤ usum F es left := by
  unfold usum
  generalize es.filter _ = l
  induction l with
  | nil => simp
  | cons a l ih => simp only [List.map_cons, List.sum_cons]; have := flen_nn F a.2; omega

theorem usum_none (F : Nat → Option Fl) (es : List (Lit × DataW Unit)) (left : Lit → Bool) (h : ∀ k, left k = false) : usum F es left = 0 := by
  unfold usum
  rw [List.filter_eq_nil_iff.2 (fun p _ => by rw [h]; simp)]
  rfl

theorem usum_strike (F : Nat → Option Fl) (left : Lit → Bool) (k : Lit) (x : DataW Unit) (hl : left k = true) : ∀ (es : List (Lit × DataW Unit)), es.Pairwise (fun p q => p.1 ≠ q.1) → (∀ p ∈ es, WideAt.IsKeyLit p.1) → (k, x) ∈ es →
    usum F es left = flen F x + usum F es (fun z => left z && !z.sameKey k) := by
  intro es
  induction es with
  | nil => intro _ _ h; cases h
  | cons a es ih =>
    intro hp hk hm
    obtain ⟨h1, h2⟩ := List.pairwise_cons.1 hp
    have kk : k.sameKey k = true := WideAt.sameKey_self (by rcases List.mem_cons.1 hm with e | e
                                                            · rw [← e] at hk; exact hk _ (List.mem_cons_self)
                                                            · exact hk _ (List.mem_cons_of_mem _ e))
    rcases List.mem_cons.1 hm with e | e
    · subst e
      have e1 : usum F es left = usum F es (fun z => left z && !z.sameKey k) := by
        unfold usum
        congr 2
        refine List.filter_congr fun p hp => ?_
        show left p.1 = (left p.1 && !p.1.sameKey k)
        rw [sameKey_ne (show p.1 ≠ k from fun e => h1 p hp e.symm)]
        simp
      have e2 : usum F ((k, x) :: es) left = flen F x + usum F es left := by simp [usum, hl]
      have e3 : usum F ((k, x) :: es) (fun z => left z && !z.sameKey k) = usum F es (fun z => left z && !z.sameKey k) := by simp [usum, kk]
      rw [e2, e3, e1]
    · have hne : a.1 ≠ k := h1 (k, x) e
      have ih' := ih h2 (fun p hp => hk p (List.mem_cons_of_mem _ hp)) e
      have hs := sameKey_ne hne
      cases hla : left a.1 with
      | false =>
        have e2 : usum F (a :: es) left = usum F es left := by simp [usum, hla]
        have e3 : usum F (a :: es) (fun z => left z && !z.sameKey k) = usum F es (fun z => left z && !z.sameKey k) := by simp [usum, hla]
        rw [e2, e3, ih']
      | true =>
        have e2 : usum F (a :: es) left = flen F a.2 + usum F es left := by simp [usum, hla]
        have e3 : usum F (a :: es) (fun z => left z && !z.sameKey k) = flen F a.2 + usum F es (fun z => left z && !z.sameKey k) := by simp [usum, hla, hs]
        rw [e2, e3, ih']
        omega

theorem at_mem {es : List (Lit × DataW Unit)} {k : Lit} {y : DataW Unit} (h : ∀ z, (DataW.map es).atKey k z = y) : (k, y) ∈ es := by
  unfold DataW.atKey at h
  cases hf : es.find? (fun p => p.1.sameKey k) with
  | none =>
    simp only [hf] at h
    have h1 := h .nil
    have h2 := h (.lit (.bool true))
    rw [← h1] at h2
    cases h2
  | some p =>
    simp only [hf] at h
    have hm := List.mem_of_find?_eq_some hf
    have hs := List.find?_some hf
    have := WideAt.sameKey_eq hs
    rw [← h .nil, ← this]
    exact hm

/-- All names lead to files. -/
def Fits (F : Nat → Option Fl) (D : DataW Unit) : Prop := ∀ p ∈ ents D, ∃ f x, p.2 = pd f ∧ F f = some x

/-- All bytes of a disk. -/
def used (S : St) : Int := usum S.F (ents S.now) (fun _ => true)

theorem used_has {F : Nat → Option Fl} {es : List (Lit × DataW Unit)} (hk : ∀ p ∈ es, WideAt.IsKeyLit p.1) : usum F es (Maps.has (.map es)) = usum F es (fun _ => true) := by
  unfold usum
  congr 2
  refine List.filter_congr fun p hp => ?_
  rw [has_eq]
  simp only [List.any_eq_true]
  exact ⟨p, hp, WideAt.sameKey_self (hk p hp)⟩

theorem usum_le (F : Nat → Option Fl) (es : List (Lit × DataW Unit)) (left : Lit → Bool) : usum F es left ≤ usum F es (fun _ => true) := by
  induction es with
  | nil => simp [usum]
  | cons a es ih =>
    have e2 : usum F (a :: es) (fun _ => true) = flen F a.2 + usum F es (fun _ => true) := by simp [usum]
    rw [e2]
    have := flen_nn F a.2
    cases hla : left a.1 with
    | false =>
      have e2 : usum F (a :: es) left = usum F es left := by simp [usum, hla]
      omega
    | true =>
      have e2 : usum F (a :: es) left = flen F a.2 + usum F es left := by simp [usum, hla]
      omega

theorem str_inv {key : Value} {kl : Lit} (h : keyOf Try.prog 9 key = some kl) : ∃ s, key = .string s := by
  cases key <;> simp [keyOf, Try.underlying9, mapKey] at h
  exact ⟨_, rfl⟩

set_option maxRecDepth 100000 in
set_option maxHeartbeats 1000000 in
theorem used_any (d : Nat) (O : Nat → Prop) (S : St) (w : World) (h : Dk w O d S) (ho : S.off = false) (hfit : Fits S.F S.now) (hlim : used S ≤ 1000000000000) :
    Calls Try.prog 18 #[.pointer (some ⟨d, 0, none⟩)] w fun e w' => e = .returned (.int .i64 (used S)) ∧ Below w.heap.size w w' := by
  have c4 := h.row.cell (i := 4) (by omega)
  have c1 := h.row.cell (i := 1) (by omega)
  simp only [dc, ho] at c4 c1
  obtain ⟨es, hD, hap, hkeys⟩ := World.ownsMap.entries h.now law9
  obtain ⟨n, hown⟩ : ∃ n, w.ownsMap Try.prog 9 ptrE S.nb n (.map es) := ⟨Maps.size S.now, by rw [← hD]; exact h.now⟩
  have Hh : Hid (Dk w O d S) := h
  rw [hD] at hfit
  have hU : used S = usum S.F es (fun _ => true) := by unfold used; rw [hD]; rfl
  rw [hU] at hlim ⊢
  clear h hU hD
  go_enter Try.func18, Try.ntmps18
  go_wp2_with (at_range; refine wpList_range_own _ rfl _ 45 rfl 9 51 law9 Try.underlying45 ptrE S.nb n _ rfl hown ?_; intro w0 hrg0 hg0 hs0)
  go_frame
  go_loopw [3] (fun s3 wr => ∃ (left : Lit → Bool) (cnt : Nat) (s : Int), s3 = .int .i64 s ∧ wr.ranges Try.prog 9 ptrE S.nb w.heap.size n (.map es) left cnt ∧ 0 ≤ s ∧ s + usum S.F es left = usum S.F es (fun _ => true) ∧ Below w.heap.size w wr)
    (fun _ wr => wr.rangeLeft S.nb w.heap.size)
  case atStart =>
    exact ⟨_, _, 0, rfl, hrg0, Int.le_refl _, by rw [used_has hkeys]; omega, (Below.refl _ _).grown hg0 (Nat.le_refl _) (fun k e => by cases e)⟩
  case round =>
    obtain ⟨left, cnt, s, rfl, hrg, hs0, hsum, hbl⟩ := hrel
    go_wp2_with (at_next; refine wpList_next_ranges _ rfl _ rfl 9 law9 ptrE Value.string pv (fun key kl h => str_inv h) (fun v y h => ⟨_, ptrE_inv h⟩) S.nb w.heap.size n _ _ _ rfl hrg ?_ ?_)
    · intro _ hl0
      go_wp2
      go_ret
      exact ⟨by rw [← hsum, usum_none _ _ _ hl0, Int.add_zero]; rfl, hbl⟩
    · intro x c kl y yp w1 cnt1 hkey hlk hv hat hrg1 hlt hg1 hs1 hen
      have hmem := at_mem hat
      obtain ⟨f, X, hy, hF⟩ := hfit _ hmem
      have hst := usum_strike S.F left kl y hlk es hap hkeys hmem
      have hb1 : Below w.heap.size w w1 := hbl.grown hg1 hbl.size (fun k e => by cases e; exact Nat.le_refl _)
      have hX := Hh.out.fs.is f X hF
      obtain ⟨av, cv, hxv⟩ := own_shape hX.dat
      have c0 := (rowIs_fr (P := fun _ => False) hX.row (Fr.ofBelow hb1) (fun h => h)).cell (i := 0) (by omega)
      simp only [fc] at c0
      rw [hxv] at c0
      have hfl : flen S.F y = X.xs.length := by
        have hy' : y = pd f := hy
        rw [hy']
        simp only [flen, pb_pd, hF]
      obtain ⟨m, hm⟩ : ∃ m, m = X.xs.length := ⟨_, rfl⟩
      rw [← hm] at c0 hfl
      rw [hfl] at hst
      have hc : c = some f := by
        cases c with
        | none =>
          cases hv
          cases hy
        | some g =>
          cases hv
          have : pd g = pd f := hy
          have e : (g : Int) = f := by
            unfold pd at this
            injection this with this
            injection this
          exact congrArg some (Int.ofNat_inj.1 e)
      subst hc
      have hen' : (Instr.entry (.pointer (some ⟨w.heap.size, 0, none⟩))).run Try.prog w1 = .ok (.tuple #[.string x, .pointer (some ⟨f, 0, none⟩)]) w1 := hen
      have hun := usum_nn S.F es (fun z => left z && !z.sameKey kl)
      have q1 : IntKind.i64.wrap (s + (m : Int)) = s + m := by rw [IntKind.wrap_i64]; omega
      have q2 : wrap64 (s + (m : Int)) = s + m := IntWalk.wrap64_in _ (by omega)
      clear hen hv hy hm hX hxv hat
      go_wp2
      go_roundw
      case rel => exact ⟨_, cnt1, s + m, rfl, hrg1, by omega, by omega, hb1⟩
      case measure => rw [hrg1.left_eq, hrg.left_eq]; exact hlt

end Go.Proofs.Ytmpfbemdljfamaa
