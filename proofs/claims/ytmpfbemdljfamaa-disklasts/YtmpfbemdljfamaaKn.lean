/- What is known: a disk that loses its power once. -/
import Derived.Test.YtmpfbemdljfamaaView
namespace Go.Proofs.Ytmpfbemdljfamaa
open Go.RowKit Go.Maps Go.Sort

theorem Rd.str {w : World} {ao : Option Addr} {n c : Nat} {xs : List Int} (h : Rd w ao n c xs) : (convert 22 9 (.slice ao n c)).run Try.prog w = .ok (.string (strOfNums xs)) w := by
  cases ao with
  | none =>
    obtain ⟨rfl, rfl⟩ := h.nul rfl
    have hx : xs = [] := List.eq_nil_of_length_eq_zero h.len
    subst hx
    rw [run_convert_bytes_nil w 22 5 Try.underlying22 Try.underlying5 0 0 9 Try.underlying9]
    rfl
  | some ad =>
    have hl : (loadCells ad n).run Try.prog w = .ok (xs.map (Value.int .u8)).toArray w := by
      have := run_loadCells_list (P := Try.prog) w ad (xs.map (Value.int .u8)) (h.cellsOf ad rfl)
      simpa [h.len] using this
    rw [run_convert_bytes_string w 22 9 5 _ n c Try.underlying22 Try.underlying5 Try.underlying9, run_bytesToString w _ n c xs hl, foldl_push_bytes]
    simp [strOfNums, ByteArray.empty, ByteArray.emptyWithCapacity]
    rfl

theorem sets_off {l : List (List UInt8)} {S S1 : St} {ps ps1 : List Int} (h : Sets l S ps S1 ps1) : S1.off = S.off ∧ S1.calls = S.calls ∧ S1.q = S.q ∧ S1.left = S.left := by
  induction h with
  | nil => exact ⟨rfl, rfl, rfl, rfl⟩
  | snoc a r x h1 h2 h3 ih => exact ih

theorem cuts_num {l : List (List UInt8)} {S S1 : St} {ps ps1 : List Int} (h : Cuts l S ps S1 ps1) : S1.q = S.q ∧ S1.left = S.left := by
  induction h with
  | nil => exact ⟨rfl, rfl⟩
  | skip a f x h1 h2 h3 h4 ih => exact ih
  | cut a f x v h1 h2 h3 h4 ih => exact ih

theorem sk_one (k : List UInt8) (d : DataW Unit) : sk (.map [(.string k, d)]) = [k] := by
  simp [sk, strKeys, strOf]

theorem sk_nil : sk (.map []) = [] := by simp [sk, strKeys]

theorem cons_one {l l2 : List (List UInt8)} {a k : List UInt8} (h : [k] = l ++ a :: l2) : l = [] ∧ a = k ∧ l2 = [] := by
  cases l with
  | nil => simp at h; exact ⟨rfl, h.1.symm, h.2⟩
  | cons x l =>
    simp at h

/-- Files of at most so many bytes. -/
def LenB (S : St) (B : Nat) : Prop := ∀ f x, S.F f = some x → x.xs.length ≤ B

theorem lenB_filed {S : St} {B : Nat} (h : LenB S B) (f : Nat) (x : Fl) (hx : x.xs.length ≤ B) : LenB (filed S f x) B := by
  intro g y hy
  rcases upd_cases hy with ⟨rfl, rfl⟩ | ⟨_, hy⟩
  · exact hx
  · exact h g y hy

theorem lenB_new {S S' : St} {r f : Nat} {x1 : Rw} {s : ByteArray} {ys : List Int} {B : Nat} (h : LenB S B) (n : NewF S S' r f x1 s ys) (hy : ys.length ≤ B) : LenB S' B := by
  intro g y hy'
  by_cases e : g = f
  · subst e
    obtain ⟨v, hv⟩ := n.here
    rw [hv] at hy'
    cases hy'
    exact hy
  · rw [n.else_ g e] at hy'
    exact h g y hy'

theorem used_nil {S : St} (h : S.now = .map []) : used S = 0 := by unfold used; rw [h]; rfl

theorem used_one {S : St} {k : Lit} {f : Nat} {x : Fl} (h : S.now = .map [(k, pd f)]) (hx : S.F f = some x) : used S = x.xs.length := by
  unfold used
  rw [h]
  show usum S.F [(k, pd f)] _ = _
  simp [usum, flen, pb_pd, hx]

theorem fits_nil {S : St} (h : S.now = .map []) : Fits S.F S.now := by rw [h]; intro p hp; cases hp

theorem fits_one {S : St} {k : Lit} {f : Nat} {x : Fl} (h : S.now = .map [(k, pd f)]) (hx : S.F f = some x) : Fits S.F S.now := by
  rw [h]
  intro p hp
  obtain rfl := List.mem_singleton.1 hp
  exact ⟨f, x, rfl, hx⟩

/-- What Append does to a disk without names. -/
theorem rowOf_new {S : St} {a : ByteArray} {r : Nat} {S1 : St} {x1 : Rw} (h : rowOf S a r S1 x1) (hl : look S.rws a = none) : x1 = ⟨.slice none 0 0, .slice none 0 0, [], []⟩ := by
  rcases h with ⟨e, _, _⟩ | ⟨_, _, e⟩
  · rw [hl] at e; cases e
  · exact e

/-- Behind the first five calls. -/
structure Kn (S : St) (f : Nat) : Prop where
  vw : ∃ f2 r2 c, Vw S 100 false c 0 [(nm tAB, pd f), (nm tAC, pd f2)] [(nm tAB, pd f)] [(nm tA, pd r2)] ∧ ∃ x2, S.R r2 = some x2 ∧ x2.cs.length ≤ 5
  fil : ∃ v, S.F f = some ⟨v, [120, 121, 122, 119], 3⟩
  len : LenB S 10

/-- Behind the crash, and with power again. -/
structure Kp (S : St) (f : Nat) : Prop where
  now : S.now = .map [(nm tAB, pd f)]
  off : S.off = true
  fil : ∃ v, S.F f = some ⟨v, [120, 121, 122], 3⟩

theorem kn_crash {S S1 S2 : St} {f nb : Nat} {ps1 ps2 : List Int} (h : Kn S f) (hw : ∀ f x, S.F f = some x → 0 ≤ x.s ∧ x.s ≤ x.xs.length) (h1 : Sets (sk S.rws) (offed S) [] S1 ps1) (h2 : Cuts (sk S1.last) { S1 with now := S1.last, nb := nb } ps1 S2 ps2) : Kp S2 f := by
  obtain ⟨f2, r2, c, V, x2, hx2, _⟩ := h.vw
  obtain ⟨v, hv⟩ := h.fil
  obtain ⟨rfl, e1⟩ := sets_none h1 rfl
  have e2 := sets_same h1
  have e3 := sets_off h1
  have e4 := cuts_same h2
  have hl : S1.last = .map [(nm tAB, pd f)] := e1.trans V.last
  have hF : S1.F = S.F := e2.1
  obtain ⟨_, _, hc⟩ := cuts_none h2 rfl (fun f x hx => hw f x (by rw [← hF]; exact hx))
  obtain ⟨x', hx', o1, o2⟩ := hc [97, 47, 98] (by rw [hl, sk_one]; exact List.mem_singleton.2 rfl) f ⟨v, [120, 121, 122, 119], 3⟩ (by show look S1.last _ = _; rw [hl]; rfl) (by show S1.F f = _; rw [hF]; exact hv)
  refine ⟨e4.1.trans hl, e4.2.2.2.1.trans e3.1, x'.v, ?_⟩
  rw [hx']
  cases x'
  simp only at o1 o2
  rw [o1, o2]
  rfl

end Go.Proofs.Ytmpfbemdljfamaa
