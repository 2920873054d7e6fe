/- The calls, in few words. -/
import Derived.Test.YtmpfbemdljfamaaKn
namespace Go.Proofs.Ytmpfbemdljfamaa
open Go.RowKit Go.Maps Go.Sort

/-- Numbers within bounds. -/
def Okn (c l : Int) : Prop := 0 ≤ c ∧ c ≤ 1000000 ∧ 0 ≤ l ∧ l ≤ 1000000 ∧ l ≠ 1

theorem appV_new {S : St} {q c l : Int} {now last rws : List (Lit × DataW Unit)} {d : Nat} {O : Nat → Prop} {s a b : ByteArray} {ao : Option Addr} {m cc : Nat} {ys : List Int} {w : World} (V : Vw S q false c l now last rws) (h : Dk w O d S) (hrd : Rd w ao m cc ys) (na : ∀ ad, ao = some ad → 0 < m → ¬ O ad.block) (hN : Nm s a b)
    (hk : Okn c l) (hl : look (.map now) s = none) (hfit : Fits S.F S.now) (hlen : m ≤ 262144) (hq : used S + m ≤ q) (hlim : used S ≤ 1000000000) (hn : now.length < 1024) (hz : rws.length < 1024)
    (hR : ∀ r, look (.map rws) a = some r → ∃ x, S.R r = some x ∧ x.fs.length < 1000000 ∧ x.cs.length < 1000000) :
    Calls Try.prog 9 #[.pointer (some ⟨d, 0, none⟩), .string s, .slice ao m cc] w fun e w' => e = .returned (.int .i64 0) ∧ ∃ r f x1 S', w.heap.size ≤ f ∧ (look (.map rws) a = none → x1 = ⟨.slice none 0 0, .slice none 0 0, [], []⟩) ∧ (∀ r', look (.map rws) a = some r' → r = r' ∧ S.R r = some x1) ∧
      (∀ now' rws', (DataW.map now).put (nm s) (pd f) = .map now' → (look (.map rws) a = none → (DataW.map rws).put (nm a) (pd r) = .map rws') → (look (.map rws) a ≠ none → rws' = rws) → Vw S' q false (c + 1) (max (l - 1) 0) now' last rws') ∧ NewF S S' r f x1 s ys ∧ Dk w' (Ow O w w') d S' ∧ Fr O w w' := by
  have k := hk
  unfold Okn at k
  refine (append_new d O S s a b ao m cc ys w h hrd na hN V.off (by rw [V.now]; exact hl) hfit (by omega) (by rw [V.q]; exact hq) (by rw [V.now]; exact hn) hlim (by rw [V.left]; omega) (by rw [V.left]; omega) (by rw [V.calls]; omega) (by rw [V.rws]; exact hR) (by rw [V.rws]; show rws.length < _; unfold maxLen; omega)).mono ?_
  rintro e w' ⟨rfl, r, S1, x1, f, fv, cv, v, hro, hff, D, F⟩
  refine ⟨rfl, r, f, x1, _, hff, ?_, ?_, fun _ _ h1 h2 h3 => (vw_new V hro h1 h2 h3).1, ?_, D, F⟩
  · intro e
    exact rowOf_new hro (by show look S.rws a = none; rw [V.rws]; exact e)
  · intro r' e
    rcases hro with ⟨e1, _, e2⟩ | ⟨e1, _, _⟩
    · have e1' : look S.rws a = some r := e1
      rw [V.rws, e] at e1'
      cases e1'
      exact ⟨rfl, e2⟩
    · have e1' : look S.rws a = none := e1
      rw [V.rws, e] at e1'
      cases e1'
  · have hF : S1.F = S.F := hro.now.2.1
    refine ⟨⟨v, upd_same _ _ _⟩, fun g hg => ?_, ⟨cv, fv, upd_same _ _ _⟩⟩
    show upd (upd S1.F f _) f _ g = _
    rw [upd_other _ _ hg, upd_other _ _ hg, hF]

theorem appV_old {S : St} {q c l : Int} {now last rws : List (Lit × DataW Unit)} {d : Nat} {O : Nat → Prop} {s a b : ByteArray} {ao : Option Addr} {m cc f : Nat} {x : Fl} {ys : List Int} {w : World} (V : Vw S q false c l now last rws) (h : Dk w O d S) (hrd : Rd w ao m cc ys) (na : ∀ ad, ao = some ad → 0 < m → ¬ O ad.block) (hN : Nm s a b)
    (hk : Okn c l) (hl : look (.map now) s = some f) (hx : S.F f = some x) (hfit : Fits S.F S.now) (hlen : x.xs.length + m ≤ 262144) (hq : used S + m ≤ q) (hlim : used S ≤ 1000000000) :
    Calls Try.prog 9 #[.pointer (some ⟨d, 0, none⟩), .string s, .slice ao m cc] w fun e w' => e = .returned (.int .i64 0) ∧ ∃ v, Vw (filed (ticked S) f ⟨v, x.xs ++ ys, x.s⟩) q false (c + 1) (max (l - 1) 0) now last rws ∧ Dk w' (Ow O w w') d (filed (ticked S) f ⟨v, x.xs ++ ys, x.s⟩) ∧ Fr O w w' := by
  have k := hk
  unfold Okn at k
  refine (append_old d O S s a b ao m cc ys f x w h hrd na hN V.off (by rw [V.now]; exact hl) hx hfit (by omega) (by rw [V.q]; exact hq) hlim (by rw [V.left]; omega) (by rw [V.left]; omega) (by rw [V.calls]; omega)).mono ?_
  rintro e w' ⟨rfl, v, D, F⟩
  exact ⟨rfl, v, vw_filed (vw_ticked V) _ _, D, F⟩

theorem syncV {S : St} {q c l : Int} {now last rws : List (Lit × DataW Unit)} {d : Nat} {O : Nat → Prop} {s : ByteArray} {f : Nat} {x : Fl} {w : World} (V : Vw S q false c l now last rws) (h : Dk w O d S) (hs : s.size ≤ maxLen) (hk : Okn c l) (hl : look (.map now) s = some f) (hx : S.F f = some x) :
    Calls Try.prog 10 #[.pointer (some ⟨d, 0, none⟩), .string s] w fun e w' => e = .returned (.int .i64 0) ∧ Vw (filed (ticked S) f ⟨x.v, x.xs, x.xs.length⟩) q false (c + 1) (max (l - 1) 0) now last rws ∧ Dk w' O d (filed (ticked S) f ⟨x.v, x.xs, x.xs.length⟩) ∧ Fr O w w' := by
  have k := hk
  unfold Okn at k
  refine (syncF_yes d O S s f x w h hs V.off (by rw [V.now]; exact hl) hx (by rw [V.left]; omega) (by rw [V.left]; omega) (by rw [V.calls]; omega)).mono ?_
  rintro e w' ⟨rfl, D, F⟩
  exact ⟨rfl, vw_filed (vw_ticked V) _ _, D, F⟩

theorem syncDirV {S : St} {q c l : Int} {now last rws last' rws' : List (Lit × DataW Unit)} {d : Nat} {O : Nat → Prop} {a : ByteArray} {r : Nat} {x : Rw} {w : World} (V : Vw S q false c l now last rws) (h : Dk w O d S) (ha : Part a) (hk : Okn c l) (hl : look (.map rws) a = some r) (hx : S.R r = some x) (hs : last.length + x.cs.length < 1000000000)
    (h1 : doN x.fs x.cs (.map last) = .map last') (h2 : (DataW.map rws).del (nm a) = .map rws') :
    Calls Try.prog 12 #[.pointer (some ⟨d, 0, none⟩), .string a] w fun e w' => e = .returned (.int .i64 0) ∧ Vw (settled (ticked S) a x x.cs.length) q false (c + 1) (max (l - 1) 0) now last' rws' ∧ Dk w' O d (settled (ticked S) a x x.cs.length) ∧ Fr O w w' := by
  have k := hk
  unfold Okn at k
  refine (syncDir_yes d O S a r x w h ha V.off (by rw [V.rws]; exact hl) hx (by rw [V.last]; exact hs) (by rw [V.left]; omega) (by rw [V.left]; omega) (by rw [V.calls]; omega)).mono ?_
  rintro e w' ⟨rfl, D, F⟩
  exact ⟨rfl, vw_settled (vw_ticked V) (by rw [List.take_length]; exact h1) h2, D, F⟩

end Go.Proofs.Ytmpfbemdljfamaa
