/- A disk's state in few words. -/
import Derived.Test.YtmpfbemdljfamaaWList
import Derived.Test.YtmpfbemdljfamaaWDisk
namespace Go.Proofs.Ytmpfbemdljfamaa
open Go.RowKit Go.Maps Go.Sort

/-- The numbers and maps of a disk. -/
structure Vw (S : St) (q : Int) (off : Bool) (calls left : Int) (now last rws : List (Lit × DataW Unit)) : Prop where
  q : S.q = q
  off : S.off = off
  calls : S.calls = calls
  left : S.left = left
  now : S.now = .map now
  last : S.last = .map last
  rws : S.rws = .map rws

theorem vw_fresh (q : Int) (H : Nat) : Vw (fresh q H) q false 0 0 [] [] [] := ⟨rfl, rfl, rfl, rfl, rfl, rfl, rfl⟩

/-- Behind an Append that made a file. -/
structure NewF (S S' : St) (r f : Nat) (x1 : Rw) (s : ByteArray) (ys : List Int) : Prop where
  here : ∃ v, S'.F f = some ⟨v, ys, 0⟩
  else_ : ∀ g, g ≠ f → S'.F g = S.F g
  row : ∃ cv fv, S'.R r = some ⟨cv, fv, x1.cs ++ [.made s x1.fs.length], x1.fs ++ [f]⟩

theorem vw_new {S S1 : St} {q : Int} {c l : Int} {now last rws now' rws' : List (Lit × DataW Unit)} {r f : Nat} {x1 : Rw} {a s : ByteArray} {fv cv v : Value} {ys : List Int} (h : Vw S q false c l now last rws) (hr : rowOf (ticked S) a r S1 x1)
    (h1 : (DataW.map now).put (nm s) (pd f) = .map now') (h2 : look (.map rws) a = none → (DataW.map rws).put (nm a) (pd r) = .map rws') (h3 : look (.map rws) a ≠ none → rws' = rws) :
    Vw (filed (newfS S1 r x1 s f fv cv) f ⟨v, ys, 0⟩) q false (c + 1) (max (l - 1) 0) now' last rws' ∧ NewF S (filed (newfS S1 r x1 s f fv cv) f ⟨v, ys, 0⟩) r f x1 s ys := by
  have e : (newfS S1 r x1 s f fv cv).now = S1.now.put (nm s) (pd f) := made_on_eq s x1 f S1.now
  have hF : S1.F = S.F := hr.now.2.1
  refine ⟨?_, ⟨⟨v, upd_same _ _ _⟩, fun g hg => ?_, ⟨cv, fv, upd_same _ _ _⟩⟩⟩
  · rcases hr with ⟨e1, rfl, e2⟩ | ⟨e1, rfl, rfl⟩
    · refine ⟨h.q, h.off, by show S.calls + 1 = _; rw [h.calls], by show max (S.left - 1) 0 = _; rw [h.left], ?_, h.last, ?_⟩
      · show (newfS (ticked S) r x1 s f fv cv).now = _
        rw [e]
        show S.now.put _ _ = _
        rw [h.now, h1]
      · show S.rws = _
        have e1' : look S.rws a = some r := e1
        rw [h.rws] at e1'
        rw [h.rws, h3 (by rw [e1']; simp)]
    · refine ⟨h.q, h.off, by show S.calls + 1 = _; rw [h.calls], by show max (S.left - 1) 0 = _; rw [h.left], ?_, h.last, ?_⟩
      · show (newfS (rowed (ticked S) a r) r _ s f fv cv).now = _
        rw [e]
        show S.now.put _ _ = _
        rw [h.now, h1]
      · show S.rws.put _ _ = _
        have e1' : look S.rws a = none := e1
        rw [h.rws] at e1'
        rw [h.rws, h2 e1']
  · show upd (upd S1.F f _) f _ g = _
    rw [upd_other _ _ hg, upd_other _ _ hg, hF]

theorem vw_ticked {S : St} {q : Int} {off : Bool} {c l : Int} {now last rws : List (Lit × DataW Unit)} (h : Vw S q off c l now last rws) : Vw (ticked S) q off (c + 1) (max (l - 1) 0) now last rws :=
  ⟨h.q, h.off, by show S.calls + 1 = _; rw [h.calls], by show max (S.left - 1) 0 = _; rw [h.left], h.now, h.last, h.rws⟩

theorem vw_filed {S : St} {q : Int} {off : Bool} {c l : Int} {now last rws : List (Lit × DataW Unit)} (h : Vw S q off c l now last rws) (f : Nat) (x : Fl) : Vw (filed S f x) q off c l now last rws := ⟨h.q, h.off, h.calls, h.left, h.now, h.last, h.rws⟩

theorem vw_settled {S : St} {q : Int} {off : Bool} {c l : Int} {now last rws last' rws' : List (Lit × DataW Unit)} {a : ByteArray} {x : Rw} {n : Nat} (h : Vw S q off c l now last rws) (h1 : doN x.fs (x.cs.take n) (.map last) = .map last') (h2 : (DataW.map rws).del (nm a) = .map rws') : Vw (settled S a x n) q off c l now last' rws' :=
  ⟨h.q, h.off, h.calls, h.left, h.now, by show doN _ _ S.last = _; rw [h.last, h1], by show S.rws.del _ = _; rw [h.rws, h2]⟩

theorem vw_off {S : St} {q : Int} {off : Bool} {c l : Int} {now last rws : List (Lit × DataW Unit)} (h : Vw S q off c l now last rws) : Vw (offed S) q true c 0 now last rws := ⟨h.q, rfl, h.calls, rfl, h.now, h.last, h.rws⟩

theorem vw_on {S : St} {q : Int} {off : Bool} {c l : Int} {now last rws : List (Lit × DataW Unit)} (h : Vw S q off c l now last rws) : Vw (onn S) q false c 0 now last rws := ⟨h.q, rfl, h.calls, rfl, h.now, h.last, h.rws⟩

/-- Names: part by part. -/
theorem part_of (s : ByteArray) (h1 : 1 ≤ s.size) (h2 : s.size ≤ 100) (h3 : (s.data.toList == [46]) = false) (h4 : (s.data.toList == [46, 46]) = false) (h5 : (s.data.toList.all fun b => okb b.toNat) = true) : Part s := by
  refine ⟨h1, h2, by rw [Lib.toList_data]; exact h3, by rw [Lib.toList_data]; exact h4, fun i hi => ?_⟩
  have := List.all_eq_true.1 h5 (s[i]'hi) (by
    have : s[i]'hi = s.data[i]'hi := rfl
    rw [this]
    exact Array.getElem_mem_toList ..)
  exact this

abbrev tA : ByteArray := { data := #[97] }

theorem partA : Part tA := part_of _ (by decide) (by decide) (by decide) (by decide) (by decide)

/-- A name in the directory a. -/
theorem nmA (s f : ByteArray) (h0 : ([47] == s.data.toList) = false) (h1 : Lib.indexByte s.data.toList 47 = 1) (h2 : 1 < s.size) (h3 : s.extract 0 1 = tA) (h4 : s.extract 2 s.size = f) (h5 : s.size ≤ 1000) (h6 : Part f) : Nm s tA f :=
  ⟨by rw [Lib.toList_data]; exact h0, ⟨1, by rw [h1]; rfl, h2, h3, h4⟩, h5, partA, h6⟩

abbrev tAB : ByteArray := { data := #[97, 47, 98] }
abbrev tAC : ByteArray := { data := #[97, 47, 99] }

theorem nmAB : Nm tAB tA { data := #[98] } := nmA _ _ (by decide) (by decide) (by decide) (by decide) (by decide) (by decide) (part_of _ (by decide) (by decide) (by decide) (by decide) (by decide))
theorem nmAC : Nm tAC tA { data := #[99] } := nmA _ _ (by decide) (by decide) (by decide) (by decide) (by decide) (by decide) (part_of _ (by decide) (by decide) (by decide) (by decide) (by decide))

end Go.Proofs.Ytmpfbemdljfamaa
