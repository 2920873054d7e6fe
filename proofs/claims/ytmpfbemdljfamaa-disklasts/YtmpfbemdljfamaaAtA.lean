/- The disk of DiskLasts and DiskRenames: a few files in the directory a. -/
import Derived.Test.YtmpfbemdljfamaaWKnown
import Derived.Test.YtmpfbemdljfamaaWRnm
namespace Go.Proofs.Ytmpfbemdljfamaa
open Go.RowKit Go.Maps Go.Sort

theorem usum_bd (F : Nat → Option Fl) (B : Nat) (h : ∀ f x, F f = some x → x.xs.length ≤ B) : ∀ es : List (Lit × DataW Unit), usum F es (fun _ => true) ≤ B * es.length := by
  intro es
  induction es with
  | nil => simp [usum]
  | cons p es ih =>
    have h1 : flen F p.2 ≤ B := by
      unfold flen
      split
      · rename_i f _
        split
        · rename_i y hy
          have := h f y hy
          omega
        · omega
      · omega
    have h2 : usum F (p :: es) (fun _ => true) = flen F p.2 + usum F es (fun _ => true) := by simp [usum]
    rw [h2, List.length_cons]
    push_cast
    rw [Int.mul_add]
    omega

/-- The disk, between two calls. -/
structure At (w0 w : World) (d : Nat) (O : Nat → Prop) (S : St) (c : Int) (now last rws : List (Lit × DataW Unit)) : Prop where
  V : Vw S 1048576 false c 0 now last rws
  D : Dk w O d S
  lo : ∀ b, O b → w0.heap.size ≤ b
  B : RowKit.Below w0.heap.size w0 w
  L : LenB S 6000
  cn : 0 ≤ c ∧ c ≤ 100
  ft : Fits S.F (.map now)
  nl : now.length ≤ 3

theorem At.used {w0 w : World} {d : Nat} {O : Nat → Prop} {S : St} {c : Int} {now last rws : List (Lit × DataW Unit)} (A : At w0 w d O S c now last rws) : used S ≤ 18000 := by
  unfold Go.Proofs.Ytmpfbemdljfamaa.used
  rw [A.V.now]
  have := usum_bd S.F 6000 A.L now
  have := A.nl
  show usum S.F now _ ≤ _
  omega

theorem At.na {w0 w : World} {d : Nat} {O : Nat → Prop} {S : St} {c : Int} {now last rws : List (Lit × DataW Unit)} {ao : Option Addr} {m cc : Nat} {ys : List Int} (A : At w0 w d O S c now last rws) (hr : Rd w0 ao m cc ys) : ∀ ad, ao = some ad → 0 < m → ¬ O ad.block := by
  intro ad e hm hb
  have h1 := hr.blk ad e hm
  have h2 := A.lo _ hb
  omega

theorem newA (w0 w : World) (b0 : RowKit.Below w0.heap.size w0 w) : Calls Try.prog 8 #[.int .i64 1048576] w fun e w' => ∃ d O S, e = .returned (.tuple #[.pointer (some ⟨d, 0, none⟩), .int .i64 0]) ∧ At w0 w' d O S 0 [] [] [] := by
  refine (new_any 1048576 w (by omega) (by omega)).mono ?_
  rintro e w1 ⟨d, rfl, D1, b1⟩
  exact ⟨d, _, _, rfl, vw_fresh 1048576 w.heap.size, D1, fun b hb => Nat.le_trans b0.size hb.1, b0.trans (b1.mono b0.size), (fun f x e => by cases e), by omega, (fun p hp => by cases hp), by simp⟩

theorem appA_new {w0 w : World} {d : Nat} {O : Nat → Prop} {S : St} {c : Int} {now last : List (Lit × DataW Unit)} {ao : Option Addr} {m cc : Nat} {ys : List Int} {s b : ByteArray} (A : At w0 w d O S c now last []) (hr : Rd w0 ao m cc ys) (hm : m ≤ 3000) (hN : Nm s tA b) (hl : look (.map now) s = none) (hc : c ≤ 50) (nw : Nat → List (Lit × DataW Unit))
    (hp : ∀ f, (DataW.map now).put (nm s) (pd f) = .map (nw f)) (hs : ∀ f p, p ∈ nw f → p ∈ now ∨ p.2 = pd f) (hz : ∀ f, (nw f).length ≤ 3) :
    Calls Try.prog 9 #[.pointer (some ⟨d, 0, none⟩), .string s, .slice ao m cc] w fun e w' => e = .returned (.int .i64 0) ∧ ∃ O' S' f r, At w0 w' d O' S' (c + 1) (nw f) last [(nm tA, pd r)] ∧ (∃ v, S'.F f = some ⟨v, ys, 0⟩) ∧ (∀ g x, S.F g = some x → S'.F g = some x ∧ g ≠ f) ∧ ∃ cv fv, S'.R r = some ⟨cv, fv, [.made s 0], [f]⟩ := by
  have hu := A.used
  have hcn := A.cn
  have hnl := A.nl
  refine (appV_new A.V A.D (hr.keep A.B) (A.na hr) hN (by unfold Okn; omega) hl (by rw [A.V.now]; exact A.ft) (by omega) (by omega) (by omega) (by omega) (by simp) (fun r e => by cases e)).mono ?_
  rintro e w' ⟨rfl, r, f, x1, S', hff, hx1, -, hvw, N, D', F'⟩
  have V' := hvw (nw f) [(nm tA, pd r)] (hp f) (fun _ => rfl) (fun h => absurd rfl h)
  obtain rfl := hx1 rfl
  obtain ⟨v, hv⟩ := N.here
  obtain ⟨cv, fv, hrow⟩ := N.row
  simp only [List.nil_append, List.length_nil] at hrow
  have hold : ∀ g x, S.F g = some x → S'.F g = some x ∧ g ≠ f := by
    intro g x hx
    have := (A.D.fs.is g x hx).row.lt
    have hne : g ≠ f := by omega
    exact ⟨by rw [N.else_ g hne]; exact hx, hne⟩
  refine ⟨rfl, _, S', f, r, ⟨V', D', ow_lo A.lo A.B.size, fr_lo A.B F' A.lo A.B.size, lenB_new A.L N (by have := hr.len; omega), by omega, ?_, hz f⟩, ⟨v, hv⟩, hold, cv, fv, hrow⟩
  intro p hpm
  rcases hs f p hpm with h | h
  · obtain ⟨g, x, e1, e2⟩ := A.ft p h
    exact ⟨g, x, e1, (hold g x e2).1⟩
  · exact ⟨f, _, h, hv⟩

theorem fits_filed {S : St} {D : DataW Unit} (h : Fits S.F D) (f : Nat) (y : Fl) : Fits (filed S f y).F D := by
  intro p hp
  obtain ⟨g, x, e1, e2⟩ := h p hp
  by_cases e : g = f
  · subst e
    exact ⟨g, y, e1, upd_same _ _ _⟩
  · exact ⟨g, x, e1, by show upd _ _ _ g = _; rw [upd_other _ _ e]; exact e2⟩

theorem appA_old {w0 w : World} {d : Nat} {O : Nat → Prop} {S : St} {c : Int} {now last rws : List (Lit × DataW Unit)} {ao : Option Addr} {m cc f : Nat} {ys : List Int} {s b : ByteArray} {x : Fl} (A : At w0 w d O S c now last rws) (hr : Rd w0 ao m cc ys) (hm : m ≤ 3000) (hN : Nm s tA b) (hl : look (.map now) s = some f) (hx : S.F f = some x) (hxl : x.xs.length ≤ 3000) (hc : c ≤ 50) :
    Calls Try.prog 9 #[.pointer (some ⟨d, 0, none⟩), .string s, .slice ao m cc] w fun e w' => e = .returned (.int .i64 0) ∧ ∃ O' S', At w0 w' d O' S' (c + 1) now last rws ∧ (∃ v, S'.F f = some ⟨v, x.xs ++ ys, x.s⟩) ∧ (∀ g, g ≠ f → S'.F g = S.F g) ∧ S'.R = S.R := by
  have hu := A.used
  have hcn := A.cn
  have hlen := hr.len
  refine (appV_old A.V A.D (hr.keep A.B) (A.na hr) hN (by unfold Okn; omega) hl hx (by rw [A.V.now]; exact A.ft) (by omega) (by omega) (by omega)).mono ?_
  rintro e w' ⟨rfl, v, V', D', F'⟩
  refine ⟨rfl, _, _, ⟨V', D', ow_lo A.lo A.B.size, fr_lo A.B F' A.lo A.B.size, lenB_filed (S := ticked S) A.L _ _ (by simp; omega), by omega, fits_filed (S := ticked S) A.ft _ _, A.nl⟩, ⟨v, upd_same _ _ _⟩, fun g hg => ?_, rfl⟩
  show upd _ _ _ g = _
  rw [upd_other _ _ hg]
  rfl

theorem syncA {w0 w : World} {d : Nat} {O : Nat → Prop} {S : St} {c : Int} {now last rws : List (Lit × DataW Unit)} {f : Nat} {s : ByteArray} {x : Fl} (A : At w0 w d O S c now last rws) (hs : s.size ≤ maxLen) (hl : look (.map now) s = some f) (hx : S.F f = some x) (hc : c ≤ 50) :
    Calls Try.prog 10 #[.pointer (some ⟨d, 0, none⟩), .string s] w fun e w' => e = .returned (.int .i64 0) ∧ ∃ O' S', At w0 w' d O' S' (c + 1) now last rws ∧ S'.F f = some ⟨x.v, x.xs, x.xs.length⟩ ∧ (∀ g, g ≠ f → S'.F g = S.F g) ∧ S'.R = S.R := by
  have hcn := A.cn
  have hxl := A.L f x hx
  refine (syncV A.V A.D hs (by unfold Okn; omega) hl hx).mono ?_
  rintro e w' ⟨rfl, V', D', F'⟩
  refine ⟨rfl, _, _, ⟨V', D', A.lo, fr_lo A.B F' A.lo A.B.size, lenB_filed (S := ticked S) A.L _ _ hxl, by omega, fits_filed (S := ticked S) A.ft _ _, A.nl⟩, upd_same _ _ _, fun g hg => ?_, rfl⟩
  show upd _ _ _ g = _
  rw [upd_other _ _ hg]
  rfl

theorem syncDirA {w0 w : World} {d : Nat} {O : Nat → Prop} {S : St} {c : Int} {now last last' : List (Lit × DataW Unit)} {r : Nat} {x : Rw} (A : At w0 w d O S c now last [(nm tA, pd r)]) (hx : S.R r = some x) (hs : last.length + x.cs.length ≤ 100) (h1 : doN x.fs x.cs (.map last) = .map last') (hc : c ≤ 50) :
    Calls Try.prog 12 #[.pointer (some ⟨d, 0, none⟩), .string tA] w fun e w' => e = .returned (.int .i64 0) ∧ ∃ O' S', At w0 w' d O' S' (c + 1) now last' [] ∧ S'.F = S.F := by
  have hcn := A.cn
  refine (syncDirV (last' := last') (rws' := []) A.V A.D partA (by unfold Okn; omega) rfl hx (by omega) h1 rfl).mono ?_
  rintro e w' ⟨rfl, V', D', F'⟩
  exact ⟨rfl, _, _, ⟨V', D', A.lo, fr_lo A.B F' A.lo A.B.size, A.L, by omega, A.ft, A.nl⟩, rfl⟩

theorem renA {w0 w : World} {d : Nat} {O : Nat → Prop} {S : St} {c : Int} {now last now' : List (Lit × DataW Unit)} {r f : Nat} {x : Rw} {s t b b' : ByteArray} (A : At w0 w d O S c now last [(nm tA, pd r)]) (hx : S.R r = some x) (hxl : x.cs.length ≤ 100) (hN : Nm s tA b) (hN' : Nm t tA b') (hne : (s.toList == t.toList) = false) (hl : look (.map now) s = some f) (hc : c ≤ 50)
    (h1 : ((DataW.map now).put (nm t) ((DataW.map now).atKey (nm s) .nil)).del (nm s) = .map now') (hs : ∀ p, p ∈ now' → ∃ q, q ∈ now ∧ p.2 = q.2) (hz : now'.length ≤ 3) :
    Calls Try.prog 11 #[.pointer (some ⟨d, 0, none⟩), .string s, .string t] w fun e w' => e = .returned (.int .i64 0) ∧ ∃ O' S' cv, At w0 w' d O' S' (c + 1) now' last [(nm tA, pd r)] ∧ S'.F = S.F ∧ S'.R r = some ⟨cv, x.fv, x.cs ++ [.renamed s t], x.fs⟩ := by
  have hcn := A.cn
  have hnl := A.nl
  refine (rename_yes d O S s t tA b b' f w A.D hN hN' hne A.V.off (by rw [A.V.now]; exact hl) (by rw [A.V.left]; omega) (by rw [A.V.left]; omega) (by rw [A.V.calls]; omega) (by
    rw [A.V.rws]
    intro r' e
    have e' : some r = some r' := e
    cases e'
    exact ⟨x, hx, by omega⟩) (by rw [A.V.rws]; show (1 : Nat) < maxLen; unfold maxLen; omega) (by rw [A.V.now]; show now.length < maxLen; unfold maxLen; omega)).mono ?_
  rintro e w' ⟨rfl, r', S1, x1, cv, hro, D', F'⟩
  rcases hro with ⟨e1, rfl, e2⟩ | ⟨e1, rfl, rfl⟩
  · have e1' : look S.rws tA = some r' := e1
    rw [A.V.rws] at e1'
    have e3 : some r = some r' := e1'
    cases e3
    have e4 : S.R r = some x1 := e2
    rw [hx] at e4
    cases e4
    refine ⟨rfl, _, changed (ticked S) r x (.renamed s t) cv, cv, ⟨⟨A.V.q, A.V.off, by show S.calls + 1 = _; rw [A.V.calls], by show max (S.left - 1) 0 = _; rw [A.V.left]; decide, ?_, A.V.last, A.V.rws⟩, D', ow_lo A.lo A.B.size, fr_lo A.B F' A.lo A.B.size, A.L, by omega, ?_, hz⟩, rfl, upd_same _ _ _⟩
    · show (S.now.put (nm t) (S.now.atKey (nm s) .nil)).del (nm s) = _
      rw [A.V.now, h1]
    · intro p hp
      obtain ⟨q, hq, e⟩ := hs p hp
      rw [e]
      exact A.ft q hq
  · have e1' : look S.rws tA = none := e1
    rw [A.V.rws] at e1'
    cases e1'

/-- What a file is behind a crash: some front of it, with all that was synced. -/
def Cutd (x x' : Fl) : Prop := x' = x ∨ ∃ k : Nat, x.s ≤ k ∧ k ≤ x.xs.length ∧ x'.xs = x.xs.take k ∧ x'.s = k

/-- Names that lead to files. -/
def GoodL (S : St) (L : List (Lit × DataW Unit)) : Prop := L.length ≤ 10 ∧ ∀ a ∈ strKeys (.map L), (key a).size ≤ maxLen ∧ ∃ f x, look (.map L) (key a) = some f ∧ S.F f = some x

theorem sk_mem {D : DataW Unit} {a : List UInt8} (h : a ∈ sk D) : a ∈ strKeys D := by
  unfold sk at h
  exact (List.mergeSort_perm _ _).mem_iff.1 h

/-- The disk, once the power is gone, and behind that. -/
structure Cr (w0 w : World) (d : Nat) (O : Nat → Prop) (S S2 : St) (off : Bool) (now : List (Lit × DataW Unit)) : Prop where
  D : Dk w O d S2
  lo : ∀ b, O b → w0.heap.size ≤ b
  B : RowKit.Below w0.heap.size w0 w
  off : S2.off = off
  now : S2.now = .map now
  fil : ∀ f x, S.F f = some x → ∃ x', S2.F f = some x' ∧ Cutd x x'
  len : LenB S2 6000

theorem sets_one {S S1 : St} {a : List UInt8} {ps ps1 : List Int} (h : Sets [a] S ps S1 ps1) : ∃ r x n, look S.rws (key a) = some r ∧ S.R r = some x ∧ n ≤ x.cs.length ∧ S1 = settled S (key a) x n := by
  generalize hl : [a] = l at h
  cases h with
  | nil => cases hl
  | snoc b r x h1 h2 h3 =>
    rename_i l0 S0 ps0
    cases l0 with
    | nil =>
      have e : a = b := by simpa using hl
      subst e
      obtain ⟨rfl, rfl⟩ := sets_inv h1 rfl
      exact ⟨r, x, _, h2, h3, pick1_le _ _, rfl⟩
    | cons y l0 => simp at hl

theorem crashA {w0 w : World} {d : Nat} {O : Nat → Prop} {S : St} {c : Int} {now last rws : List (Lit × DataW Unit)} {ao : Option Addr} {m cc : Nat} {ps : List Int} (A : At w0 w d O S c now last rws) (hr : Ri w0 ao m cc (fun j => ps.getD j 0)) (hn : ps.length = m) (L : Nat → List (Lit × DataW Unit)) (N : Nat)
    (hrw : (rws = [] ∧ L 0 = last) ∨ ∃ r x, rws = [(nm tA, pd r)] ∧ S.R r = some x ∧ x.cs.length = N ∧ ∀ n, n ≤ N → doN x.fs (x.cs.take n) (.map last) = .map (L n)) (hN : N ≤ 10) (hL : ∀ n, n ≤ N → GoodL S (L n)) (hll : last.length ≤ 10) :
    Calls Try.prog 13 #[.pointer (some ⟨d, 0, none⟩), .slice ao m cc] w fun e w' => e = .returned (.tuple #[]) ∧ ∃ O' S2 n, n ≤ N ∧ Cr w0 w' d O' S S2 true (L n) := by
  have hset : ∀ S1 ps1, Sets (sk S.rws) (offed S) ps S1 ps1 → ∃ n, n ≤ N ∧ S1.last = .map (L n) := by
    intro S1 ps1 h
    rw [A.V.rws] at h
    rcases hrw with ⟨rfl, h0⟩ | ⟨r, x, rfl, hx, hxl, hd⟩
    · rw [sk_nil] at h
      obtain ⟨rfl, rfl⟩ := sets_inv h rfl
      exact ⟨0, Nat.zero_le _, by rw [h0]; exact A.V.last⟩
    · rw [sk_one] at h
      obtain ⟨r', x', n, e1, e2, e3, rfl⟩ := sets_one h
      have e1' : look S.rws (key tA.data.toList) = some r' := e1
      rw [A.V.rws] at e1'
      have e4 : some r = some r' := e1'
      cases e4
      have e5 : S.R r = some x' := e2
      rw [hx] at e5
      cases e5
      refine ⟨n, by omega, ?_⟩
      show doN x.fs (x.cs.take n) S.last = _
      rw [A.V.last]
      exact hd n (by omega)
  have hfit : ∀ S1 ps1, Sets (sk S.rws) (offed S) ps S1 ps1 → Maps.size S1.last ≤ 1000000000 ∧ ∀ a ∈ sk S1.last, (key a).size ≤ maxLen ∧ ∃ f x, look S1.last (key a) = some f ∧ S.F f = some x := by
    intro S1 ps1 h
    obtain ⟨n, hn, e⟩ := hset S1 ps1 h
    rw [e]
    have g := hL n hn
    refine ⟨by show (L n).length ≤ _; have := g.1; omega, fun a ha => g.2 a (sk_mem ha)⟩
  have hs : ∀ l a l2 S1 ps1, sk S.rws = l ++ a :: l2 → Sets l (offed S) ps S1 ps1 → ∃ r x, look S1.rws (key a) = some r ∧ S1.R r = some x ∧ Maps.size S1.last + x.cs.length < 1000000000 ∧ (key a).size ≤ maxLen := by
    intro l a l2 S1 ps1 h1 h2
    rw [A.V.rws] at h1
    rcases hrw with ⟨rfl, h0⟩ | ⟨r, x, rfl, hx, hxl, hd⟩
    · rw [sk_nil] at h1
      simp at h1
    · rw [sk_one] at h1
      obtain ⟨rfl, rfl, rfl⟩ := cons_one h1
      obtain ⟨rfl, rfl⟩ := sets_inv h2 rfl
      refine ⟨r, x, ?_, hx, ?_, by decide⟩
      · show look S.rws _ = _
        rw [A.V.rws]
        rfl
      · show Maps.size S.last + _ < _
        rw [A.V.last]
        show last.length + _ < _
        omega
  have na : ∀ ad, ao = some ad → 0 < m → ¬ O ad.block := by
    intro ad e hm hb
    have h1 := hr.blk ad e hm
    have h2 := A.lo _ hb
    omega
  have hsyn : ∀ f x, S.F f = some x → 0 ≤ x.s ∧ x.s ≤ x.xs.length := fun f x hx => (A.D.fs.is f x hx).syn
  refine (crash_any d O S ao m cc ps w A.D (hr.keep A.B) hn na (by rw [A.V.rws]; rcases hrw with ⟨rfl, _⟩ | ⟨r, x, rfl, _⟩ <;> simp [Maps.size]) hs hfit (fun f x hx => Nat.le_trans (A.L f x hx) (by decide))).mono ?_
  rintro e w' ⟨rfl, S1, ps1, nb, S2, ps2, hset1, hcut, D', F'⟩
  obtain ⟨n, hn, e⟩ := hset S1 ps1 hset1
  have e2 := sets_same hset1
  have e3 := sets_off hset1
  have e4 := cuts_same hcut
  have hF : S1.F = S.F := e2.1
  refine ⟨rfl, _, S2, n, hn, ⟨D', ow_lo A.lo A.B.size, fr_lo A.B F' A.lo A.B.size, e4.2.2.2.1.trans e3.1, e4.1.trans e, ?_, ?_⟩⟩
  · intro f x hx
    obtain ⟨x', h1, h2⟩ := cuts_F hcut (fun f x hx => hsyn f x (by rw [← hF]; exact hx)) f x (by show S1.F f = _; rw [hF]; exact hx)
    exact ⟨x', h1, h2⟩
  · exact cuts_len 6000 hcut (fun f x hx => A.L f x (by rw [← hF]; exact hx))

theorem onA {w0 w : World} {d : Nat} {O : Nat → Prop} {S S2 : St} {now : List (Lit × DataW Unit)} (C : Cr w0 w d O S S2 true now) :
    Calls Try.prog 14 #[.pointer (some ⟨d, 0, none⟩)] w fun e w' => e = .returned (.tuple #[]) ∧ ∃ O' S3, Cr w0 w' d O' S S3 false now := by
  refine (on_any d O S2 w C.D).mono ?_
  rintro e w' ⟨rfl, D', F'⟩
  exact ⟨rfl, O, _, ⟨D', C.lo, fr_lo C.B (F'.weak (P' := O) (fun i e => by subst e; exact C.D.own.1)) C.lo C.B.size, rfl, C.now, C.fil, C.len⟩⟩

theorem readA {w0 w : World} {d : Nat} {O : Nat → Prop} {S S2 : St} {now : List (Lit × DataW Unit)} {s : ByteArray} {f : Nat} {x : Fl} (C : Cr w0 w d O S S2 false now) (hs : s.size ≤ maxLen) (hl : look (.map now) s = some f) (hx : S.F f = some x) :
    Calls Try.prog 15 #[.pointer (some ⟨d, 0, none⟩), .string s] w fun e w' => ∃ v x', e = .returned (.tuple #[v, .int .i64 0]) ∧ Cutd x x' ∧ (∀ b ∈ x'.xs, 0 ≤ b ∧ b < 256) ∧ w'.ownsRow w.heap.size 5 1 v x'.xs.length (x'.xs.map (Value.int .u8)) ∧ Cr w0 w' d O S S2 false now := by
  obtain ⟨x', hx', hc⟩ := C.fil f x hx
  have I := C.D.fs.is f x' hx'
  have hl' := C.len f x' hx'
  refine (read_yes d S2 s f x' w C.D.row C.D.now hs C.off (by rw [C.now]; exact hl) I.row I.dat I.byt (by omega)).mono ?_
  rintro e w' ⟨v, rfl, hv, b⟩
  exact ⟨v, x', rfl, hc, I.byt, hv, C.D.keep b, C.lo, C.B.trans (b.mono C.B.size), C.off, C.now, C.fil, C.len⟩

theorem listA {w0 w : World} {d : Nat} {O : Nat → Prop} {S S2 : St} {now : List (Lit × DataW Unit)} (C : Cr w0 w d O S S2 false now) (hz : now.length ≤ 100) (hall : ∀ p ∈ now, ∀ x : ByteArray, p.1 = nm x → 2 ≤ x.size ∧ ((x.extract 0 2).toList == [97, 47]) = true) :
    Calls Try.prog 16 #[.pointer (some ⟨d, 0, none⟩), .string tA] w fun e w' => ∃ v ls, e = .returned (.tuple #[v, .int .i64 0]) ∧ List.Perm ls (now.map fun p => stripK 2 p.1) ∧ w'.ownsRow w.heap.size 9 1 v ls.length ((ls.mergeSort (fun x y => decide (x ≤ y))).map encStr) ∧ RowKit.Below w.heap.size w w' ∧ Cr w0 w' d O S S2 false now := by
  have e1 : (tA ++ slash).size = 2 := by decide
  have e2 : (tA ++ slash).toList = [97, 47] := by rw [Lib.toList_data]; decide
  refine (list_any d O S2 tA w C.D partA C.off (by rw [C.now]; show now.length ≤ _; omega) (by
    rw [C.now, e1, e2]
    exact hall)).mono ?_
  rintro e w' ⟨v, ls, rfl, h1, h2, b⟩
  rw [C.now, e1] at h1
  exact ⟨v, ls, rfl, h1, h2, b, C.D.keep b, C.lo, C.B.trans (b.mono C.B.size), C.off, C.now, C.fil, C.len⟩

end Go.Proofs.Ytmpfbemdljfamaa
