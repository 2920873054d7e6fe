/- Append, Remove of a disk with at most three files. -/
import Derived.Test.YtmpfbemdljfamaaQs
namespace Go.Proofs.Ytmpfbemdljfamaa
open Go.RowKit Go.Maps Go.Sort

theorem st_same {α : Type} (g : Nat → α) (k : Nat) (v : α) : st g k v k = v := by simp [st]

theorem st_other {α : Type} (g : Nat → α) {k j : Nat} (v : α) (h : j ≠ k) : st g k v j = g j := by simp [st, h]

theorem qs_rows {S : St} {c : Int} {rws : List (Lit × DataW Unit)} (hc : c ≤ 1000) (h : (rws = []) ∨ ∃ r x, rws = [(nm tA, pd r)] ∧ S.R r = some x ∧ (x.fs.length : Int) ≤ c ∧ (x.cs.length : Int) ≤ c) :
    rws.length < 1024 ∧ ∀ r, look (.map rws) tA = some r → ∃ x, S.R r = some x ∧ x.fs.length < 1000000 ∧ x.cs.length < 1000000 := by
  rcases h with rfl | ⟨r0, x, rfl, hx, h1, h2⟩
  · exact ⟨by decide, fun r e => by cases e⟩
  · refine ⟨by simp, fun r e => ?_⟩
    have e' : some r0 = some r := e
    cases e'
    exact ⟨x, hx, by omega, by omega⟩

theorem appQ_full {S : St} {q c : Int} {g : Nat → Option Nat} {z : Nat → Int} {d : Nat} {O : Nat → Prop} {ao : Option Addr} {m cc : Nat} {w : World} (k : Nat) (hk : k < 3) (h : Qs S q c g z) (hD : Dk w O d S) (hm : m ≤ 4000) (hq : q ≤ 5000) (hu : z 0 + z 1 + z 2 ≤ q) (hf : q < z 0 + z 1 + z 2 + m) :
    Calls Try.prog 9 #[.pointer (some ⟨d, 0, none⟩), .string (tq k), .slice ao m cc] w fun e w' => e = .returned (.int .i64 7) ∧ RowKit.Below w.heap.size w w' := by
  obtain ⟨last, rws, V, hrw⟩ := h.vw
  have hl := look_q g k hk
  have hz : z k ≤ q := by
    have h0 := h.znn 0 (by omega)
    have h1 := h.znn 1 (by omega)
    have h2 := h.znn 2 (by omega)
    match k, hk with
    | 0, _ => omega
    | 1, _ => omega
    | 2, _ => omega
  cases hg : g k with
  | none =>
    exact append_fullnew d O S (tq k) tA (tr k) ao m cc w hD (nmQ k hk) V.off (by rw [V.now, hl, hg]) h.fits (by omega) (by rw [V.q, h.used]; omega) (by rw [h.used]; omega)
  | some f =>
    obtain ⟨x, hx, hl2⟩ := h.fil k hk f hg
    exact append_fullold d O S (tq k) tA (tr k) ao m cc f x w hD (nmQ k hk) V.off (by rw [V.now, hl, hg]) hx h.fits (by omega) (by rw [V.q, h.used]; omega) (by rw [h.used]; omega)

theorem appQ_ok {S : St} {q c : Int} {g : Nat → Option Nat} {z : Nat → Int} {d : Nat} {O : Nat → Prop} {ao : Option Addr} {m cc : Nat} {ys : List Int} {w : World} (k : Nat) (hk : k < 3) (h : Qs S q c g z) (hD : Dk w O d S) (hrd : Rd w ao m cc ys) (na : ∀ ad, ao = some ad → 0 < m → ¬ O ad.block) (hc : c ≤ 1000) (hm : m ≤ 4000) (hq : q ≤ 5000) (hf : z 0 + z 1 + z 2 + m ≤ q) :
    Calls Try.prog 9 #[.pointer (some ⟨d, 0, none⟩), .string (tq k), .slice ao m cc] w fun e w' => e = .returned (.int .i64 0) ∧ ∃ S' g', Qs S' q (c + 1) g' (st z k (z k + m)) ∧ Dk w' (Ow O w w') d S' ∧ Fr O w w' := by
  obtain ⟨last, rws, V, hrw⟩ := h.vw
  have hl := look_q g k hk
  have hcn := h.cn
  have hlen := hrd.len
  have hz : z k ≤ q := by
    have h0 := h.znn 0 (by omega)
    have h1 := h.znn 1 (by omega)
    have h2 := h.znn 2 (by omega)
    match k, hk with
    | 0, _ => omega
    | 1, _ => omega
    | 2, _ => omega
  have hR := qs_rows hc hrw
  have hmax : max ((0 : Int) - 1) 0 = 0 := by decide
  cases hg : g k with
  | none =>
    refine (appV_new V hD hrd na (nmQ k hk) (by unfold Okn; omega) (by rw [hl, hg]) h.fits (by omega) (by rw [h.used]; omega) (by rw [h.used]; omega) (by have := qe_len (g 0) (g 1) (g 2); omega) hR.1 hR.2).mono ?_
    rintro e w' ⟨rfl, r, f, x1, S', hff, hx1, hx2, hvw, N, D, F⟩
    have hnew : ∀ j, j < 3 → ∀ f', g j = some f' → f' ≠ f := by
      intro j hj f' e
      obtain ⟨x, hx, _⟩ := h.fil j hj f' e
      have := (hD.fs.is f' x hx).row.lt
      omega
    refine ⟨rfl, S', st g k (some f), ⟨?_, ?_, ?_, ?_, by omega⟩, D, F⟩
    · obtain ⟨cv, fv, hrow⟩ := N.row
      rcases hrw with rfl | ⟨r0, x, rfl, hx, h1, h2⟩
      · have V' := hvw _ [(nm tA, pd r)] (put_q g k hk f) (fun _ => rfl) (fun e => absurd rfl e)
        rw [hmax] at V'
        have e1 := hx1 rfl
        subst e1
        exact ⟨last, _, V', .inr ⟨r, _, rfl, hrow, by simp; omega, by simp; omega⟩⟩
      · have V' := hvw _ [(nm tA, pd r0)] (put_q g k hk f) (fun e => by cases e) (fun _ => rfl)
        rw [hmax] at V'
        obtain ⟨rfl, e2⟩ := hx2 r0 rfl
        rw [hx] at e2
        cases e2
        exact ⟨last, _, V', .inr ⟨r, _, rfl, hrow, by simp; omega, by simp; omega⟩⟩
    · intro j hj f' e
      by_cases hjk : j = k
      · subst hjk
        rw [st_same] at e ⊢
        cases e
        obtain ⟨v, hv⟩ := N.here
        have := h.non j hj hg
        exact ⟨_, hv, by simp only; omega⟩
      · rw [st_other _ _ hjk] at e ⊢
        rw [N.else_ f' (hnew j hj f' e)]
        exact h.fil j hj f' e
    · intro j hj e
      by_cases hjk : j = k
      · subst hjk
        rw [st_same] at e
        cases e
      · rw [st_other _ _ hjk] at e ⊢
        exact h.non j hj e
    · intro i j hi hj f' e1 e2
      by_cases hik : i = k <;> by_cases hjk : j = k
      · omega
      · subst hik
        rw [st_same] at e1
        rw [st_other _ _ hjk] at e2
        cases e1
        exact absurd rfl (hnew j hj _ e2)
      · subst hjk
        rw [st_same] at e2
        rw [st_other _ _ hik] at e1
        cases e2
        exact absurd rfl (hnew i hi _ e1)
      · rw [st_other _ _ hik] at e1
        rw [st_other _ _ hjk] at e2
        exact h.ap i j hi hj f' e1 e2
  | some f =>
    obtain ⟨x, hx, hl2⟩ := h.fil k hk f hg
    refine (appV_old V hD hrd na (nmQ k hk) (by unfold Okn; omega) (by rw [hl, hg]) hx h.fits (by omega) (by rw [h.used]; omega) (by rw [h.used]; omega)).mono ?_
    rintro e w' ⟨rfl, v, V', D, F⟩
    rw [hmax] at V'
    refine ⟨rfl, _, g, ⟨?_, ?_, ?_, h.ap, by omega⟩, D, F⟩
    · refine ⟨last, rws, V', ?_⟩
      rcases hrw with e | ⟨r0, x, e, hx, h1, h2⟩
      · exact .inl e
      · exact .inr ⟨r0, x, e, hx, by omega, by omega⟩
    · intro j hj f' e
      by_cases hjk : j = k
      · subst hjk
        rw [hg] at e
        cases e
        rw [st_same]
        exact ⟨_, upd_same _ _ _, by simp; omega⟩
      · rw [st_other _ _ hjk]
        obtain ⟨y, hy, hyl⟩ := h.fil j hj f' e
        refine ⟨y, ?_, hyl⟩
        have hne : f' ≠ f := fun e' => by
          subst e'
          exact hjk (h.ap j k hj hk _ e hg)
        show upd S.F f _ f' = _
        rw [upd_other _ _ hne]
        exact hy
    · intro j hj e
      by_cases hjk : j = k
      · subst hjk
        rw [hg] at e
        cases e
      · rw [st_other _ _ hjk]
        exact h.non j hj e

theorem remQ {S : St} {q c : Int} {g : Nat → Option Nat} {z : Nat → Int} {d : Nat} {O : Nat → Prop} {w : World} (k : Nat) (hk : k < 3) (h : Qs S q c g z) (hD : Dk w O d S) (hc : c ≤ 1000) :
    Calls Try.prog 17 #[.pointer (some ⟨d, 0, none⟩), .string (tq k)] w fun e w' => ∃ v S' c' g', e = .returned (.int .i64 v) ∧ Qs S' q c' g' (st z k 0) ∧ c' ≤ c + 1 ∧ Dk w' (Ow O w w') d S' ∧ Fr O w w' := by
  obtain ⟨last, rws, V, hrw⟩ := h.vw
  have hl := look_q g k hk
  have hcn := h.cn
  have hR := qs_rows hc hrw
  cases hg : g k with
  | none =>
    refine (remove_none d O S (tq k) w hD (nmQ k hk).le V.off (by rw [V.now, hl, hg])).mono ?_
    rintro e w' ⟨rfl, hb⟩
    have hz : st z k 0 = z := by
      funext j
      by_cases hjk : j = k
      · subst hjk
        rw [st_same, h.non j hk hg]
      · rw [st_other _ _ hjk]
    refine ⟨6, S, c, g, rfl, by rw [hz]; exact h, by omega, (hD.keep hb).mono (fun _ e => .inl e) (fun b e => e.elim (fun e => Nat.lt_of_lt_of_le (hD.lim b e) hb.size) (fun e => e.2)), Fr.ofBelow hb⟩
  | some f =>
    refine (remove_yes d O S (tq k) tA (tr k) f w hD (nmQ k hk) V.off (by rw [V.now, hl, hg]) (by rw [V.left]; decide) (by rw [V.left]; decide) (by rw [V.calls]; omega) (by rw [V.rws]; exact fun r e => (hR.2 r e).imp fun _ e => ⟨e.1, e.2.2⟩) (by rw [V.rws]; show rws.length < _; unfold maxLen; have := hR.1; omega)).mono ?_
    rintro e w' ⟨rfl, r, S1, x1, cv, hro, D, F⟩
    have hF1 : S1.F = S.F := hro.now.2.1
    refine ⟨0, _, c + 1, st g k none, rfl, ⟨?_, ?_, ?_, ?_, by omega⟩, by omega, D, F⟩
    · rcases hro with ⟨e1, rfl, e2⟩ | ⟨e1, rfl, rfl⟩
      · have e1' : look S.rws tA = some r := e1
        rw [V.rws] at e1'
        rcases hrw with rfl | ⟨r0, x, rfl, hx, h1, h2⟩
        · cases e1'
        · have e3 : some r0 = some r := e1'
          cases e3
          have e4 : S.R r = some x1 := e2
          rw [hx] at e4
          cases e4
          refine ⟨last, [(nm tA, pd r)], ⟨V.q, V.off, by show S.calls + 1 = _; rw [V.calls], by show max (S.left - 1) 0 = _; rw [V.left]; decide, ?_, V.last, V.rws⟩, .inr ⟨r, _, rfl, upd_same _ _ _, by simp; omega, by simp; omega⟩⟩
          show S.now.del _ = _
          rw [V.now, del_q g k hk]
      · have e1' : look S.rws tA = none := e1
        rw [V.rws] at e1'
        rcases hrw with rfl | ⟨r0, x, rfl, hx, h1, h2⟩
        · refine ⟨last, [(nm tA, pd r)], ⟨V.q, V.off, by show S.calls + 1 = _; rw [V.calls], by show max (S.left - 1) 0 = _; rw [V.left]; decide, ?_, V.last, ?_⟩, .inr ⟨r, _, rfl, upd_same _ _ _, by simp; omega, by simp; omega⟩⟩
          · show S.now.del _ = _
            rw [V.now, del_q g k hk]
          · show S.rws.put _ _ = _
            rw [V.rws]
            rfl
        · cases e1'
    · intro j hj f' e
      by_cases hjk : j = k
      · subst hjk
        rw [st_same] at e
        cases e
      · rw [st_other _ _ hjk] at e ⊢
        show ∃ x, S1.F f' = some x ∧ _
        rw [hF1]
        exact h.fil j hj f' e
    · intro j hj e
      by_cases hjk : j = k
      · subst hjk
        exact st_same _ _ _
      · rw [st_other _ _ hjk] at e ⊢
        exact h.non j hj e
    · intro i j hi hj f' e1 e2
      by_cases hik : i = k
      · subst hik
        rw [st_same] at e1
        cases e1
      · by_cases hjk : j = k
        · subst hjk
          rw [st_same] at e2
          cases e2
        · rw [st_other _ _ hik] at e1
          rw [st_other _ _ hjk] at e2
          exact h.ap i j hi hj f' e1 e2

end Go.Proofs.Ytmpfbemdljfamaa
