/- The document's rows, cut and put together. -/
import Derived.Test.YtojgablpjdlegaaGreatDoorM10
namespace Go.Proofs.YtojgablpjdlegaaGreatDoor
open Go.RowKit

theorem Rx.is {w : World} {b N : Nat} {d : Array (List Int)} (h : Rx w b N d) (c : Nat) (hc : d.size ≤ c) : Is w (.slice (some ⟨b, 0, none⟩) d.size c) d := by
  obtain ⟨f, h1, h2⟩ := h.row
  have hle := h.le
  refine ⟨⟨_, _, rfl, hc, (fun e => by cases e), fun ad had i hi j hj => ?_⟩, h.ids⟩
  cases had
  rw [Addr.add_lit, Nat.zero_add, h1.cell (i := i * 20 + j) (by omega), h2 i hi j hj]

theorem fst_get (d : Array (List Int)) (k i : Nat) (hk : k ≤ d.size) (hi : i < k) : (fst d k)[i]! = d[i]! := ext_get d k i hk hi
theorem fst_size (d : Array (List Int)) (k : Nat) (hk : k ≤ d.size) : (fst d k).size = k := ext_size d k hk

/-- The names from the k-th on. -/
def snd (d : Array (List Int)) (k : Nat) : Array (List Int) := d.extract k d.size

theorem snd_size (d : Array (List Int)) (k : Nat) : (snd d k).size = d.size - k := by unfold snd; simp

theorem snd_get (d : Array (List Int)) (k i : Nat) (hi : i < d.size - k) : (snd d k)[i]! = d[k + i]! := by
  rw [getElem!_pos _ i (by rw [snd_size]; exact hi), getElem!_pos d (k + i) (by omega)]
  simp [snd]

theorem front35 {B : Nat} {w : World} {v : Value} {d : Array (List Int)} (h : Dn B w v d) (k : Nat) (hk : k ≤ d.size) :
    ∃ ao c, (∀ W, (Instr.sliceAt 50 v none (some (.int .i64 k)) none).run Tryz.prog W = .ok (.slice ao k c) W) ∧ ∀ W, Below w.heap.size w W → Is W (.slice ao k c) (fst d k) := by
  have hz : ∀ w, (sizeOf 26).run Tryz.prog w = .ok 20 w := fun w => by simp [go_sem]
  by_cases h0 : 0 < d.size
  · obtain ⟨b, c, rfl, hc, _, hr⟩ := h.row h0
    refine ⟨some ⟨b, 0, none⟩, c, fun W => ?_, fun W hW => ?_⟩
    · have e2 : 0 ≤ (k : Int) ∧ (k : Int) ≤ (c : Int) := by omega
      unfold Instr.sliceAt Instr.slice Instr.sliceBounds
      simp only [run_underlying Tryz.underlying50, Instr.sliceBound, asIntOf, hz, Result.andThen_ok, Sem.run_bind, Sem.run_pure, if_pos e2, Option.isSome_none, Int.toNat_natCast]
      by_cases h0 : c = 0
      · rw [if_pos h0]; rfl
      · rw [if_neg h0]; rfl
    · obtain ⟨ao, c', e, h1, h2, h3⟩ := ((hr.keep hW).is c hc).sh
      injection e with e1 e2 e3
      subst e1 e3
      refine ⟨⟨_, _, by rw [fst_size d k hk], by rw [fst_size d k hk]; omega, (fun e => by cases e), fun ad had i hi j hj => ?_⟩, fun i hi => ?_⟩
      · rw [fst_size d k hk] at hi
        rw [fst_get d k i hk hi]
        exact h3 ad had i (by omega) j hj
      · rw [fst_size d k hk] at hi
        rw [fst_get d k i hk hi]
        exact h.ids i (by omega)
  · have hd : d.size = 0 := by omega
    obtain rfl : k = 0 := by omega
    have is0 : ∀ W ao c, (ao = none → c = 0) → Is W (.slice ao 0 c) (fst d 0) := fun W ao c hn =>
      ⟨⟨ao, c, by rw [fst_size d 0 hk], by rw [fst_size d 0 hk]; omega, (fun e => ⟨fst_size d 0 hk, hn e⟩), fun ad had i hi => by rw [fst_size d 0 hk] at hi; omega⟩, fun i hi => by rw [fst_size d 0 hk] at hi; omega⟩
    rcases h.own.2 with ⟨rfl, e⟩ | ⟨g, cap, cur, rfl, _⟩
    · refine ⟨none, 0, fun W => ?_, fun W _ => is0 W none 0 (fun _ => rfl)⟩
      have e2 : 0 ≤ ((0 : Nat) : Int) ∧ ((0 : Nat) : Int) ≤ ((0 : Nat) : Int) := by omega
      unfold Instr.sliceAt Instr.slice Instr.sliceBounds
      simp only [run_underlying Tryz.underlying50, Instr.sliceBound, asIntOf, hz, Result.andThen_ok, Sem.run_bind, Sem.run_pure, if_pos e2, Option.isSome_none, Int.toNat_natCast]
      rfl
    · refine ⟨some ⟨g, 0, none⟩, cap, fun W => ?_, fun W _ => is0 W _ cap (fun e => by cases e)⟩
      have e2 : 0 ≤ ((0 : Nat) : Int) ∧ ((0 : Nat) : Int) ≤ (cap : Int) := by omega
      unfold Instr.sliceAt Instr.slice Instr.sliceBounds
      simp only [run_underlying Tryz.underlying50, Instr.sliceBound, asIntOf, hz, Result.andThen_ok, Sem.run_bind, Sem.run_pure, if_pos e2, Option.isSome_none, Int.toNat_natCast]
      by_cases h0 : cap = 0
      · rw [if_pos h0]; rfl
      · rw [if_neg h0]; rfl

theorem back35 {B : Nat} {w : World} {v : Value} {d : Array (List Int)} (h : Dn B w v d) (k : Nat) (hk : k ≤ d.size) :
    ∃ ao m c, (∀ W, (Instr.sliceAt 50 v (some (.int .i64 k)) none none).run Tryz.prog W = .ok (.slice ao m c) W) ∧ m = d.size - k ∧ ∀ W, Below w.heap.size w W → Is W (.slice ao m c) (snd d k) := by
  have hz : ∀ w, (sizeOf 26).run Tryz.prog w = .ok 20 w := fun w => by simp [go_sem]
  have hss := snd_size d k
  by_cases h0 : 0 < d.size
  · obtain ⟨b, c, rfl, hc, _, hr⟩ := h.row h0
    refine ⟨if c = k then some ⟨b, 0, none⟩ else some ⟨b, k * 20, none⟩, d.size - k, c - k, fun W => ?_, rfl, fun W hW => ?_⟩
    · have e2 : 0 ≤ (k : Int) ∧ (k : Int) ≤ (d.size : Int) := by omega
      unfold Instr.sliceAt Instr.slice Instr.sliceBounds
      simp only [run_underlying Tryz.underlying50, Instr.sliceBound, asIntOf, hz, Result.andThen_ok, Sem.run_bind, Sem.run_pure, if_pos e2, Option.isSome_none, Int.toNat_natCast]
      by_cases h1 : c = k
      · simp [h1]
      · simp [h1, Addr.add_lit]
    · obtain ⟨ao, c', e, h1, h2, h3⟩ := ((hr.keep hW).is c hc).sh
      injection e with e1 e2 e3
      subst e1 e3
      refine ⟨⟨_, _, by rw [hss], by rw [hss]; omega, (fun e => by split at e <;> cases e), fun ad had i hi j hj => ?_⟩, fun i hi => ?_⟩
      · rw [hss] at hi
        rw [if_neg (by omega)] at had
        cases had
        rw [snd_get d k i hi]
        have := h3 _ rfl (k + i) (by omega) j hj
        rw [Addr.add_lit, Nat.zero_add] at this
        rw [Addr.add_lit, ← this]
        congr 2
        omega
      · rw [hss] at hi
        rw [snd_get d k i hi]
        exact h.ids (k + i) (by omega)
  · have hd : d.size = 0 := by omega
    obtain rfl : k = 0 := by omega
    have is0 : ∀ W ao m c, m = 0 → (ao = none → c = 0) → Is W (.slice ao m c) (snd d 0) := fun W ao m c hm hn =>
      ⟨⟨ao, c, by rw [hss, hm, hd], by rw [hss]; omega, (fun e => ⟨by rw [hss, hd], hn e⟩), fun ad had i hi => by rw [hss] at hi; omega⟩, fun i hi => by rw [hss] at hi; omega⟩
    rcases h.own.2 with ⟨rfl, e⟩ | ⟨g, cap, cur, rfl, _⟩
    · refine ⟨none, 0, 0, fun W => ?_, by omega, fun W _ => is0 W none 0 0 rfl (fun _ => rfl)⟩
      have e2 : 0 ≤ ((0 : Nat) : Int) ∧ ((0 : Nat) : Int) ≤ ((0 : Nat) : Int) := by omega
      unfold Instr.sliceAt Instr.slice Instr.sliceBounds
      simp only [run_underlying Tryz.underlying50, Instr.sliceBound, asIntOf, hz, Result.andThen_ok, Sem.run_bind, Sem.run_pure, if_pos e2, Option.isSome_none, Int.toNat_natCast]
      rfl
    · refine ⟨some ⟨g, 0, none⟩, d.size - 0, cap - 0, fun W => ?_, rfl, fun W _ => is0 W _ _ _ (by omega) (fun e => by cases e)⟩
      have e2 : 0 ≤ ((0 : Nat) : Int) ∧ ((0 : Nat) : Int) ≤ (d.size : Int) := by omega
      unfold Instr.sliceAt Instr.slice Instr.sliceBounds
      simp only [run_underlying Tryz.underlying50, Instr.sliceBound, asIntOf, hz, Result.andThen_ok, Sem.run_bind, Sem.run_pure, if_pos e2, Option.isSome_none, Int.toNat_natCast]
      by_cases h1 : cap = 0
      · simp [h1]
      · simp [h1, Addr.add_lit]

theorem fl_app (d e : Array (List Int)) : fl (d ++ e) = fl d ++ fl e := by
  unfold fl
  rw [Array.toList_append, List.flatMap_append]

theorem app_ids {d e : Array (List Int)} (hd : ∀ i, i < d.size → IsId d[i]!) (he : ∀ i, i < e.size → IsId e[i]!) : ∀ i, i < (d ++ e).size → IsId (d ++ e)[i]! := by
  intro i hi
  have hi' : i < d.size + e.size := by simpa using hi
  rw [getElem!_pos _ i hi, Array.getElem_append]
  split
  · rename_i h
    have := hd i h
    rwa [getElem!_pos d i h] at this
  · rename_i h
    have := he (i - d.size) (by omega)
    rwa [getElem!_pos e (i - d.size) (by omega)] at this

/-- Names put behind a row. -/
theorem wp_appD {o : Oper} {a : Act} {w : World} {K : Act → World → Prop} {Q : Exit → Act → World → Prop} (s y : Operand)
    (ho : o.op = .call { callee := .builtin .append, args := #[s, y], argTypes := #[50, 50] }) (B : Nat) (v : Value) (d e : Array (List Int)) (hs : a.eval s = v) (h : Dn B w v d) (ao : Option Addr) (m c : Nat) (hy : a.eval y = .slice ao m c) (he : Is w (.slice ao m c) e)
    (hlim : d.size + m < 200000) (hB : B ≤ w.heap.size) (hk : ∀ v' w', Dn B w' v' (d ++ e) → w.grownBy w' v.ownBlock → K (a.put o.dst v') w') : o.wp Tryz.prog a w K Q := by
  obtain ⟨i0, hi, hz0, hz1, hz2⟩ := info_parts Tryz.info22
  have hids := app_ids h.ids he.ids
  cases ao with
  | none =>
    obtain ⟨ao', c', e1, h1, h2, h3⟩ := he.sh
    injection e1 with e2 e3 e4
    obtain ⟨h4, h5⟩ := h2 e2.symm
    have hm : m = 0 := by omega
    have hc : c = 0 := by omega
    subst hm hc
    have hrun := run_append_owned_none (P := Tryz.prog) (w := w) B 50 o.type 26 i0 20 Tryz.underlying50 hi v d.size (fl d) h.own
    have hde : d ++ e = d := by
      have : e = #[] := Array.eq_empty_of_size_eq_zero h4
      rw [this]; simp
    unfold Oper.wp
    simp [execOp, ho, resolve, invoke, builtin, hs, hy, hrun, Result.andThen]
    exact hk v w (by rw [hde]; exact h) (World.grownBy.refl _ _)
  | some ad =>
    have hm : m = e.size := by
      obtain ⟨ao', c', e1, h1, h2, h3⟩ := he.sh
      injection e1 with e2 e3 e4
    subst hm
    refine wp_append_own w s y 50 ho B 26 i0 (.agg zcs) 20 20 Tryz.underlying50 hi hz0 hz1 hz2 rfl (by decide) v d.size (fl d) hs h.own ad e.size c (fl e) hy (fl_len e) he.cellsOf (fl_one e) (by unfold maxLen; omega) (by omega) hB ?_
    intro v' w' g1 g2 _
    exact hk v' w' ⟨by rw [fl_app, Array.size_append]; exact g1, hids⟩ g2

theorem Is.fr {P : Nat → Prop} {w w' : World} {b n c : Nat} {d : Array (List Int)} (h : Is w (.slice (some ⟨b, 0, none⟩) n c) d) (hf : Fr P w w') (hb : ¬ P b) (hl : b < w.heap.size) : Is w' (.slice (some ⟨b, 0, none⟩) n c) d := by
  obtain ⟨ao', c', e1, h1, h2, h3⟩ := h.sh
  injection e1 with e2 e3 e4
  subst e2
  refine ⟨⟨_, c', by rw [e3, e4], h1, (fun e => by cases e), fun ad had i hi j hj => ?_⟩, h.ids⟩
  cases had
  have := h3 _ rfl i hi j hj
  rw [Addr.add_lit] at this ⊢
  rw [← this]
  exact World.cell?_of_block (hf.block b hl hb)

end Go.Proofs.YtojgablpjdlegaaGreatDoor
