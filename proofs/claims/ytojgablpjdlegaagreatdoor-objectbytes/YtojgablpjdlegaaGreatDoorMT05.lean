/- TrI, TrJ. -/
import Derived.Test.YtojgablpjdlegaaGreatDoorMT04
import Derived.Test.YtojgablpjdlegaaGreatDoorMC07
/- Entries of the call's own, in memory. -/
namespace Go.Proofs.YtojgablpjdlegaaGreatDoor
open Go.RowKit Go.Shelf

/-- The cells of entries. -/
def fle (l : List En) : List Value := l.flatMap (fun e => vals (ecl e) 22)

theorem fle_len (l : List En) : (fle l).length = l.length * 22 := by
  induction l with
  | nil => rfl
  | cons a l ih =>
    have : fle (a :: l) = vals (ecl a) 22 ++ fle l := by simp [fle]
    rw [this, List.length_append, vals_len, ih, List.length_cons]
    omega

theorem fle_get : ∀ (l : List En) (i j : Nat), i < l.length → j < 22 → (fle l)[i * 22 + j]? = some (ecl (l.getD i default) j)
  | [], _, _, hi, _ => by simp at hi
  | a :: l, i, j, hi, hj => by
    have e : fle (a :: l) = vals (ecl a) 22 ++ fle l := by simp [fle]
    rw [e]
    cases i with
    | zero =>
      rw [List.getElem?_append_left (by rw [vals_len]; omega), Nat.zero_mul, Nat.zero_add, vals_get _ _ _ hj]
      rfl
    | succ i =>
      rw [List.getElem?_append_right (by rw [vals_len]; omega), vals_len, show (i + 1) * 22 + j - 22 = i * 22 + j by omega, fle_get l i j (by simpa using hi) hj]
      rfl

theorem fle_one (l : List En) : ∀ u ∈ fle l, u.oneCell' = true := by
  intro u hu
  unfold fle at hu
  obtain ⟨e, _, hu⟩ := List.mem_flatMap.1 hu
  unfold vals at hu
  obtain ⟨j, _, rfl⟩ := List.mem_map.1 hu
  exact ecl_one e j

theorem fle_snoc (l : List En) (x : En) : fle (l ++ [x]) = fle l ++ vals (ecl x) 22 := by simp [fle]

theorem bangE (d : Array En) (i : Nat) (hi : i < d.size) : d.toList.getD i default = d[i]! := by
  rw [getElem!_pos d i hi, List.getD, List.getElem?_eq_getElem (by simpa using hi)]
  simp

/-- A slice of entries that the call has made. -/
structure De (B : Nat) (w : World) (v : Value) (d : Array En) : Prop where
  own : w.ownsRow B 79 22 v d.size (fle d.toList)
  ok : ∀ i, i < d.size → okE d[i]!

theorem De.keep {B : Nat} {w w' : World} {v : Value} {d : Array En} (h : De B w v d) (hf : Below w.heap.size w w') : De B w' v d :=
  ⟨ownsRow_fr (P := fun _ => False) h.own (Fr.ofBelow hf) (fun _ _ h => h), h.ok⟩

theorem De.es {B : Nat} {w : World} {v : Value} {d : Array En} (h : De B w v d) : Es w v d := by
  rcases h.own.2 with ⟨rfl, e⟩ | ⟨g, cap, cur, rfl, hb, hh, hle, hmx, hsz, htk⟩
  · exact ⟨⟨none, 0, by rw [e], by omega, fun _ => ⟨e, rfl⟩, fun ad had => by cases had⟩, h.ok⟩
  · refine ⟨⟨_, cap, rfl, hle, (fun e => by cases e), fun ad had i hi j hj => ?_⟩, h.ok⟩
    cases had
    have := h.own.cells (g := g) rfl (i * 22 + j) (ecl d[i]! j) (by rw [fle_get d.toList i j (by simpa using hi) hj, bangE d i hi])
    exact this

theorem De.fr {P : Nat → Prop} {B : Nat} {w w' : World} {v : Value} {d : Array En} (h : De B w v d) (hf : Fr P w w') (hP : ∀ k, B ≤ k → ¬ P k) : De B w' v d :=
  ⟨ownsRow_fr h.own hf (fun k hk hp => by
    rcases h.own.2 with ⟨e, _⟩ | ⟨g, cap, cur, e, hg, _⟩
    · rw [e] at hk; cases hk
    · rw [e] at hk; cases hk; exact hP _ hg hp), h.ok⟩

theorem De.grown {B C : Nat} {w w' : World} {v : Value} {d : Array En} (h : De B w v d) (hg : w.grownBy w' v.ownBlock) (hC : C ≤ B) (hw : C ≤ w.heap.size) : Below C w w' :=
  (Below.refl _ w).grown hg hw (fun k hk => by
    rcases h.own.2 with ⟨e, _⟩ | ⟨g, cap, cur, e, hg, _⟩
    · rw [e] at hk; cases hk
    · rw [e] at hk; cases hk; exact Nat.le_trans hC hg)

theorem De.shape {B : Nat} {w : World} {v : Value} {d : Array En} (h : De B w v d) : ∃ ao c, v = .slice ao d.size c := by
  rcases h.own.2 with ⟨rfl, e⟩ | ⟨g, cap, cur, e, _⟩
  · exact ⟨none, 0, by rw [e]⟩
  · exact ⟨_, _, e⟩

theorem de_nil (B : Nat) (w : World) : De B w nlv #[] := ⟨World.ownsRow_nil _ _ _ _, fun i hi => absurd hi (by simp)⟩

theorem run_bs39 (x : En) (w : World) : (Instr.buildSlice 39 1 #[(0, eV x)]).run Tryz.prog w = .ok (.slice (some ⟨w.heap.size, 0, none⟩) 1 1) (w.alloc (.cells (vals (ecl x) 22).toArray 79)) := by kernel_rfl

theorem step_bs39 {ops : Array Oper} {op : Oper} {a : Act} {w : World} {K : Act → World → Prop} {Q : Exit → Act → World → Prop} {E : Prop} (hgd : op.guard = none) (y : Operand) (ho : op.op = .buildSlice 39 1 #[(0, y)]) (x : En) (hy : a.eval y = eV x)
    (hk : K (a.put op.dst (.slice (some ⟨w.heap.size, 0, none⟩) 1 1)) (w.alloc (.cells (vals (ecl x) 22).toArray 79))) : if Region.wanted op (yielded ops a.tmps) = true then Oper.wp Tryz.prog op a w K Q else E := by
  have hw : Region.wanted op (yielded ops a.tmps) = true := by simp [Region.wanted, hgd]
  rw [if_pos hw]
  have h := run_bs39 x w
  unfold Oper.wp
  simp only [execOp, ho, List.map_toArray, List.map_cons, List.map_nil, hy, Sem.run_bind, h, Result.andThen_ok, Sem.run_pure]
  exact hk

theorem Tryz.info79e : (Tryz.prog.info? 79).map (fun i => (i.zero, i.size, i.bytes)) = some (some (env 0 ⟨#[]⟩ z20), 22, 48) := by kernel_rfl

theorem step_appE {ops : Array Oper} {o : Oper} {a : Act} {w : World} {K : Act → World → Prop} {Q : Exit → Act → World → Prop} {E : Prop} (hw : Region.wanted o (yielded ops a.tmps) = true) (s y : Operand)
    (ho : o.op = .call { callee := .builtin .append, args := #[s, y], argTypes := #[39, 39] }) (B : Nat) (v : Value) (d : Array En) (x : En) (X : Nat) (hx : okE x) (hs : a.eval s = v) (hy : a.eval y = .slice (some ⟨X, 0, none⟩) 1 1)
    (hX : w.rowIs X 79 22 (ecl x)) (h : De B w v d) (hlim : d.size < 100000) (hB : B ≤ w.heap.size)
    (hk : ∀ v' w', De B w' v' (d.push x) → w.grownBy w' v.ownBlock → K (a.put o.dst v') w') : if Region.wanted o (yielded ops a.tmps) = true then Oper.wp Tryz.prog o a w K Q else E := by
  rw [if_pos hw]
  obtain ⟨i0, hi, hz0, hz1, hz2⟩ := info_parts Tryz.info79e
  refine wp_append_own w s y 39 ho B 79 i0 (env 0 ⟨#[]⟩ z20) 22 48 Tryz.underlying39 hi hz0 hz1 hz2 rfl (by decide) v d.size (fle d.toList) hs h.own ⟨X, 0, none⟩ 1 1 (vals (ecl x) 22) hy (by rw [vals_len]) (fun j u hu => ?_) (fun u hu => ?_) (by unfold maxLen; omega) (by omega) hB ?_
  · have hj : j < 22 := by
      have := (List.getElem?_eq_some_iff.1 hu).1
      rwa [vals_len] at this
    rw [vals_get _ _ _ hj] at hu
    cases hu
    rw [Addr.add_lit, Nat.zero_add]
    exact hX.cell (i := j) hj
  · unfold vals at hu
    obtain ⟨j, _, rfl⟩ := List.mem_map.1 hu
    exact ecl_one x j
  · intro v' w' g1 g2 _
    refine hk v' w' ⟨by rw [Array.size_push, Array.toList_push, fle_snoc]; exact g1, fun i hi => ?_⟩ g2
    rw [Array.size_push] at hi
    by_cases e : i = d.size
    · subst e
      rw [getElem!_pos _ _ (by simp)]
      simpa using hx
    · have hi2 : i < d.size := by omega
      have := h.ok i hi2
      rw [getElem!_pos d i hi2] at this
      rw [getElem!_pos _ _ (by simp; omega), Array.getElem_push_lt hi2]
      exact this

theorem step_st39 {ops : Array Oper} {op : Oper} {a : Act} {w : World} {K : Act → World → Prop} {Q : Exit → Act → World → Prop} {E : Prop} (hgd : op.guard = none) (x y : Operand) (ho : op.op = .store 39 x y) (b i : Nat) (hx : a.eval x = .pointer (some ⟨b, i, none⟩)) (p : Option Addr) (n c : Nat) (hy : a.eval y = .slice p n c)
    (u : Value) (hc : w.cell? ⟨b, i, none⟩ = some u) (hf : w.frozen? ⟨b, i, none⟩ = false) (hk : K (a.put op.dst undef) (w.setCell ⟨b, i, none⟩ (.slice p n c))) : if Region.wanted op (yielded ops a.tmps) = true then Oper.wp Tryz.prog op a w K Q else E := by
  have hw : Region.wanted op (yielded ops a.tmps) = true := by simp [Region.wanted, hgd]
  rw [if_pos hw]
  unfold Oper.wp
  simp only [execOp, ho, hx, hy]
  simp [go_sem, hc, hf]
  exact hk

/-- The entries of some bytes; the fault behind them. -/
inductive Ens : List UInt8 → Int → List En → Int → Prop
  | stop (e : Int) : Ens [] e [] e
  | more (l : List UInt8) (e : Int) (es : List En) (e' : Int) (h : l ≠ []) (t : Ens (ent1 l e).2.1 (ent1 l e).2.2 es e') : Ens l e ((ent1 l e).1 :: es) e'

theorem cut_less (l : List UInt8) (s : UInt8) (h : l ≠ []) : (cu (Lib.cut l [s])).2.length < l.length := by
  have hp := List.length_pos_iff.2 h
  unfold cu Lib.cut
  by_cases hi : 0 ≤ Lib.index l [s]
  · rw [if_pos hi]
    simp
    omega
  · rw [if_neg hi]
    simpa using hp

theorem cut_le (l : List UInt8) (s : UInt8) : (cu (Lib.cut l [s])).2.length ≤ l.length ∧ (cu (Lib.cut l [s])).1.length ≤ l.length := by
  have h1 := cu_len2 (Lib.cut l [s])
  have h2 := cut_len1 l [s]
  omega

theorem szd_le (l : List UInt8) : (cu (szd 20 l)).2.length ≤ l.length := by
  unfold cu szd
  by_cases h : l.length < 20
  · rw [if_pos h]; simp
  · rw [if_neg h]; simp

theorem ent1_less (l : List UInt8) (e : Int) (h : l ≠ []) : (ent1 l e).2.1.length < l.length := by
  have h1 := cut_less l 32 h
  have h2 := (cut_le (cu (Lib.cut l [32])).2 0).1
  have h3 := szd_le (cu (Lib.cut (cu (Lib.cut l [32])).2 [0])).2
  unfold ent1
  show (cu (szd 20 (cu (Lib.cut (cu (Lib.cut l [32])).2 [0])).2)).2.length < l.length
  omega

theorem idO_id (p : List UInt8) : IsId (idO p) := by
  unfold idO
  by_cases h : p.length = 20
  · rw [if_pos h]
    exact ⟨by rw [tn_len, h], tn_byt p⟩
  · rw [if_neg h]
    exact ⟨by simp, fun b hb => by
      have := List.eq_of_mem_replicate hb
      omega⟩

theorem mdo_range (l : List UInt8) : -9223372036854775808 ≤ mdo l ∧ mdo l ≤ 9223372036854775807 := by
  unfold mdo
  repeat' split
  all_goals decide

theorem ent1_ok (l : List UInt8) (e : Int) (h : l.length ≤ 50000) : okE (ent1 l e).1 := by
  have h1 := (cut_le l 32).1
  have h2 := (cut_le (cu (Lib.cut l [32])).2 0).2
  refine ⟨(mdo_range _).1, (mdo_range _).2, ?_, idO_id _⟩
  show (cu (Lib.cut (cu (Lib.cut l [32])).2 [0])).1.length ≤ 100000
  omega

theorem ens_ex : ∀ (n : Nat) (l : List UInt8) (e : Int), l.length ≤ n → ∃ es e', Ens l e es e'
  | 0, l, e, h => by
    have : l = [] := List.eq_nil_of_length_eq_zero (by omega)
    subst this
    exact ⟨[], e, .stop e⟩
  | n + 1, l, e, h => by
    by_cases hl : l = []
    · subst hl
      exact ⟨[], e, .stop e⟩
    · obtain ⟨es, e', ht⟩ := ens_ex n (ent1 l e).2.1 (ent1 l e).2.2 (by have := ent1_less l e hl; omega)
      exact ⟨_, e', .more l e es e' hl ht⟩

theorem ens_len : ∀ {l : List UInt8} {e : Int} {es : List En} {e' : Int}, Ens l e es e' → es.length ≤ l.length
  | _, _, _, _, .stop e => by simp
  | _, _, _, _, .more l e es e' h t => by
    have h1 := ens_len t
    have h2 := ent1_less l e h
    simp
    omega

end Go.Proofs.YtojgablpjdlegaaGreatDoor

/- A tree read, whatever the bytes. -/
namespace Go.Proofs.YtojgablpjdlegaaGreatDoor
open Go.RowKit Go.Shelf

/-- What stands in memory while entries are read: the reader, what is parsed so far (with a slice pv in its cell), the entries ev. -/
structure T1 (w : World) (B R P0 P1 : Nat) (pv ev : Value) (es : Array En) (lc : List UInt8) (ec : Int) (V : World) : Prop where
  r : V.rowIs R 150 2 (rf lc ec)
  p : V.rowIs P0 107 50 (psf pv (cf z20 nlv [] [] []) (tf z20 0 [] [] []) nlv)
  q : V.rowIs P1 107 50 ps0
  o : De B V ev es
  f : Fr (fun i => i = R ∨ w.heap.size ≤ i) w V
  s : B ≤ V.heap.size
  g : Ts V

theorem T1.keep {w : World} {B R P0 P1 : Nat} {pv ev : Value} {es : Array En} {lc : List UInt8} {ec : Int} {V V' : World} (h : T1 w B R P0 P1 pv ev es lc ec V) (b : Below V.heap.size V V') : T1 w B R P0 P1 pv ev es lc ec V' :=
  ⟨rowIs_fr (P := fun _ => False) h.r (Fr.ofBelow b) (fun h => h), rowIs_fr (P := fun _ => False) h.p (Fr.ofBelow b) (fun h => h), rowIs_fr (P := fun _ => False) h.q (Fr.ofBelow b) (fun h => h), h.o.keep b, h.f.trans (P' := fun _ => False) (Fr.ofBelow b) (fun _ _ h => h.elim), Nat.le_trans h.s b.size, h.g.keep b⟩

theorem T1.cut {w : World} {B R P0 P1 : Nat} {pv ev : Value} {es : Array En} {lc lc' : List UInt8} {ec ec' : Int} {V V' : World} (h : T1 w B R P0 P1 pv ev es lc ec V) (h1 : 9 < R) (h2 : R < B) (h3 : P0 ≠ R) (h4 : P1 ≠ R) (f : Fr (fun i => i = R) V V') (r : V'.rowIs R 150 2 (rf lc' ec')) : T1 w B R P0 P1 pv ev es lc' ec' V' :=
  ⟨r, rowIs_fr h.p f (fun e => h3 e), rowIs_fr h.q f (fun e => h4 e), h.o.fr f (fun k hk e => by omega), h.f.trans f (fun _ _ e => .inl e), Nat.le_trans h.s f.size, h.g.fr f (fun i hi e => by omega)⟩

theorem T1.app {w : World} {B R P0 P1 : Nat} {pv ev ev' : Value} {es es' : Array En} {lc : List UInt8} {ec : Int} {V V' : World} (h : T1 w B R P0 P1 pv ev es lc ec V) (h2 : R < B) (h3 : P0 < B) (h4 : P1 < B) (h5 : w.heap.size ≤ B) (h6 : 10 ≤ B) (g : V.grownBy V' ev.ownBlock) (o : De B V' ev' es') : T1 w B R P0 P1 pv ev' es' lc ec V' := by
  have hb := h.o.grown g (Nat.le_refl _) h.s
  have f : Fr (fun k => B ≤ k) V V' := ⟨hb.os, hb.tape, hb.output, hb.size, fun k hk hn => hb.block k (by omega)⟩
  exact ⟨rowIs_fr h.r f (by omega), rowIs_fr h.p f (by omega), rowIs_fr h.q f (by omega), o, h.f.trans f (fun i _ e => .inr (by omega)), Nat.le_trans h.s f.size, h.g.fr f (fun i hi e => by omega)⟩

theorem psf_set (pv ev ed : Value) (f g : Nat → Value) (j : Nat) : psf ev f g ed j = if j = 0 then ev else psf pv f g ed j := by
  unfold psf
  by_cases h0 : j = 0
  · rw [if_pos h0, if_pos h0]
  · rw [if_neg h0, if_neg h0, if_neg h0]

theorem T1.set {w : World} {B R P0 P1 : Nat} {pv ev : Value} {es : Array En} {lc : List UInt8} {ec : Int} {V : World} (h : T1 w B R P0 P1 pv ev es lc ec V) (h2 : P0 < B) (h3 : R ≠ P0) (h4 : P1 ≠ P0) (h5 : w.heap.size ≤ P0) (h6 : 10 ≤ P0) : T1 w B R P0 P1 ev ev es lc ec (V.setCell ⟨P0, 0, none⟩ ev) := by
  have f := set_fr V P0 0 ev
  exact ⟨rowIs_fr h.r f (by omega), set_row h.p 0 ev (fun j _ => psf_set pv ev _ _ _ j), rowIs_fr h.q f (by omega), h.o.fr f (fun k hk e => by omega), h.f.trans f (fun i _ e => .inr (by omega)), Nat.le_trans h.s f.size, h.g.fr f (fun i hi e => by omega)⟩

theorem ld39 (W : World) (ad : Addr) (a : Option Addr) (n c : Nat) (h : W.cell? ad = some (.slice a n c)) : (loadVar 39 ad).run Tryz.prog W = .ok (.slice a n c) W := by simp [go_sem, h]

theorem c155 (vs : Array Value) (w : World) : (callFunc 155 vs).run Tryz.prog w = .ok (.enter 155 vs) w := by simp [go_sem]

theorem ens_more {l : List UInt8} {e : Int} {es : List En} {e' : Int} (h : Ens l e es e') (hl : l ≠ []) : ∃ es', es = (ent1 l e).1 :: es' ∧ Ens (ent1 l e).2.1 (ent1 l e).2.2 es' e' := by
  cases h with
  | stop e => exact absurd rfl hl
  | more _ _ es' _ _ t => exact ⟨es', rfl, t⟩

theorem ens_stop {e : Int} {es : List En} {e' : Int} (h : Ens [] e es e') : es = [] ∧ e' = e := by
  cases h with
  | stop e => exact ⟨rfl, rfl⟩
  | more _ _ es' _ h t => exact absurd rfl h

/-- What a tree leads to. -/
def eds (l : List En) : List (List Int) := (l.filter (fun e => decide (e.m ≠ 57344))).map En.id

/-- The fault of a tree, behind that of its bytes. -/
noncomputable def tef (es : Array En) (e : Int) : Int := nd (decide (es.size ≤ 512)) (nd (es.toList.all eB && riB es) e 2) 5


/-- What stands in memory while the edges are gathered. -/
structure T2 (w : World) (B R P0 P1 : Nat) (ev edv : Value) (es : Array En) (ed : Array (List Int)) (ec : Int) (V : World) : Prop where
  r : V.rowIs R 150 2 (rf [] ec)
  p : V.rowIs P0 107 50 (psf ev (cf z20 nlv [] [] []) (tf z20 0 [] [] []) edv)
  q : V.rowIs P1 107 50 ps0
  o : De B V ev es
  d : Dp B V edv ed
  f : Fr (fun i => i = R ∨ w.heap.size ≤ i) w V
  s : B ≤ V.heap.size

theorem T2.keep {w : World} {B R P0 P1 : Nat} {ev edv : Value} {es : Array En} {ed : Array (List Int)} {ec : Int} {V V' : World} (h : T2 w B R P0 P1 ev edv es ed ec V) (b : Below V.heap.size V V') : T2 w B R P0 P1 ev edv es ed ec V' :=
  ⟨rowIs_fr (P := fun _ => False) h.r (Fr.ofBelow b) (fun h => h), rowIs_fr (P := fun _ => False) h.p (Fr.ofBelow b) (fun h => h), rowIs_fr (P := fun _ => False) h.q (Fr.ofBelow b) (fun h => h), h.o.keep b, h.d.keep b, h.f.trans (P' := fun _ => False) (Fr.ofBelow b) (fun _ _ h => h.elim), Nat.le_trans h.s b.size⟩

theorem psf_sed (ev ed ed' : Value) (f g : Nat → Value) (j : Nat) (hj : j < 50) : psf ev f g ed' j = if j = 49 then ed' else psf ev f g ed j := by
  unfold psf
  by_cases h0 : j = 0
  · rw [if_pos h0, if_neg (by omega), if_pos h0]
  · by_cases h1 : j < 25
    · rw [if_neg h0, if_pos h1, if_neg (by omega), if_neg h0, if_pos h1]
    · by_cases h2 : j < 49
      · rw [if_neg h0, if_neg h1, if_pos h2, if_neg (by omega), if_neg h0, if_neg h1, if_pos h2]
      · rw [if_neg h0, if_neg h1, if_neg h2, if_pos (by omega)]

/-- Entries and names lie in blocks of their own. -/
theorem de_dp {B : Nat} {w : World} {v u : Value} {es : Array En} {ed : Array (List Int)} (h : De B w v es) (h' : Dp B w u ed) : ∀ k, v.ownBlock = some k → u.ownBlock ≠ some k := by
  intro k hk hu
  rcases h.own.2 with ⟨rfl, _⟩ | ⟨g, cap, cur, rfl, _, hh, _⟩
  · cases hk
  · rcases h'.own.2 with ⟨rfl, _⟩ | ⟨g', cap', cur', rfl, _, hh', _⟩
    · cases hu
    · have e1 : g = k := by simpa [Value.ownBlock] using hk
      have e2 : g' = k := by simpa [Value.ownBlock] using hu
      subst e1
      subst e2
      rw [hh] at hh'
      cases hh'

theorem T2.app {w : World} {B R P0 P1 : Nat} {ev edv edv' : Value} {es : Array En} {ed ed' : Array (List Int)} {ec : Int} {V V' : World} (h : T2 w B R P0 P1 ev edv es ed ec V) (h2 : R < B) (h3 : P0 < B) (h4 : P1 < B) (h5 : w.heap.size ≤ B) (g : V.grownBy V' edv.ownBlock) (d : Dp B V' edv' ed') :
    V'.rowIs R 150 2 (rf [] ec) ∧ V'.rowIs P0 107 50 (psf ev (cf z20 nlv [] [] []) (tf z20 0 [] [] []) edv) ∧ V'.rowIs P1 107 50 ps0 ∧ De B V' ev es ∧ Dp B V' edv' ed' ∧ Fr (fun i => i = R ∨ w.heap.size ≤ i) w V' ∧ B ≤ V'.heap.size := by
  have hlow : ∀ k, edv.ownBlock = some k → B ≤ k := fun k hk => by
    rcases h.d.own.2 with ⟨e, _⟩ | ⟨g, cap, cur, e, hg, _⟩
    · rw [e] at hk; cases hk
    · rw [e] at hk; cases hk; exact hg
  have f := fr_grown g
  exact ⟨rowIs_fr h.r f (fun e => by have := hlow _ e; omega), rowIs_fr h.p f (fun e => by have := hlow _ e; omega), rowIs_fr h.q f (fun e => by have := hlow _ e; omega), ⟨ownsRow_fr h.o.own f (fun k hk e => de_dp h.o h.d k hk e), h.o.ok⟩, d, h.f.trans f (fun i _ e => .inr (by have := hlow _ e; omega)), Nat.le_trans h.s f.size⟩

theorem wpList_app1g {ops : Array Oper} {rest : List Oper} {o : Oper} {a : Act} {w : World} {Q : Exit → Act → World → Prop} (hgd : o.guard = none) (s y : Operand)
    (ho : o.op = .call { callee := .builtin .append, args := #[s, y], argTypes := #[45, 45] }) (B : Nat) (v : Value) (d : Array (List Int)) (x : List Int) (X : Nat) (hx : IsId x) (hs : a.eval s = v) (hy : a.eval y = .slice (some ⟨X, 0, none⟩) 1 1)
    (hX : w.rowIs X 27 20 (cl x)) (h : Dp B w v d) (hlim : d.size < 100000) (hB : B ≤ w.heap.size)
    (hk : ∀ v' w', Dp B w' v' (d.push x) → w.grownBy w' v.ownBlock → wpList Tryz.prog ops Q rest (a.put o.dst v') w') : wpList Tryz.prog ops Q (o :: rest) a w := by
  obtain ⟨i0, hi, hz0, hz1, hz2⟩ := info_parts Tryz.info27p
  refine wpList_append_own w hgd s y 45 ho B 27 i0 (.agg zcs) 20 20 Tryz.underlying45 hi hz0 hz1 hz2 rfl (by decide) v d.size (fl d) hs h.own ⟨X, 0, none⟩ 1 1 (vals (cl x) 20) hy (by rw [vals_len]) (fun j u hu => ?_) (vals_one20 x) (by unfold maxLen; omega) (by omega) hB ?_
  · have hj : j < 20 := by
      have := (List.getElem?_eq_some_iff.1 hu).1
      rwa [vals_len] at this
    rw [vals_get _ _ _ hj] at hu
    cases hu
    have := hX.cell (i := j) hj
    rw [Addr.add_lit, Nat.zero_add]
    exact this
  · intro v' w' g1 g2 g3
    refine hk v' w' ⟨by rw [fl_push, Array.size_push]; exact g1, fun i hi => ?_⟩ g2
    rw [Array.size_push] at hi
    rw [push_get d x i hi]
    split
    · rename_i e; exact h.ids i e
    · exact hx

theorem eds_snoc (l : List En) (x : En) : eds (l ++ [x]) = if x.m = 57344 then eds l else eds l ++ [x.id] := by
  unfold eds
  rw [List.filter_append, List.map_append]
  by_cases h : x.m = 57344
  · rw [if_pos h]
    simp [h]
  · rw [if_neg h]
    simp [h]

theorem eds_len (l : List En) : (eds l).length ≤ l.length := by
  unfold eds
  rw [List.length_map]
  exact List.length_filter_le _ _

theorem ld27e {w : World} {b : Nat} {x : En} (h : w.rowIs b 79 22 (ecl x)) : (loadVar 27 ⟨b, 2, none⟩).run Tryz.prog w = .ok (idv x.id) w := by
  have h1 := load_mid (P := Tryz.prog) (o := 2) 27 _ h 20 (by omega) Tryz.underlying27 rfl (by kernel_rfl)
  rw [row_congr (fun j => ecl x (2 + j)) (cl x.id) 20 (fun j hj => by
    show ef x.m _ x.id (2 + j) = _
    unfold ef
    rw [if_neg (by omega), if_neg (by omega), Nat.add_sub_cancel_left])] at h1
  exact h1

set_option maxRecDepth 100000 in
set_option maxHeartbeats 16000000 in
theorem tree_any (R : Nat) (l : List UInt8) (e : Int) (ES : List En) (e1 : Int) (w : World) (ht : Ts w) (hR : 9 < R) (h : w.rowIs R 150 2 (rf l e)) (hs : l.length ≤ 20000) (hens : Ens l e ES e1) :
    Calls Tryz.prog 118 #[.pointer (some ⟨R, 0, none⟩)] w fun ex w' => ∃ ev edv, ex = .returned (psv ev (cf z20 nlv [] [] []) (tf z20 0 [] [] []) edv) ∧ De (w.heap.size + 2) w' ev ES.toArray ∧ Dp (w.heap.size + 2) w' edv (eds ES).toArray ∧ w'.rowIs R 150 2 (rf [] (tef ES.toArray e1)) ∧ Fr (fun i => i = R) w w' := by
  have hz := zero107
  have hz79 := zero79
  obtain ⟨P1, hP1⟩ : ∃ P1, P1 = w.heap.size := ⟨_, rfl⟩
  obtain ⟨P0, hP0⟩ : ∃ P0, P0 = w.heap.size + 1 := ⟨_, rfl⟩
  obtain ⟨B, hB⟩ : ∃ B, B = w.heap.size + 2 := ⟨_, rfl⟩
  obtain ⟨W, hW⟩ : ∃ W, W = (w.alloc (Obj.cells (vals ps0 50).toArray 107)).alloc (Obj.cells (vals ps0 50).toArray 107) := ⟨_, rfl⟩
  have b0 := new_below w (Obj.cells (vals ps0 50).toArray 107)
  have bW : Below w.heap.size w W := by rw [hW]; exact b0.alloc b0.size _
  have hRw : R < w.heap.size := World.block_lt_of_cell? w _ (h.cell (i := 0) (by omega))
  have hbig := ht.gs.big
  have HL : Hid (9 < R ∧ R < w.heap.size ∧ P1 = w.heap.size ∧ P0 = w.heap.size + 1 ∧ B = w.heap.size + 2 ∧ 10 ≤ w.heap.size) := ⟨hR, hRw, hP1, hP0, hB, hbig⟩
  have HT0 : Hid (T1 w B R P0 P1 nlv nlv #[] l e W) := ⟨rowIs_fr (P := fun _ => False) h (Fr.ofBelow bW) (fun h => h), by rw [hW, hP0]; have := rowIs_vals (w.alloc (Obj.cells (vals ps0 50).toArray 107)) ps0 50 107; simpa using this, by rw [hW, hP1]; exact rowIs_fr (P := fun _ => False) (rowIs_vals w _ 50 107) (Fr.ofBelow (new_below _ _)) (fun h => h), de_nil _ _, Fr.ofBelow bW, by rw [hW, hB]; simp, ht.keep bW⟩
  have HES : Hid (ES.length ≤ l.length ∧ l.length ≤ 20000) := ⟨ens_len hens, hs⟩
  have HEN : Hid (Ens l e ES e1) := hens
  have HW : Hid (W = (w.alloc (Obj.cells (vals ps0 50).toArray 107)).alloc (Obj.cells (vals ps0 50).toArray 107)) := hW
  rw [← hB]
  clear b0 bW hRw hbig hW hR h hs hens ht
  go_enter Tryz.func118, Tryz.ntmps118
  go_wp2_with fail
  rw [← HW.out]
  rw [← hP1]
  rw [show P1 + 1 = P0 by omega]
  clear hP1 hP0 hB
  go_loopw [] (fun wr => ∃ lc ec va vc es rest, T1 w B R P0 P1 (.slice va es.size vc) (.slice va es.size vc) es lc ec wr ∧ lc.length ≤ 20000 ∧ Ens lc ec rest e1 ∧ es.toList ++ rest = ES) (fun wr => rln wr R)
  case atStart => exact ⟨l, e, none, 0, #[], ES, HT0.out, HES.out.2, HEN.out, by simp⟩
  case round =>
    clear HT0 HEN
    obtain ⟨lc, ec, va, vc, es, rest, ht, nlc, hen, hes⟩ := hrel
    have HTT : Hid (T1 w B R P0 P1 (.slice va es.size vc) (.slice va es.size vc) es lc ec wr) := ht
    have HLN : Hid (rln wr R = lc.length ∧ lc.length ≤ 20000) := ⟨rln_of ht.r, nlc⟩
    have HE2 : Hid (es.toList ++ rest = ES) := hes
    have HSZ : Hid (es.size ≤ 20000) := by
      have h1 := congrArg List.length hes
      have h2 := HES.out
      rw [List.length_append, Array.length_toList] at h1
      show _ ≤ _
      omega
    have q2 : wr.cell? ⟨R, 0, none⟩ = some (sv lc) := ht.r.cell (i := 0) (by omega)
    clear ht hes nlc
    by_cases hlc : lc = []
    · have e0 : lc.isEmpty = true := by rw [hlc]; rfl
      subst hlc
      obtain ⟨hr0, he0⟩ := ens_stop hen
      subst hr0
      subst he0
      clear hen
      have HEE : Hid (ES = es.toList) := by show ES = _; rw [← HE2.out]; simp
      obtain ⟨n, hn⟩ : ∃ n, n = es.size := ⟨_, rfl⟩
      rw [← hn] at HTT
      have HN : Hid (n = es.size ∧ n ≤ 20000) := ⟨hn, by have := HSZ.out; omega⟩
      have ha := areE_any (.slice va n vc) es wr HTT.out.o.es HTT.out.g (by have := HSZ.out; omega)
      have c0 : wr.cell? ⟨P0, 0, none⟩ = some (.slice va n vc) := HTT.out.p.cell (i := 0) (by omega)
      obtain ⟨b1, hb1⟩ : ∃ b1, b1 = es.toList.all eB := ⟨_, rfl⟩
      have HB1 : Hid (b1 = es.toList.all eB) := hb1
      rw [← hb1] at ha
      clear hb1 hn
      try simp only [← HN.out.1]
      go_wp2_with fail
      refine ha.mono ?_
      rintro ex wA ⟨rfl, bA⟩
      have HA : Hid (T1 w B R P0 P1 (.slice va n vc) (.slice va n vc) es [] e1 wA) := HTT.out.keep bA
      have cA : wA.cell? ⟨P0, 0, none⟩ = some (.slice va n vc) := HA.out.p.cell (i := 0) (by omega)
      clear ha bA c0
      cases b1 with
      | true =>
        have hri := rise_any (.slice va n vc) es wA HA.out.o.es (by have := HSZ.out; omega)
        obtain ⟨b2, hb2⟩ : ∃ b2, b2 = riB es := ⟨_, rfl⟩
        have HB2 : Hid ((es.toList.all eB && riB es) = b2) := by show _ = _; rw [← HB1.out, hb2]; rfl
        rw [← hb2] at hri
        clear hb2
        go_wp2_with fail
        refine hri.mono ?_
        rintro ex wB ⟨rfl, bB⟩
        have HBT : Hid (T1 w B R P0 P1 (.slice va n vc) (.slice va n vc) es [] e1 wB) := HA.out.keep bB
        have hnd := need_any R [] e1 2 b2 wB HBT.out.r
        clear hri bB
        go_wp2_with fail
        refine hnd.mono ?_
        rintro ex wC ⟨rfl, rC, fC⟩
        have HCT : Hid (T1 w B R P0 P1 (.slice va n vc) (.slice va n vc) es [] (nd b2 e1 2) wC) := HBT.out.cut HL.out.1 (by have := HL.out; omega) (by have := HL.out; omega) (by have := HL.out; omega) fC rC
        clear hnd rC fC cA
        obtain ⟨b3, hb3⟩ : ∃ b3, b3 = decide (n ≤ 512) := ⟨_, rfl⟩
        have d5 : decide ((n : Int) ≤ 512) = b3 := by rw [hb3]; exact decide_eq_decide.2 (by omega)
        have d6 : decide (n ≤ 512) = b3 := hb3.symm
        have cC : wC.cell? ⟨P0, 0, none⟩ = some (.slice va n vc) := HCT.out.p.cell (i := 0) (by omega)
        have hnd := need_any R [] (nd b2 e1 2) 5 b3 wC HCT.out.r
        have HTE : Hid (nd b3 (nd b2 e1 2) 5 = tef es e1) := by
          show _ = _
          unfold tef
          rw [HB2.out, ← HN.out.1, d6]
        clear hb3
        go_wp2_with fail
        refine hnd.mono ?_
        rintro ex wD ⟨rfl, rD, fD⟩
        have HDT : Hid (T1 w B R P0 P1 (.slice va n vc) (.slice va n vc) es [] (tef es e1) wD) := by
          show T1 _ _ _ _ _ _ _ _ _ _ _
          rw [← HTE.out]
          exact HCT.out.cut HL.out.1 (by have := HL.out; omega) (by have := HL.out; omega) (by have := HL.out; omega) fD rD
        have cD : wD.cell? ⟨P0, 0, none⟩ = some (.slice va n vc) := HDT.out.p.cell (i := 0) (by omega)
        clear hnd rD fD cC d5 d6
        go_wp2_with fail
        have H2 : Hid (T2 w B R P0 P1 (.slice va n vc) nlv es #[] (tef es e1) wD) := ⟨HDT.out.r, HDT.out.p, HDT.out.q, HDT.out.o, dp_nil _ _, HDT.out.f, HDT.out.s⟩
        go_loopw [37, 5] (fun s37 s5 wr => ∃ (k : Nat) (ea : Option Addr) (em ec2 : Nat) (ed : Array (List Int)), s37 = .int .i64 (k : Int) ∧ k ≤ n ∧ em = ed.size ∧ Hid (ed.toList = eds (es.toList.take k)) ∧ Hid (T2 w B R P0 P1 (.slice va n vc) (.slice ea em ec2) es ed (tef es e1) wr)) (fun s37 _ _ => n - (intOf s37).toNat)
        case atStart => exact ⟨0, none, 0, 0, #[], rfl, Nat.zero_le _, rfl, rfl, H2.out⟩
        case round =>
          obtain ⟨k, ea, em, ec2, ed, rfl, hkn, hem, HED, HT⟩ := hrel
          have HEM : Hid (em = ed.size) := hem
          clear hem
          by_cases hlt : k < n
          · have hq : (k : Int) < (n : Int) := by omega
            have d1 : decide ((k : Int) < (n : Int)) = true := by simp; omega
            have hwk : IntKind.i64.wrap ((k : Int) + 1) = (k : Int) + 1 := by have := HN.out; rw [IntKind.wrap_i64]; omega
            have hk2 : k < es.size := by have := HN.out; omega
            obtain ⟨b, off, hva, hld0⟩ := HT.out.o.es.plain (by omega)
            have hld := hld0 wr (Below.refl _ _) k hk2
            have hok := HT.out.o.ok k hk2
            obtain ⟨x, hx⟩ : ∃ x, es[k]! = x := ⟨_, rfl⟩
            rw [hx] at hld hok
            subst hva
            have HX : Hid (okE x) := hok
            have HLT : Hid (k < n) := hlt
            have HTK : Hid (eds (es.toList.take (k + 1)) = if x.m = 57344 then eds (es.toList.take k) else eds (es.toList.take k) ++ [x.id]) := by
              show _ = _
              rw [List.take_succ_eq_append_getElem (by simpa using hk2), eds_snoc]
              rw [getElem!_pos es k hk2] at hx
              rw [show es.toList[k] = x by rw [← hx]; simp]
            have HEL : Hid (ed.size ≤ 20000) := by
              show _ ≤ _
              have h1 := congrArg List.length HED.out
              have h2 := eds_len (es.toList.take k)
              rw [List.length_take] at h2
              have h3 := HN.out
              simp at h1 h2
              omega
            have HNB : Hid (Below wr.heap.size wr (wr.alloc (Obj.cells (vals (ef 0 ⟨#[]⟩ z20) 22).toArray 79))) := new_below _ _
            clear hld0 hx hok hlt hkn hk2
            by_cases hm : x.m = 57344
            · have z1 : (x.m != 57344) = false := by simp [hm]
              have HM : Hid (x.m = 57344) := hm
              clear hm
              go_wp2_with (first
                | (refine wpList_ldv rfl 79 _ rfl ⟨b, off + k * 22, none⟩ rfl (eV x) hld ?_; clear hld)
                | (refine wpList_st rfl 79 _ _ rfl wr.heap.size rfl (ecl x) rfl (rowIs_vals _ _ _ _) size79 (ecl_one x) ?_; intro w2 r2 f2; have F2 : Hid (Below wr.heap.size wr w2) := HNB.out.trans (f2.below _ HNB.out.size (fun i hi e => by omega)); have k0 : w2.cell? ⟨wr.heap.size, 0, none⟩ = some (.int .i64 x.m) := r2.cell (i := 0) (by omega); clear r2 f2))
              exact ⟨⟨k + 1, ea, em, ec2, ed, by simp, HLT.out, HEM.out, by show _ = _; rw [HTK.out, if_pos HM.out]; exact HED.out, HT.out.keep F2.out⟩, by simp [intOf]; have := HLT.out; omega⟩
            · have z1 : (x.m != 57344) = true := by simp [hm]
              have HM : Hid (x.m ≠ 57344) := hm
              have hlim : ed.size < 100000 := by have := HEL.out; omega
              clear hm
              go_wp2_with (first
                | (refine wpList_ldv rfl 79 _ rfl ⟨b, off + k * 22, none⟩ rfl (eV x) hld ?_; clear hld)
                | (refine wpList_st rfl 79 _ _ rfl wr.heap.size rfl (ecl x) rfl (rowIs_vals _ _ _ _) size79 (ecl_one x) ?_; intro w2 r2 f2; have F2 : Hid (Below wr.heap.size wr w2) := HNB.out.trans (f2.below _ HNB.out.size (fun i hi e => by omega)); have k0 : w2.cell? ⟨wr.heap.size, 0, none⟩ = some (.int .i64 x.m) := r2.cell (i := 0) (by omega); have HT2 : Hid (T2 w B R P0 P1 _ (.slice ea em ec2) es ed (tef es e1) w2) := HT.out.keep F2.out; have k49 : w2.cell? ⟨P0, 49, none⟩ = some (.slice ea em ec2) := HT2.out.p.cell (i := 49) (by omega); have R2 : Hid (w2.rowIs wr.heap.size 79 22 (ecl x)) := r2; clear r2 f2)
                | (refine wpList_ldv rfl 27 _ rfl ⟨wr.heap.size, 2, none⟩ rfl (idv x.id) (ld27e R2.out) ?_)
                | (refine wpList_bs45 rfl _ rfl x.id rfl ?_; intro w3 hw3; have HT3 : Hid (T2 w B R P0 P1 _ (.slice ea em ec2) es ed (tef es e1) w3) := (by show T2 _ _ _ _ _ _ _ _ _ _ _; rw [hw3]; exact HT2.out.keep (new_below _ _)); have X3 : Hid (w3.rowIs w2.heap.size 27 20 (cl x.id)) := (by show World.rowIs _ _ _ _ _; rw [hw3]; exact rowIs_vals _ _ _ _); clear hw3)
                | (refine wpList_app1g rfl _ _ rfl B (.slice ea em ec2) ed x.id w2.heap.size HX.out.id rfl rfl X3.out HT3.out.d hlim HT3.out.s ?_; intro v4 w4 d4 g4; obtain ⟨a4, m4, hv4⟩ := d4.shape; rw [Array.size_push] at hv4; have HT4 : Hid _ := HT3.out.app (by have := HL.out; omega) (by have := HL.out; omega) (by have := HL.out; omega) (by have := HL.out; omega) g4 d4; subst hv4; have k49' : w4.cell? ⟨P0, 49, none⟩ = some (.slice ea em ec2) := HT4.out.2.1.cell (i := 49) (by omega); have z49 := World.rowIs.frozen HT4.out.2.1 49; clear d4 g4))
              have f5 := set_fr w4 P0 49 (.slice a4 (ed.size + 1) m4)
              have p5 := set_row HT4.out.2.1 49 (.slice a4 (ed.size + 1) m4) (fun j hj => psf_sed _ (.slice ea em ec2) (.slice a4 (ed.size + 1) m4) _ _ j hj)
              refine ⟨⟨k + 1, a4, ed.size + 1, m4, ed.push x.id, by simp, HLT.out, by simp, (by show _ = _; rw [HTK.out, if_neg HM.out, Array.toList_push, HED.out]), ⟨rowIs_fr HT4.out.1 f5 (by have := HL.out; omega), p5, rowIs_fr HT4.out.2.2.1 f5 (by have := HL.out; omega), HT4.out.2.2.2.1.fr f5 (fun k hk e => by have := HL.out; omega), HT4.out.2.2.2.2.1.fr f5 (fun k hk e => by have := HL.out; omega), HT4.out.2.2.2.2.2.1.trans f5 (fun i _ e => .inr (by have := HL.out; omega)), Nat.le_trans HT4.out.2.2.2.2.2.2 f5.size⟩⟩, by simp [intOf]; have := HLT.out; omega⟩
          · obtain rfl : k = n := by omega
            have hq : ¬ (k : Int) < (k : Int) := by omega
            have d1 : decide ((k : Int) < (k : Int)) = false := by simp
            have HED2 : Hid (ed.toList = eds es.toList) := by
              have h := HED.out
              rw [List.take_of_length_le (by have := HN.out; simp; omega)] at h
              exact h
            go_wp2_with (first
              | (refine wpList_ld0 rfl 107 _ rfl P0 rfl _ HT.out.p 50 (Nat.le_refl _) Tryz.underlying107 rfl (by kernel_rfl) ?_)
              | (refine wpList_st rfl 107 _ _ rfl P1 rfl _ rfl HT.out.q (by kernel_rfl) (psf_one _ _ _ _ rfl (cf_one _ _ _ _ _ rfl) (tf_one _ _ _ _ _) rfl) ?_; intro w9 r9 f9))
            have hea : es.toList.toArray = es := by simp
            have hed : (eds ES).toArray = ed := by rw [HEE.out, ← HED2.out]
            refine bodyPost_ret (results_row (fn := Tryz.f118) (p := 2) (ty := 107) (by kernel_rfl) _ (by rfl) r9 Tryz.underlying107 rfl (by kernel_rfl)) rfl ⟨_, _, rfl, ?_, ?_, ?_, ?_⟩
            · rw [HEE.out, hea]
              exact HT.out.o.fr f9 (fun i hi e => by have := HL.out; omega)
            · rw [hed]
              exact HT.out.d.fr f9 (fun i hi e => by have := HL.out; omega)
            · rw [HEE.out, hea]
              exact rowIs_fr HT.out.r f9 (by have := HL.out; omega)
            · exact fr_low (HT.out.f.trans f9 (fun i _ e => .inr (by have := HL.out; omega)))
      | false =>
        have HB2 : Hid ((es.toList.all eB && riB es) = false) := by show _ = _; rw [← HB1.out]; rfl
        obtain ⟨b2, hb2⟩ : ∃ b2, b2 = false := ⟨_, rfl⟩
        rw [← hb2] at HB2
        have hnd := need_any R [] e1 2 false wA HA.out.r
        go_wp2_with fail
        refine hnd.mono ?_
        rintro ex wC ⟨rfl, rC, fC⟩
        have HCT : Hid (T1 w B R P0 P1 (.slice va n vc) (.slice va n vc) es [] (nd b2 e1 2) wC) := by
          rw [hb2]
          exact HA.out.cut HL.out.1 (by have := HL.out; omega) (by have := HL.out; omega) (by have := HL.out; omega) fC rC
        clear hnd rC fC cA hb2
        obtain ⟨b3, hb3⟩ : ∃ b3, b3 = decide (n ≤ 512) := ⟨_, rfl⟩
        have d5 : decide ((n : Int) ≤ 512) = b3 := by rw [hb3]; exact decide_eq_decide.2 (by omega)
        have d6 : decide (n ≤ 512) = b3 := hb3.symm
        have cC : wC.cell? ⟨P0, 0, none⟩ = some (.slice va n vc) := HCT.out.p.cell (i := 0) (by omega)
        have hnd := need_any R [] (nd b2 e1 2) 5 b3 wC HCT.out.r
        have HTE : Hid (nd b3 (nd b2 e1 2) 5 = tef es e1) := by
          show _ = _
          unfold tef
          rw [HB2.out, ← HN.out.1, d6]
        clear hb3
        go_wp2_with fail
        refine hnd.mono ?_
        rintro ex wD ⟨rfl, rD, fD⟩
        have HDT : Hid (T1 w B R P0 P1 (.slice va n vc) (.slice va n vc) es [] (tef es e1) wD) := by
          show T1 _ _ _ _ _ _ _ _ _ _ _
          rw [← HTE.out]
          exact HCT.out.cut HL.out.1 (by have := HL.out; omega) (by have := HL.out; omega) (by have := HL.out; omega) fD rD
        have cD : wD.cell? ⟨P0, 0, none⟩ = some (.slice va n vc) := HDT.out.p.cell (i := 0) (by omega)
        clear hnd rD fD cC d5 d6
        go_wp2_with fail
        have H2 : Hid (T2 w B R P0 P1 (.slice va n vc) nlv es #[] (tef es e1) wD) := ⟨HDT.out.r, HDT.out.p, HDT.out.q, HDT.out.o, dp_nil _ _, HDT.out.f, HDT.out.s⟩
        go_loopw [37, 5] (fun s37 s5 wr => ∃ (k : Nat) (ea : Option Addr) (em ec2 : Nat) (ed : Array (List Int)), s37 = .int .i64 (k : Int) ∧ k ≤ n ∧ em = ed.size ∧ Hid (ed.toList = eds (es.toList.take k)) ∧ Hid (T2 w B R P0 P1 (.slice va n vc) (.slice ea em ec2) es ed (tef es e1) wr)) (fun s37 _ _ => n - (intOf s37).toNat)
        case atStart => exact ⟨0, none, 0, 0, #[], rfl, Nat.zero_le _, rfl, rfl, H2.out⟩
        case round =>
          obtain ⟨k, ea, em, ec2, ed, rfl, hkn, hem, HED, HT⟩ := hrel
          have HEM : Hid (em = ed.size) := hem
          clear hem
          by_cases hlt : k < n
          · have hq : (k : Int) < (n : Int) := by omega
            have d1 : decide ((k : Int) < (n : Int)) = true := by simp; omega
            have hwk : IntKind.i64.wrap ((k : Int) + 1) = (k : Int) + 1 := by have := HN.out; rw [IntKind.wrap_i64]; omega
            have hk2 : k < es.size := by have := HN.out; omega
            obtain ⟨b, off, hva, hld0⟩ := HT.out.o.es.plain (by omega)
            have hld := hld0 wr (Below.refl _ _) k hk2
            have hok := HT.out.o.ok k hk2
            obtain ⟨x, hx⟩ : ∃ x, es[k]! = x := ⟨_, rfl⟩
            rw [hx] at hld hok
            subst hva
            have HX : Hid (okE x) := hok
            have HLT : Hid (k < n) := hlt
            have HTK : Hid (eds (es.toList.take (k + 1)) = if x.m = 57344 then eds (es.toList.take k) else eds (es.toList.take k) ++ [x.id]) := by
              show _ = _
              rw [List.take_succ_eq_append_getElem (by simpa using hk2), eds_snoc]
              rw [getElem!_pos es k hk2] at hx
              rw [show es.toList[k] = x by rw [← hx]; simp]
            have HEL : Hid (ed.size ≤ 20000) := by
              show _ ≤ _
              have h1 := congrArg List.length HED.out
              have h2 := eds_len (es.toList.take k)
              rw [List.length_take] at h2
              have h3 := HN.out
              simp at h1 h2
              omega
            have HNB : Hid (Below wr.heap.size wr (wr.alloc (Obj.cells (vals (ef 0 ⟨#[]⟩ z20) 22).toArray 79))) := new_below _ _
            clear hld0 hx hok hlt hkn hk2
            by_cases hm : x.m = 57344
            · have z1 : (x.m != 57344) = false := by simp [hm]
              have HM : Hid (x.m = 57344) := hm
              clear hm
              go_wp2_with (first
                | (refine wpList_ldv rfl 79 _ rfl ⟨b, off + k * 22, none⟩ rfl (eV x) hld ?_; clear hld)
                | (refine wpList_st rfl 79 _ _ rfl wr.heap.size rfl (ecl x) rfl (rowIs_vals _ _ _ _) size79 (ecl_one x) ?_; intro w2 r2 f2; have F2 : Hid (Below wr.heap.size wr w2) := HNB.out.trans (f2.below _ HNB.out.size (fun i hi e => by omega)); have k0 : w2.cell? ⟨wr.heap.size, 0, none⟩ = some (.int .i64 x.m) := r2.cell (i := 0) (by omega); clear r2 f2))
              exact ⟨⟨k + 1, ea, em, ec2, ed, by simp, HLT.out, HEM.out, by show _ = _; rw [HTK.out, if_pos HM.out]; exact HED.out, HT.out.keep F2.out⟩, by simp [intOf]; have := HLT.out; omega⟩
            · have z1 : (x.m != 57344) = true := by simp [hm]
              have HM : Hid (x.m ≠ 57344) := hm
              have hlim : ed.size < 100000 := by have := HEL.out; omega
              clear hm
              go_wp2_with (first
                | (refine wpList_ldv rfl 79 _ rfl ⟨b, off + k * 22, none⟩ rfl (eV x) hld ?_; clear hld)
                | (refine wpList_st rfl 79 _ _ rfl wr.heap.size rfl (ecl x) rfl (rowIs_vals _ _ _ _) size79 (ecl_one x) ?_; intro w2 r2 f2; have F2 : Hid (Below wr.heap.size wr w2) := HNB.out.trans (f2.below _ HNB.out.size (fun i hi e => by omega)); have k0 : w2.cell? ⟨wr.heap.size, 0, none⟩ = some (.int .i64 x.m) := r2.cell (i := 0) (by omega); have HT2 : Hid (T2 w B R P0 P1 _ (.slice ea em ec2) es ed (tef es e1) w2) := HT.out.keep F2.out; have k49 : w2.cell? ⟨P0, 49, none⟩ = some (.slice ea em ec2) := HT2.out.p.cell (i := 49) (by omega); have R2 : Hid (w2.rowIs wr.heap.size 79 22 (ecl x)) := r2; clear r2 f2)
                | (refine wpList_ldv rfl 27 _ rfl ⟨wr.heap.size, 2, none⟩ rfl (idv x.id) (ld27e R2.out) ?_)
                | (refine wpList_bs45 rfl _ rfl x.id rfl ?_; intro w3 hw3; have HT3 : Hid (T2 w B R P0 P1 _ (.slice ea em ec2) es ed (tef es e1) w3) := (by show T2 _ _ _ _ _ _ _ _ _ _ _; rw [hw3]; exact HT2.out.keep (new_below _ _)); have X3 : Hid (w3.rowIs w2.heap.size 27 20 (cl x.id)) := (by show World.rowIs _ _ _ _ _; rw [hw3]; exact rowIs_vals _ _ _ _); clear hw3)
                | (refine wpList_app1g rfl _ _ rfl B (.slice ea em ec2) ed x.id w2.heap.size HX.out.id rfl rfl X3.out HT3.out.d hlim HT3.out.s ?_; intro v4 w4 d4 g4; obtain ⟨a4, m4, hv4⟩ := d4.shape; rw [Array.size_push] at hv4; have HT4 : Hid _ := HT3.out.app (by have := HL.out; omega) (by have := HL.out; omega) (by have := HL.out; omega) (by have := HL.out; omega) g4 d4; subst hv4; have k49' : w4.cell? ⟨P0, 49, none⟩ = some (.slice ea em ec2) := HT4.out.2.1.cell (i := 49) (by omega); have z49 := World.rowIs.frozen HT4.out.2.1 49; clear d4 g4))
              have f5 := set_fr w4 P0 49 (.slice a4 (ed.size + 1) m4)
              have p5 := set_row HT4.out.2.1 49 (.slice a4 (ed.size + 1) m4) (fun j hj => psf_sed _ (.slice ea em ec2) (.slice a4 (ed.size + 1) m4) _ _ j hj)
              refine ⟨⟨k + 1, a4, ed.size + 1, m4, ed.push x.id, by simp, HLT.out, by simp, (by show _ = _; rw [HTK.out, if_neg HM.out, Array.toList_push, HED.out]), ⟨rowIs_fr HT4.out.1 f5 (by have := HL.out; omega), p5, rowIs_fr HT4.out.2.2.1 f5 (by have := HL.out; omega), HT4.out.2.2.2.1.fr f5 (fun k hk e => by have := HL.out; omega), HT4.out.2.2.2.2.1.fr f5 (fun k hk e => by have := HL.out; omega), HT4.out.2.2.2.2.2.1.trans f5 (fun i _ e => .inr (by have := HL.out; omega)), Nat.le_trans HT4.out.2.2.2.2.2.2 f5.size⟩⟩, by simp [intOf]; have := HLT.out; omega⟩
          · obtain rfl : k = n := by omega
            have hq : ¬ (k : Int) < (k : Int) := by omega
            have d1 : decide ((k : Int) < (k : Int)) = false := by simp
            have HED2 : Hid (ed.toList = eds es.toList) := by
              have h := HED.out
              rw [List.take_of_length_le (by have := HN.out; simp; omega)] at h
              exact h
            go_wp2_with (first
              | (refine wpList_ld0 rfl 107 _ rfl P0 rfl _ HT.out.p 50 (Nat.le_refl _) Tryz.underlying107 rfl (by kernel_rfl) ?_)
              | (refine wpList_st rfl 107 _ _ rfl P1 rfl _ rfl HT.out.q (by kernel_rfl) (psf_one _ _ _ _ rfl (cf_one _ _ _ _ _ rfl) (tf_one _ _ _ _ _) rfl) ?_; intro w9 r9 f9))
            have hea : es.toList.toArray = es := by simp
            have hed : (eds ES).toArray = ed := by rw [HEE.out, ← HED2.out]
            refine bodyPost_ret (results_row (fn := Tryz.f118) (p := 2) (ty := 107) (by kernel_rfl) _ (by rfl) r9 Tryz.underlying107 rfl (by kernel_rfl)) rfl ⟨_, _, rfl, ?_, ?_, ?_, ?_⟩
            · rw [HEE.out, hea]
              exact HT.out.o.fr f9 (fun i hi e => by have := HL.out; omega)
            · rw [hed]
              exact HT.out.d.fr f9 (fun i hi e => by have := HL.out; omega)
            · rw [HEE.out, hea]
              exact rowIs_fr HT.out.r f9 (by have := HL.out; omega)
            · exact fr_low (HT.out.f.trans f9 (fun i _ e => .inr (by have := HL.out; omega)))
    · have e0 : lc.isEmpty = false := by simp [hlc]
      have hlt := ent1_less lc ec hlc
      obtain ⟨rest', hre, hen'⟩ := ens_more hen hlc
      have hok := ent1_ok lc ec (by have := HLN.out.2; omega)
      have HC0 : ∀ V : World, Ts V → V.rowIs R 150 2 (rf lc ec) → Calls Tryz.prog 155 #[.pointer (some ⟨R, 0, none⟩)] V fun ex w' => ex = .returned (eV (ent1 lc ec).1) ∧ w'.rowIs R 150 2 (rf (ent1 lc ec).2.1 (ent1 lc ec).2.2) ∧ Fr (fun i => i = R) V w' := fun V hT hr => entry_any R lc ec V hT HL.out.1 hr (by have := HLN.out.2; omega)
      obtain ⟨x, hx⟩ : ∃ x, x = (ent1 lc ec).1 := ⟨_, rfl⟩
      obtain ⟨l', hl'⟩ : ∃ l', l' = (ent1 lc ec).2.1 := ⟨_, rfl⟩
      obtain ⟨e', he'⟩ : ∃ e', e' = (ent1 lc ec).2.2 := ⟨_, rfl⟩
      rw [← hx] at hre hok HC0
      rw [← hl'] at hlt hen' HC0
      rw [← he'] at hen' HC0
      have HC : Hid (∀ V : World, Ts V → V.rowIs R 150 2 (rf lc ec) → Calls Tryz.prog 155 #[.pointer (some ⟨R, 0, none⟩)] V fun ex w' => ∃ v, ex = .returned v ∧ (v = eV x ∧ w'.rowIs R 150 2 (rf l' e') ∧ Fr (fun i => i = R) V w')) := fun V hT hr => (HC0 V hT hr).mono (fun ex w' ⟨g1, g2, g3⟩ => ⟨_, g1, rfl, g2, g3⟩)
      have HX : Hid (okE x ∧ rest = x :: rest' ∧ Ens l' e' rest' e1 ∧ l'.length < lc.length) := ⟨hok, hre, hen', hlt⟩
      clear hlt hre hen' hok HC0 hx hl' he' hen hlc
      go_wp2_with fail
      have HD : Hid (T1 w B R P0 P1 (.slice va es.size vc) (.slice va es.size vc) es lc ec wr.drew) := HTT.out.keep (Below.refl _ _).drew
      refine wp_region_any (by kernel_rfl) (show wpAny _ _ _ _ _ _ _ wr.drew from ?_)
      refine wpAny_take (i := 0) (oi := ⟨some 11, _, _, _, _, _⟩) (v := ?_) rfl (by kernel_rfl) (by kernel_rfl) (by kernel_rfl) (fun _ _ _ h => h) (Or.inl ⟨by rfl, ?_⟩) ?_
      rotate_left
      · (intro w'; go_simp; try with_reducible rfl)
      try simp only [Act.put, List.setIfInBounds_toArray, List.set_cons_zero, List.set_cons_succ]
      refine wpAny_take (i := 2) (oi := ⟨some 13, _, _, _, _, _⟩) (v := ?_) rfl (by kernel_rfl) (by kernel_rfl) (by kernel_rfl) (fun _ _ _ h => h) (Or.inl ⟨by rfl, ?_⟩) ?_
      rotate_left
      · (intro w'; go_simp; try with_reducible rfl)
      try simp only [Act.put, List.setIfInBounds_toArray, List.set_cons_zero, List.set_cons_succ]
      refine wpAny_ready (rs := [1, 3]) (by kernel_rfl) (by simp) ?_
      refine (AllReady.cons (o := ⟨some 12, _, _, _, _, _⟩) rfl (fun K hK => ?_) (AllReady.cons (o := ⟨some 14, _, _, _, _, _⟩) rfl (fun K hK => ?_) AllReady.nil))
      · have hLD : (loadVar 39 ⟨P0, 0, none⟩).run Tryz.prog wr.drew = .ok (.slice va es.size vc) wr.drew := ld39 _ _ _ _ _ (by exact HD.out.p.cell (i := 0) (by omega))
        refine step_ldv (by rfl) 39 _ rfl ⟨P0, 0, none⟩ rfl (.slice va es.size vc) hLD ?_
        refine hK _ _ ?_
        clear hK K hLD
        try simp only [Act.put, List.setIfInBounds_toArray, List.set_cons_zero, List.set_cons_succ]
        refine wpAny_ready (rs := [3]) (by kernel_rfl) (by simp) ?_
        refine (AllReady.cons (o := ⟨some 14, _, _, _, _, _⟩) rfl (fun K hK => ?_) AllReady.nil)
        refine step_cl1 (by rfl) 155 c155 _ _ rfl (.pointer (some ⟨R, 0, none⟩)) rfl (HC.out _ HD.out.g HD.out.r) ?_
        rintro v1 w4 ⟨rfl, r1, f1⟩
        have H4 : Hid (T1 w B R P0 P1 (.slice va es.size vc) (.slice va es.size vc) es l' e' w4) := HD.out.cut HL.out.1 (by have := HL.out; omega) (by have := HL.out; omega) (by have := HL.out; omega) f1 r1
        refine hK _ _ ?_
        clear hK K r1 f1
        try simp only [Act.put, List.setIfInBounds_toArray, List.set_cons_zero, List.set_cons_succ]
        refine wpAny_ready (rs := [4]) (by kernel_rfl) (by simp) ?_
        refine (AllReady.cons (o := ⟨some 15, _, _, _, _, _⟩) rfl (fun K hK => ?_) AllReady.nil)
        refine step_bs39 (by rfl) _ rfl x rfl ?_
        obtain ⟨w5, hv5⟩ : ∃ V, V = w4.alloc (.cells (vals (ecl x) 22).toArray 79) := ⟨_, rfl⟩
        have H5 : Hid (T1 w B R P0 P1 (.slice va es.size vc) (.slice va es.size vc) es l' e' w5) := by show T1 _ _ _ _ _ _ _ _ _ _ _; rw [hv5]; exact H4.out.keep (new_below _ _)
        obtain ⟨X, hX⟩ : ∃ X, X = w4.heap.size := ⟨_, rfl⟩
        have HXR : Hid (w5.rowIs X 79 22 (ecl x)) := by show World.rowIs _ _ _ _ _; rw [hv5, hX]; exact rowIs_vals _ _ _ _
        rw [← hv5, ← hX]
        refine hK _ _ ?_
        clear hK K hv5 hX
        try simp only [Act.put, List.setIfInBounds_toArray, List.set_cons_zero, List.set_cons_succ]
        refine wpAny_ready (rs := [5]) (by kernel_rfl) (by simp) ?_
        refine (AllReady.cons (o := ⟨some 16, _, _, _, _, _⟩) rfl (fun K hK => ?_) AllReady.nil)
        refine step_appE (by rfl) _ _ rfl B (.slice va es.size vc) es x X HX.out.1 rfl rfl HXR.out H5.out.o (by have := HSZ.out; omega) H5.out.s ?_
        intro v6 w6 d6 g6
        have H6 : Hid (T1 w B R P0 P1 (.slice va es.size vc) v6 (es.push x) l' e' w6) := H5.out.app (by have := HL.out; omega) (by have := HL.out; omega) (by have := HL.out; omega) (by have := HL.out; omega) (by have := HL.out; omega) g6 d6
        refine hK _ _ ?_
        clear hK K d6 g6
        try simp only [Act.put, List.setIfInBounds_toArray, List.set_cons_zero, List.set_cons_succ]
        refine wpAny_take (i := 6) (oi := ⟨some 17, _, _, _, _, _⟩) (v := ?_) rfl (by kernel_rfl) (by kernel_rfl) (by kernel_rfl) (fun _ _ _ h => h) (Or.inl ⟨by rfl, ?_⟩) ?_
        rotate_left
        · (intro w'; go_simp; try with_reducible rfl)
        try simp only [Act.put, List.setIfInBounds_toArray, List.set_cons_zero, List.set_cons_succ]
        refine wpAny_ready (rs := [7]) (by kernel_rfl) (by simp) ?_
        refine (AllReady.cons (o := ⟨none, _, _, _, _, _⟩) rfl (fun K hK => ?_) AllReady.nil)
        obtain ⟨va6, vc6, hv6⟩ := H6.out.o.shape
        subst hv6
        refine step_st39 (by rfl) _ _ rfl P0 0 rfl va6 (es.push x).size vc6 rfl _ (H6.out.p.cell (i := 0) (by omega)) (World.rowIs.frozen H6.out.p 0) ?_
        have H7 : Hid (T1 w B R P0 P1 (.slice va6 (es.push x).size vc6) (.slice va6 (es.push x).size vc6) (es.push x) l' e' (w6.setCell ⟨P0, 0, none⟩ (.slice va6 (es.push x).size vc6))) := H6.out.set (by have := HL.out; omega) (by have := HL.out; omega) (by have := HL.out; omega) (by have := HL.out; omega) (by have := HL.out; omega)
        obtain ⟨w7, hw7⟩ : ∃ w7, w7 = w6.setCell ⟨P0, 0, none⟩ (.slice va6 (es.push x).size vc6) := ⟨_, rfl⟩
        rw [← hw7] at H7
        rw [← hw7]
        refine hK _ _ ?_
        clear hK K hw7
        refine wpAny_done (by kernel_rfl) ?_ _
        simp only [Act.put]
        go_roundw
        case measure =>
          have h1 := rln_of H7.out.r
          have h3 := HLN.out.1
          have h2 := HX.out.2.2.2
          omega
        case rel => exact ⟨_, _, _, _, _, _, _, _, _, _, _, _, ⟨l', e', va6, vc6, es.push x, rest', H7.out, by have := HX.out.2.2.2; have := HLN.out.2; omega, HX.out.2.2.1, by rw [← HE2.out, HX.out.2.1]; simp⟩, rfl⟩
      · skip
        refine step_cl1 (by rfl) 155 c155 _ _ rfl (.pointer (some ⟨R, 0, none⟩)) rfl (HC.out _ HD.out.g HD.out.r) ?_
        rintro v1 w4 ⟨rfl, r1, f1⟩
        have H4 : Hid (T1 w B R P0 P1 (.slice va es.size vc) (.slice va es.size vc) es l' e' w4) := HD.out.cut HL.out.1 (by have := HL.out; omega) (by have := HL.out; omega) (by have := HL.out; omega) f1 r1
        refine hK _ _ ?_
        clear hK K r1 f1
        try simp only [Act.put, List.setIfInBounds_toArray, List.set_cons_zero, List.set_cons_succ]
        refine wpAny_ready (rs := [1, 4]) (by kernel_rfl) (by simp) ?_
        refine (AllReady.cons (o := ⟨some 12, _, _, _, _, _⟩) rfl (fun K hK => ?_) (AllReady.cons (o := ⟨some 15, _, _, _, _, _⟩) rfl (fun K hK => ?_) AllReady.nil))
        · skip
          refine step_ldv (by rfl) 39 _ rfl ⟨P0, 0, none⟩ rfl (.slice va es.size vc) (ld39 _ _ _ _ _ (by exact H4.out.p.cell (i := 0) (by omega))) ?_
          refine hK _ _ ?_
          clear hK K
          try simp only [Act.put, List.setIfInBounds_toArray, List.set_cons_zero, List.set_cons_succ]
          refine wpAny_ready (rs := [4]) (by kernel_rfl) (by simp) ?_
          refine (AllReady.cons (o := ⟨some 15, _, _, _, _, _⟩) rfl (fun K hK => ?_) AllReady.nil)
          refine step_bs39 (by rfl) _ rfl x rfl ?_
          obtain ⟨w5, hv5⟩ : ∃ V, V = w4.alloc (.cells (vals (ecl x) 22).toArray 79) := ⟨_, rfl⟩
          have H5 : Hid (T1 w B R P0 P1 (.slice va es.size vc) (.slice va es.size vc) es l' e' w5) := by show T1 _ _ _ _ _ _ _ _ _ _ _; rw [hv5]; exact H4.out.keep (new_below _ _)
          obtain ⟨X, hX⟩ : ∃ X, X = w4.heap.size := ⟨_, rfl⟩
          have HXR : Hid (w5.rowIs X 79 22 (ecl x)) := by show World.rowIs _ _ _ _ _; rw [hv5, hX]; exact rowIs_vals _ _ _ _
          rw [← hv5, ← hX]
          refine hK _ _ ?_
          clear hK K hv5 hX
          try simp only [Act.put, List.setIfInBounds_toArray, List.set_cons_zero, List.set_cons_succ]
          refine wpAny_ready (rs := [5]) (by kernel_rfl) (by simp) ?_
          refine (AllReady.cons (o := ⟨some 16, _, _, _, _, _⟩) rfl (fun K hK => ?_) AllReady.nil)
          refine step_appE (by rfl) _ _ rfl B (.slice va es.size vc) es x X HX.out.1 rfl rfl HXR.out H5.out.o (by have := HSZ.out; omega) H5.out.s ?_
          intro v6 w6 d6 g6
          have H6 : Hid (T1 w B R P0 P1 (.slice va es.size vc) v6 (es.push x) l' e' w6) := H5.out.app (by have := HL.out; omega) (by have := HL.out; omega) (by have := HL.out; omega) (by have := HL.out; omega) (by have := HL.out; omega) g6 d6
          refine hK _ _ ?_
          clear hK K d6 g6
          try simp only [Act.put, List.setIfInBounds_toArray, List.set_cons_zero, List.set_cons_succ]
          refine wpAny_take (i := 6) (oi := ⟨some 17, _, _, _, _, _⟩) (v := ?_) rfl (by kernel_rfl) (by kernel_rfl) (by kernel_rfl) (fun _ _ _ h => h) (Or.inl ⟨by rfl, ?_⟩) ?_
          rotate_left
          · (intro w'; go_simp; try with_reducible rfl)
          try simp only [Act.put, List.setIfInBounds_toArray, List.set_cons_zero, List.set_cons_succ]
          refine wpAny_ready (rs := [7]) (by kernel_rfl) (by simp) ?_
          refine (AllReady.cons (o := ⟨none, _, _, _, _, _⟩) rfl (fun K hK => ?_) AllReady.nil)
          obtain ⟨va6, vc6, hv6⟩ := H6.out.o.shape
          subst hv6
          refine step_st39 (by rfl) _ _ rfl P0 0 rfl va6 (es.push x).size vc6 rfl _ (H6.out.p.cell (i := 0) (by omega)) (World.rowIs.frozen H6.out.p 0) ?_
          have H7 : Hid (T1 w B R P0 P1 (.slice va6 (es.push x).size vc6) (.slice va6 (es.push x).size vc6) (es.push x) l' e' (w6.setCell ⟨P0, 0, none⟩ (.slice va6 (es.push x).size vc6))) := H6.out.set (by have := HL.out; omega) (by have := HL.out; omega) (by have := HL.out; omega) (by have := HL.out; omega) (by have := HL.out; omega)
          obtain ⟨w7, hw7⟩ : ∃ w7, w7 = w6.setCell ⟨P0, 0, none⟩ (.slice va6 (es.push x).size vc6) := ⟨_, rfl⟩
          rw [← hw7] at H7
          rw [← hw7]
          refine hK _ _ ?_
          clear hK K hw7
          refine wpAny_done (by kernel_rfl) ?_ _
          simp only [Act.put]
          go_roundw
          case measure =>
            have h1 := rln_of H7.out.r
            have h3 := HLN.out.1
            have h2 := HX.out.2.2.2
            omega
          case rel => exact ⟨_, _, _, _, _, _, _, _, _, _, _, _, ⟨l', e', va6, vc6, es.push x, rest', H7.out, by have := HX.out.2.2.2; have := HLN.out.2; omega, HX.out.2.2.1, by rw [← HE2.out, HX.out.2.1]; simp⟩, rfl⟩
        · skip
          refine step_bs39 (by rfl) _ rfl x rfl ?_
          obtain ⟨w5, hv5⟩ : ∃ V, V = w4.alloc (.cells (vals (ecl x) 22).toArray 79) := ⟨_, rfl⟩
          have H5 : Hid (T1 w B R P0 P1 (.slice va es.size vc) (.slice va es.size vc) es l' e' w5) := by show T1 _ _ _ _ _ _ _ _ _ _ _; rw [hv5]; exact H4.out.keep (new_below _ _)
          obtain ⟨X, hX⟩ : ∃ X, X = w4.heap.size := ⟨_, rfl⟩
          have HXR : Hid (w5.rowIs X 79 22 (ecl x)) := by show World.rowIs _ _ _ _ _; rw [hv5, hX]; exact rowIs_vals _ _ _ _
          rw [← hv5, ← hX]
          refine hK _ _ ?_
          clear hK K hv5 hX
          try simp only [Act.put, List.setIfInBounds_toArray, List.set_cons_zero, List.set_cons_succ]
          refine wpAny_ready (rs := [1]) (by kernel_rfl) (by simp) ?_
          refine (AllReady.cons (o := ⟨some 12, _, _, _, _, _⟩) rfl (fun K hK => ?_) AllReady.nil)
          refine step_ldv (by rfl) 39 _ rfl ⟨P0, 0, none⟩ rfl (.slice va es.size vc) (ld39 _ _ _ _ _ (by exact H5.out.p.cell (i := 0) (by omega))) ?_
          refine hK _ _ ?_
          clear hK K
          try simp only [Act.put, List.setIfInBounds_toArray, List.set_cons_zero, List.set_cons_succ]
          refine wpAny_ready (rs := [5]) (by kernel_rfl) (by simp) ?_
          refine (AllReady.cons (o := ⟨some 16, _, _, _, _, _⟩) rfl (fun K hK => ?_) AllReady.nil)
          refine step_appE (by rfl) _ _ rfl B (.slice va es.size vc) es x X HX.out.1 rfl rfl HXR.out H5.out.o (by have := HSZ.out; omega) H5.out.s ?_
          intro v6 w6 d6 g6
          have H6 : Hid (T1 w B R P0 P1 (.slice va es.size vc) v6 (es.push x) l' e' w6) := H5.out.app (by have := HL.out; omega) (by have := HL.out; omega) (by have := HL.out; omega) (by have := HL.out; omega) (by have := HL.out; omega) g6 d6
          refine hK _ _ ?_
          clear hK K d6 g6
          try simp only [Act.put, List.setIfInBounds_toArray, List.set_cons_zero, List.set_cons_succ]
          refine wpAny_take (i := 6) (oi := ⟨some 17, _, _, _, _, _⟩) (v := ?_) rfl (by kernel_rfl) (by kernel_rfl) (by kernel_rfl) (fun _ _ _ h => h) (Or.inl ⟨by rfl, ?_⟩) ?_
          rotate_left
          · (intro w'; go_simp; try with_reducible rfl)
          try simp only [Act.put, List.setIfInBounds_toArray, List.set_cons_zero, List.set_cons_succ]
          refine wpAny_ready (rs := [7]) (by kernel_rfl) (by simp) ?_
          refine (AllReady.cons (o := ⟨none, _, _, _, _, _⟩) rfl (fun K hK => ?_) AllReady.nil)
          obtain ⟨va6, vc6, hv6⟩ := H6.out.o.shape
          subst hv6
          refine step_st39 (by rfl) _ _ rfl P0 0 rfl va6 (es.push x).size vc6 rfl _ (H6.out.p.cell (i := 0) (by omega)) (World.rowIs.frozen H6.out.p 0) ?_
          have H7 : Hid (T1 w B R P0 P1 (.slice va6 (es.push x).size vc6) (.slice va6 (es.push x).size vc6) (es.push x) l' e' (w6.setCell ⟨P0, 0, none⟩ (.slice va6 (es.push x).size vc6))) := H6.out.set (by have := HL.out; omega) (by have := HL.out; omega) (by have := HL.out; omega) (by have := HL.out; omega) (by have := HL.out; omega)
          obtain ⟨w7, hw7⟩ : ∃ w7, w7 = w6.setCell ⟨P0, 0, none⟩ (.slice va6 (es.push x).size vc6) := ⟨_, rfl⟩
          rw [← hw7] at H7
          rw [← hw7]
          refine hK _ _ ?_
          clear hK K hw7
          refine wpAny_done (by kernel_rfl) ?_ _
          simp only [Act.put]
          go_roundw
          case measure =>
            have h1 := rln_of H7.out.r
            have h3 := HLN.out.1
            have h2 := HX.out.2.2.2
            omega
          case rel => exact ⟨_, _, _, _, _, _, _, _, _, _, _, _, ⟨l', e', va6, vc6, es.push x, rest', H7.out, by have := HX.out.2.2.2; have := HLN.out.2; omega, HX.out.2.2.1, by rw [← HE2.out, HX.out.2.1]; simp⟩, rfl⟩

end Go.Proofs.YtojgablpjdlegaaGreatDoor
