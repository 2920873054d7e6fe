/- The document's writer, by fields; slices of bytes of one's own beside it. -/
import Derived.Test.YtjkfmnahmbnbnaaDoorXDone
import Derived.Test.YtjkfmnahmbnbnaaDoorWKnown
namespace Go.Proofs.YtjkfmnahmbnbnaaDoor
open Go.RowKit

/-- All blocks but those of bits and of writers stay as they are. -/
def Kx (w w' : World) : Prop := ∀ (k : Nat) (c : Array Value) (t : TypeId) (x : Nat × Nat), w.heap[k]? = some (Obj.cells c t x) → t ≠ 4 → t ≠ 41 → w'.heap[k]? = w.heap[k]?

theorem Kx.refl (w : World) : Kx w w := fun _ _ _ _ _ _ _ => rfl

theorem Kx.trans {a b c : World} (h : Kx a b) (k : Kx b c) : Kx a c := fun i d t x hi h1 h2 =>
  (k i d t x ((h i d t x hi h1 h2).trans hi) h1 h2).trans (h i d t x hi h1 h2)

theorem Kx.ofBelow {w w' : World} (h : Below w.heap.size w w') : Kx w w' := fun k _ _ _ hk _ _ => h.block k (Array.getElem?_eq_some_iff.1 hk).1

theorem ownsRow_kx {w w' : World} {base e s n : Nat} {v : Value} {xs : List Value} (h : w.ownsRow base e s v n xs) (k : Kx w w') (h1 : e ≠ 4) (h2 : e ≠ 41) : w'.ownsRow base e s v n xs := by
  refine ⟨h.1, ?_⟩
  rcases h.2 with h' | ⟨g, cap, cur, rfl, a, b, c⟩
  · exact .inl h'
  · exact .inr ⟨g, cap, cur, rfl, a, (k g cur e _ b h1 h2).trans b, c⟩

theorem rowIs_kx {w w' : World} {b t n : Nat} {f : Nat → Value} (h : w.rowIs b t n f) (k : Kx w w') (h1 : t ≠ 4) (h2 : t ≠ 41) : w'.rowIs b t n f := by
  obtain ⟨c, a, d⟩ := h
  exact ⟨c, (k b c t _ a h1 h2).trans a, d⟩

/-- What a call on a writer leaves. -/
structure Xw (B : Nat) (w w' : World) : Prop where
  bel : Below B w w'
  kx : Kx w w'

theorem Xw.refl (B : Nat) (w : World) : Xw B w w := ⟨Below.refl _ _, Kx.refl _⟩
theorem Xw.trans {B : Nat} {a b c : World} (h : Xw B a b) (k : Xw B b c) : Xw B a c := ⟨h.bel.trans k.bel, h.kx.trans k.kx⟩

/-- Block R is a writer of the fields l; all of it lies from B on. -/
structure Wr (w : World) (B R : Nat) (l : List Fd) : Prop where
  ft : Ft l
  is : ∃ v, IsX w R v (fv l) (fb l) ∧ ∀ k, Of R v k → B ≤ k
  bB : B ≤ w.heap.size

theorem isx_types {w : World} {R : Nat} {v : Value} {N : Int} {len : Nat} (h : IsX w R v N len) : ∀ (k : Nat) (c : Array Value) (t : TypeId) (x : Nat × Nat), Of R v k → w.heap[k]? = some (Obj.cells c t x) → t = 4 ∨ t = 41 := by
  rintro k c t x (rfl | hk) hc
  · obtain ⟨c', h1, _⟩ := h.row
    rw [h1] at hc
    simp only [Option.some.injEq, Obj.cells.injEq] at hc
    exact .inr hc.2.1.symm
  · rcases h.own.2 with ⟨e1, e2⟩ | ⟨g, cap, cur, e1, _, e3, _⟩
    · rw [e1] at hk; simp [Value.ownBlock] at hk
    · rw [e1] at hk
      simp [Value.ownBlock] at hk
      subst hk
      rw [e3] at hc
      simp only [Option.some.injEq, Obj.cells.injEq] at hc
      exact .inl hc.2.1.symm

theorem step_xw {w w' : World} {B R : Nat} {v v' : Value} {N : Int} {len : Nat} (h : IsX w R v N len) (hB : ∀ k, Of R v k → B ≤ k) (bB : B ≤ w.heap.size) (s : Step R v v' w w') : Xw B w w' ∧ (∀ k, Of R v' k → B ≤ k) :=
  ⟨⟨s.below B bB hB, fun k c t x hk h1 h2 => s.fr.block k (Array.getElem?_eq_some_iff.1 hk).1 (fun hp => by
    rcases isx_types h k c t x hp hk with e | e
    · exact h1 e
    · exact h2 e)⟩, s.from B bB hB⟩

/-- Other memory may turn. -/
theorem Wr.fr {P : Nat → Prop} {w w' : World} {B R : Nat} {l : List Fd} (h : Wr w B R l) (hf : Fr P w w') (hP : ∀ (k : Nat) (c : Array Value) (t : TypeId) (x : Nat × Nat), P k → w.heap[k]? = some (Obj.cells c t x) → t ≠ 4 ∧ t ≠ 41) : Wr w' B R l := by
  obtain ⟨ft, ⟨v, hx, hB⟩, bB⟩ := h
  refine ⟨ft, ⟨v, hx.fr hf (fun k hk hp => ?_), hB⟩, Nat.le_trans bB hf.size⟩
  have hlt := hx.inside k hk
  cases ho : w.heap[k]? with
  | none => rw [Array.getElem?_eq_none_iff] at ho; omega
  | some o =>
    rcases hk with rfl | hk'
    · obtain ⟨c', h1, _⟩ := hx.row
      exact (hP _ _ _ _ hp h1).2 rfl
    · rcases hx.own.2 with ⟨e1, e2⟩ | ⟨g, cap, cur, e1, _, e3, _⟩
      · rw [e1] at hk'; simp [Value.ownBlock] at hk'
      · rw [e1] at hk'
        simp [Value.ownBlock] at hk'
        subst hk'
        exact (hP _ _ _ _ hp e3).1 rfl

theorem Wr.keep {w w' : World} {B R : Nat} {l : List Fd} (h : Wr w B R l) (hb : Below w.heap.size w w') : Wr w' B R l :=
  h.fr (P := fun _ => False) (Fr.ofBelow hb) (fun _ _ _ _ h => h.elim)

/-- A new writer. -/
theorem wr_new (w : World) (B : Nat) (hB : B ≤ w.heap.size) : Wr (w.alloc (Obj.cells #[Value.slice none 0 0] 41)) B w.heap.size [] := by
  refine ⟨Ft.nil, ⟨.slice none 0 0, ⟨?_, ?_, (by simp [Value.ownBlock]), (by simp [fv]), (by simp [fv, fb])⟩, ?_⟩, by simp; omega⟩
  · exact World.rowIs_alloc w #[Value.slice none 0 0] 41 _ (fun i hi => by simp at hi; subst hi; rfl)
  · exact World.ownsRow_nil _ _ _ _
  · rintro k (rfl | hk)
    · exact hB
    · simp [Value.ownBlock] at hk

theorem fv_push (l : List Fd) (u : Int) (m : Nat) : fv (l ++ [(u, m)]) = fv l + 2 ^ fb l * u := by
  rw [fv_app]; simp [fv]

theorem fb_push (l : List Fd) (u : Int) (m : Nat) : fb (l ++ [(u, m)]) = fb l + m := by
  rw [fb_app]; simp [fb]

theorem wput_any (B R : Nat) (l : List Fd) (x u : Int) (n : Nat) (w : World) (h : Wr w B R l) (hn : n ≤ 24) (hl : fb l ≤ 1000000000) (hu : x % 2 ^ n = u) :
    Calls Tryd.prog 16 #[.pointer (some ⟨R, 0, none⟩), .int .i64 x, .int .i64 n] w fun e w' => e = .returned (.tuple #[]) ∧ Wr w' B R (l ++ [(u, n)]) ∧ Xw B w w' := by
  obtain ⟨ft, ⟨v, hx, hB⟩, bB⟩ := h
  refine (xput_yes R v (fv l) x (fb l) n w hx hn hl).mono ?_
  rintro e w' ⟨rfl, v', hx', s⟩
  obtain ⟨h1, h2⟩ := step_xw hx hB bB s
  rw [hu] at hx'
  refine ⟨rfl, ⟨ft.app (Ft.cons (by show 0 ≤ u; rw [← hu]; exact mod_nn _ _) (by show u < 2 ^ n; rw [← hu]; exact mod_lt _ _) Ft.nil), ⟨v', ?_, h2⟩, Nat.le_trans bB s.fr.size⟩, h1⟩
  rw [fv_push, fb_push]
  exact hx'

theorem wcode_any (B R : Nat) (l : List Fd) (x : Int) (n : Nat) (w : World) (h : Wr w B R l) (hn : n ≤ 24) (hl : fb l ≤ 1000000000) :
    Calls Tryd.prog 21 #[.pointer (some ⟨R, 0, none⟩), .int .i64 x, .int .i64 n] w fun e w' => e = .returned (.tuple #[]) ∧ Wr w' B R (l ++ [(T x n, n)]) ∧ Xw B w w' := by
  obtain ⟨ft, ⟨v, hx, hB⟩, bB⟩ := h
  refine (xcode_yes R v (fv l) x (fb l) n w hx hn hl).mono ?_
  rintro e w' ⟨rfl, v', hx', s⟩
  obtain ⟨h1, h2⟩ := step_xw hx hB bB s
  refine ⟨rfl, ⟨ft.app (Ft.cons (T_bound _ _).1 (T_bound _ _).2 Ft.nil), ⟨v', ?_, h2⟩, Nat.le_trans bB s.fr.size⟩, h1⟩
  rw [fv_push, fb_push]
  exact hx'

theorem walign_any (B R : Nat) (l : List Fd) (w : World) (h : Wr w B R l) (hl : fb l ≤ 1000000000) (h8 : fb l % 8 = 3) :
    Calls Tryd.prog 17 #[.pointer (some ⟨R, 0, none⟩)] w fun e w' => e = .returned (.tuple #[]) ∧ Wr w' B R (l ++ [(0, 5)]) ∧ Xw B w w' := by
  obtain ⟨ft, ⟨v, hx, hB⟩, bB⟩ := h
  refine (xalign_any R v (fv l) (fb l) w hx hl).mono ?_
  rintro e w' ⟨rfl, v', hx', s⟩
  obtain ⟨h1, h2⟩ := step_xw hx hB bB s
  refine ⟨rfl, ⟨ft.app (Ft.cons (by simp) (by simp) Ft.nil), ⟨v', ?_, h2⟩, Nat.le_trans bB s.fr.size⟩, h1⟩
  rw [fv_push, fb_push, Int.mul_zero, Int.add_zero, show fb l + 5 = al (fb l) by unfold al; omega]
  exact hx'

theorem wdone_any (B R : Nat) (l : List Fd) (w : World) (h : Wr w B R l) (hl : fb l ≤ 1000000000) :
    Calls Tryd.prog 18 #[.pointer (some ⟨R, 0, none⟩)] w fun e w' => ∃ ao c, e = .returned (.slice ao ((fb l + 7) / 8) c) ∧ Rd w' ao ((fb l + 7) / 8) c (by8 (fv l) ((fb l + 7) / 8)) ∧ Below w.heap.size w w' := by
  obtain ⟨ft, ⟨v, hx, hB⟩, bB⟩ := h
  exact xdone_any R v (fv l) (fb l) w hx hl

/-- append of bytes that may be none onto bytes of one's own. -/
theorem wpList_append_bv {w : World} {ops : Array Oper} {rest : List Oper} {o : Oper} {a : Act} {Q : Exit → Act → World → Prop} (hgd : o.guard = none) (s x : Operand)
    (ho : o.op = .call { callee := .builtin .append, args := #[s, x], argTypes := #[30, 30] })
    (base n : Nat) (v : Value) (xs : List Int) (hs : a.eval s = v) (hown : w.ownsRow base 5 1 v n (xs.map (Value.int .u8)))
    (ao : Option Addr) (m c : Nat) (ys : List Int) (hx : a.eval x = .slice ao m c) (hr : Rd w ao m c ys) (hlim : n + m ≤ 1000000000) (hbase : base ≤ w.heap.size)
    (h : ∀ v' w', w'.ownsRow base 5 1 v' (n + m) ((xs ++ ys).map (Value.int .u8)) → w.grownBy w' v.ownBlock → wpList Tryd.prog ops Q rest (a.put o.dst v') w') :
    wpList Tryd.prog ops Q (o :: rest) a w := by
  obtain ⟨i0, hi, hz0, hz1, hz2⟩ := info_parts Tryd.info5
  cases ao with
  | none =>
    obtain ⟨rfl, rfl⟩ := hr.nul rfl
    have hy : ys = [] := List.eq_nil_of_length_eq_zero hr.len
    subst hy
    refine wpList_append_own_none hgd s x 30 ho base 5 i0 1 Tryd.underlying30 hi _ n _ hs hown hx ?_
    exact h v w (by simpa using hown) (World.grownBy.refl _ _)
  | some ad =>
    refine wpList_append_own w hgd s x 30 ho base 5 i0 (.int .u8 0) 1 1 Tryd.underlying30 hi hz0 hz1 hz2 rfl (by decide) _ n _ hs hown ad m c (ys.map (Value.int .u8)) hx (by have := hr.len; simp; omega) (hr.cellsOf ad rfl) (ints_oneCell _ _)
      (by unfold maxLen; omega) (by omega) hbase ?_
    intro v' w' h1 h2 h3
    exact h v' w' (by rw [List.map_append]; exact h1) h2

theorem grown_wr {w w' : World} {base n B R : Nat} {v : Value} {xs : List Value} {l : List Fd} (h : Wr w B R l) (hown : w.ownsRow base 5 1 v n xs) (hg : w.grownBy w' v.ownBlock) : Wr w' B R l := by
  refine h.fr ((Fr.refl (fun k => v.ownBlock = some k) w).grown hg (fun _ _ hk => hk)) (fun k c t x hk hc => ?_)
  rcases hown.2 with ⟨e1, e2⟩ | ⟨g, cap, cur, e1, _, e3, _⟩
  · rw [e1] at hk; simp [Value.ownBlock] at hk
  · rw [e1] at hk
    simp [Value.ownBlock] at hk
    subst hk
    rw [e3] at hc
    simp only [Option.some.injEq, Obj.cells.injEq] at hc
    rw [← hc.2.1]
    decide

end Go.Proofs.YtjkfmnahmbnbnaaDoor
