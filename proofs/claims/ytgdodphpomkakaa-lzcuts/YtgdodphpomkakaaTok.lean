/- Tokens in memory; isLiteral, isCopy, size. -/
import Derived.Test.YtgdodphpomkakaaFrame
import Derived.Test.YtgdodphpomkakaaLz
namespace Go.Proofs.Ytgdodphpomkakaa
open Go.RowKit

/-- A token, by value. -/
abbrev tv (t : Tok) : Value := .agg #[.int .u8 t.1, .int .i64 t.2.1, .int .i64 t.2.2]

/-- A token's cells. -/
def tc (t : Tok) : List Value := [.int .u8 t.1, .int .i64 t.2.1, .int .i64 t.2.2]

/-- The cells of tokens. -/
def tcs (ts : List Tok) : List Value := ts.flatMap tc

theorem tcs_app (a b : List Tok) : tcs (a ++ b) = tcs a ++ tcs b := by simp [tcs]

theorem tcs_one (t : Tok) : tcs [t] = tc t := by simp [tcs]

theorem tcs_len (ts : List Tok) : (tcs ts).length = ts.length * 3 := by
  induction ts with
  | nil => rfl
  | cons t ts ih =>
    show (tc t ++ tcs ts).length = _
    rw [List.length_append, ih]
    simp [tc]
    omega

theorem tcs_get (ts : List Tok) (j : Nat) (h : j < ts.length) : (tcs ts)[j * 3]? = some (.int .u8 (ts.getD j tz).1) ∧ (tcs ts)[j * 3 + 1]? = some (.int .i64 (ts.getD j tz).2.1) ∧ (tcs ts)[j * 3 + 2]? = some (.int .i64 (ts.getD j tz).2.2) := by
  induction ts generalizing j with
  | nil => simp at h
  | cons t ts ih =>
    have e : tcs (t :: ts) = .int .u8 t.1 :: .int .i64 t.2.1 :: .int .i64 t.2.2 :: tcs ts := rfl
    rw [e]
    cases j with
    | zero => exact ⟨rfl, rfl, rfl⟩
    | succ j =>
      have := ih j (by simpa using h)
      rw [show (j + 1) * 3 = j * 3 + 1 + 1 + 1 by omega]
      simpa using this

theorem tcs_oneCell (ts : List Tok) : ∀ v ∈ tcs ts, v.oneCell' = true := by
  intro v hv
  obtain ⟨t, _, ht⟩ := List.mem_flatMap.1 hv
  simp only [tc, List.mem_cons, List.not_mem_nil, or_false] at ht
  rcases ht with rfl | rfl | rfl <;> rfl

/-- The slice at ao of n tokens reads as ts in the world w. -/
structure Tk (w : World) (ao : Option Addr) (n : Nat) (ts : List Tok) : Prop where
  len : ts.length = n
  cells : ∀ j, j < n → ∃ b off, ao = some ⟨b, off, none⟩ ∧ w.cell? ⟨b, off + j * 3, none⟩ = some (.int .u8 (ts.getD j tz).1) ∧ w.cell? ⟨b, off + j * 3 + 1, none⟩ = some (.int .i64 (ts.getD j tz).2.1) ∧ w.cell? ⟨b, off + j * 3 + 2, none⟩ = some (.int .i64 (ts.getD j tz).2.2)
  byt : ∀ t ∈ ts, 0 ≤ t.1 ∧ t.1 < 256

theorem Tk.keep {w w' : World} {ao : Option Addr} {n : Nat} {ts : List Tok} (h : Tk w ao n ts) (hb : Below w.heap.size w w') : Tk w' ao n ts :=
  ⟨h.len, fun j hj => by
    obtain ⟨b, off, e, h0, h1, h2⟩ := h.cells j hj
    refine ⟨b, off, e, ?_, ?_, ?_⟩
    · rw [hb.cell (World.block_lt_of_cell? w _ h0)]; exact h0
    · rw [hb.cell (World.block_lt_of_cell? w _ h1)]; exact h1
    · rw [hb.cell (World.block_lt_of_cell? w _ h2)]; exact h2, h.byt⟩

theorem Tk.at {w : World} {ao : Option Addr} {n : Nat} {ts : List Tok} (h : Tk w ao n ts) (j : Nat) (hj : j < n) : 0 ≤ (ts.getD j tz).1 ∧ (ts.getD j tz).1 < 256 := by
  have hl := h.len
  apply h.byt
  rw [List.getD, List.getElem?_eq_getElem (by omega : j < ts.length)]
  simp

/-- A row of tokens of the call's own. -/
theorem own_tk {w : World} {base e n : Nat} {v : Value} {ts : List Tok} (h : w.ownsRow base e 3 v n (tcs ts)) (hb : ∀ t ∈ ts, 0 ≤ t.1 ∧ t.1 < 256) :
    ∃ ao c, v = .slice ao n c ∧ n ≤ c ∧ Tk w ao n ts ∧ (ao = none → n = 0 ∧ c = 0) ∧ ∀ ad, ao = some ad → v.ownBlock = some ad.block ∧ base ≤ ad.block ∧ ad = ⟨ad.block, 0, none⟩ := by
  have hl : ts.length = n := by have := h.1; rw [tcs_len] at this; omega
  rcases h.2 with ⟨rfl, rfl⟩ | ⟨g, cap, cur, rfl, hg, hh, hle, hrest⟩
  · exact ⟨none, 0, rfl, Nat.le_refl _, ⟨hl, (fun j hj => by omega), hb⟩, fun _ => ⟨rfl, rfl⟩, fun ad had => by cases had⟩
  · refine ⟨_, _, rfl, hle, ⟨hl, fun j hj => ?_, hb⟩, (fun e => by cases e), fun ad had => by cases had; exact ⟨rfl, hg, rfl⟩⟩
    obtain ⟨g0, g1, g2⟩ := tcs_get ts j (by omega)
    have c0 := h.cells (g := g) rfl _ _ g0
    have c1 := h.cells (g := g) rfl _ _ g1
    have c2 := h.cells (g := g) rfl _ _ g2
    rw [Addr.add_lit] at c0 c1 c2
    exact ⟨g, 0, rfl, c0, c1, c2⟩

theorem isLit_any (t : Tok) (w : World) : Calls Try.prog 18 #[tv t] w fun e w' => e = .returned (.bool (decide (isL t))) ∧ Below w.heap.size w w' := by
  obtain ⟨l, n, d⟩ := t
  by_cases h1 : n = 0
  · by_cases h2 : d = 0
    · subst h1 h2
      go_enter Try.func18, Try.ntmps18
      go_wp2
      go_ret
      exact ⟨rfl, (Below.refl _ _).alloc (Nat.le_refl _) _⟩
    · have q : (d == 0) = false := by simp [h2]
      have e : decide (isL (l, n, d)) = false := by simp [isL, h2]
      rw [e]
      subst h1
      clear e
      go_enter Try.func18, Try.ntmps18
      go_wp2
      go_ret
      exact ⟨rfl, (Below.refl _ _).alloc (Nat.le_refl _) _⟩
  · have q : (n == 0) = false := by simp [h1]
    have e : decide (isL (l, n, d)) = false := by simp [isL, h1]
    rw [e]
    clear e
    go_enter Try.func18, Try.ntmps18
    go_wp2
    go_ret
    exact ⟨rfl, (Below.refl _ _).alloc (Nat.le_refl _) _⟩

theorem isCopy_any (t : Tok) (n : Nat) (w : World) : Calls Try.prog 19 #[tv t, .int .i64 n] w fun e w' => e = .returned (.bool (decide (isC t n))) ∧ Below w.heap.size w w' := by
  obtain ⟨l, m, d⟩ := t
  by_cases h1 : l = 0
  · by_cases h2 : 3 ≤ m
    · by_cases h3 : m ≤ 258
      · by_cases h4 : 1 ≤ d
        · by_cases h5 : d ≤ n
          · have e : decide (isC (l, m, d) n) = true := decide_eq_true ⟨h1, h2, h3, h4, h5⟩
            rw [e]
            subst h1
            clear e
            go_enter Try.func19, Try.ntmps19
            go_wp2
            go_ret
            exact ⟨rfl, (Below.refl _ _).alloc (Nat.le_refl _) _⟩
          · have e : decide (isC (l, m, d) n) = false := decide_eq_false (fun ⟨_, _, _, _, h⟩ => h5 h)
            rw [e]
            subst h1
            clear e
            go_enter Try.func19, Try.ntmps19
            go_wp2
            go_ret
            exact ⟨rfl, (Below.refl _ _).alloc (Nat.le_refl _) _⟩
        · have e : decide (isC (l, m, d) n) = false := decide_eq_false (fun ⟨_, _, _, h, _⟩ => h4 h)
          rw [e]
          subst h1
          clear e
          go_enter Try.func19, Try.ntmps19
          go_wp2
          go_ret
          exact ⟨rfl, (Below.refl _ _).alloc (Nat.le_refl _) _⟩
      · have e : decide (isC (l, m, d) n) = false := decide_eq_false (fun ⟨_, _, h, _, _⟩ => h3 h)
        rw [e]
        subst h1
        clear e
        go_enter Try.func19, Try.ntmps19
        go_wp2
        go_ret
        exact ⟨rfl, (Below.refl _ _).alloc (Nat.le_refl _) _⟩
    · have e : decide (isC (l, m, d) n) = false := decide_eq_false (fun ⟨_, h, _, _, _⟩ => h2 h)
      rw [e]
      subst h1
      clear e
      go_enter Try.func19, Try.ntmps19
      go_wp2
      go_ret
      exact ⟨rfl, (Below.refl _ _).alloc (Nat.le_refl _) _⟩
  · have e : decide (isC (l, m, d) n) = false := decide_eq_false (fun ⟨h, _⟩ => h1 h)
    have q : (l == 0) = false := by simp [h1]
    rw [e]
    clear e
    go_enter Try.func19, Try.ntmps19
    go_wp2
    go_ret
    exact ⟨rfl, (Below.refl _ _).alloc (Nat.le_refl _) _⟩

theorem size_any (t : Tok) (w : World) : Calls Try.prog 20 #[tv t] w fun e w' => e = .returned (.int .i64 (sz t)) ∧ Below w.heap.size w w' := by
  obtain ⟨l, n, d⟩ := t
  by_cases h1 : n = 0
  · subst h1
    have e : sz (l, 0, d) = 1 := by simp [sz]
    rw [e]
    go_enter Try.func20, Try.ntmps20
    go_wp2
    go_ret
    exact ⟨rfl, (Below.refl _ _).alloc (Nat.le_refl _) _⟩
  · have q : (n == 0) = false := by simp [h1]
    by_cases h2 : n < 0
    · have e : sz (l, n, d) = 0 := by simp [sz, h1, h2]
      rw [e]
      go_enter Try.func20, Try.ntmps20
      go_wp2
      go_ret
      exact ⟨rfl, (Below.refl _ _).alloc (Nat.le_refl _) _⟩
    · by_cases h3 : 258 < n
      · have e : sz (l, n, d) = 0 := by simp [sz, h1, h3]
        rw [e]
        go_enter Try.func20, Try.ntmps20
        go_wp2
        go_ret
        exact ⟨rfl, (Below.refl _ _).alloc (Nat.le_refl _) _⟩
      · have e : ((sz (l, n, d) : Nat) : Int) = n := by simp [sz, h1, h2, h3]; omega
        rw [e]
        clear e
        go_enter Try.func20, Try.ntmps20
        go_wp2
        go_ret
        exact ⟨rfl, (Below.refl _ _).alloc (Nat.le_refl _) _⟩

/-- A block of three cells. -/
def Bx (w : World) (p : Nat) (x y z : Value) : Prop := w.cell? ⟨p, 0, none⟩ = some x ∧ w.cell? ⟨p, 1, none⟩ = some y ∧ w.cell? ⟨p, 2, none⟩ = some z

theorem Bx.new (w : World) (x y z : Value) (ty : TypeId) : Bx (w.alloc (.cells #[x, y, z] ty)) w.heap.size x y z := by
  have h := World.rowIs_alloc w #[x, y, z] ty (fun j => (#[x, y, z] : Array Value).getD j undef) (fun i hi => by simp at hi; rcases i with _ | _ | _ | i <;> first | rfl | omega)
  exact ⟨h.cell (i := 0) (by simp), h.cell (i := 1) (by simp), h.cell (i := 2) (by simp)⟩

theorem Bx.keep {w w' : World} {p : Nat} {x y z : Value} (h : Bx w p x y z) (hb : Below w.heap.size w w') : Bx w' p x y z := by
  obtain ⟨h0, h1, h2⟩ := h
  refine ⟨?_, ?_, ?_⟩
  · rw [hb.cell (World.block_lt_of_cell? w _ h0)]; exact h0
  · rw [hb.cell (World.block_lt_of_cell? w _ h1)]; exact h1
  · rw [hb.cell (World.block_lt_of_cell? w _ h2)]; exact h2

end Go.Proofs.Ytgdodphpomkakaa
