/- What literals and copies make, one behind the other; the memory while they are written. -/
import Derived.Test.YtjkfmnahmbnbnaaDoorXSyl
namespace Go.Proofs.YtjkfmnahmbnbnaaDoor
open Go.RowKit

theorem lit_yes (m b : Nat) (l : List It) (os : List Int) (h : os.length < m) : play m (.lit b :: l) os = play m l (os ++ [(b : Int)]) := by rw [play, if_pos h]
theorem lit_no (m b : Nat) (l : List It) (os : List Int) (h : ¬ os.length < m) : play m (.lit b :: l) os = (5, os) := by rw [play, if_neg h]
theorem cpy_far (m s v t u : Nat) (l : List It) (os : List Int) (h : os.length < db t + u) : play m (.cpy s v t u :: l) os = (2, os) := by rw [play, if_pos h]
theorem cpy_yes (m s v t u : Nat) (l : List It) (os : List Int) (h : ¬ os.length < db t + u) (h' : os.length + (lb s + v) ≤ m) : play m (.cpy s v t u :: l) os = play m l (cps (lb s + v) (db t + u) os) := by rw [play, if_neg h, if_pos h']
theorem cpy_no (m s v t u : Nat) (l : List It) (os : List Int) (h : ¬ os.length < db t + u) (h' : ¬ os.length + (lb s + v) ≤ m) : play m (.cpy s v t u :: l) os = (5, os) := by rw [play, if_neg h, if_neg h']

theorem play_app0 (m : Nat) (a b : List It) : ∀ os o, play m a os = (0, o) → play m (a ++ b) os = play m b o := by
  induction a with
  | nil =>
    intro os o h
    simp only [play, Prod.mk.injEq] at h
    rw [List.nil_append, h.2]
  | cons i a ih =>
    intro os o h
    cases i with
    | lit c =>
      rw [List.cons_append]
      by_cases h' : os.length < m
      · rw [lit_yes m c a os h'] at h
        rw [lit_yes m c (a ++ b) os h']
        exact ih _ _ h
      · rw [lit_no m c a os h'] at h
        simp at h
    | cpy s v t u =>
      rw [List.cons_append]
      by_cases h' : os.length < db t + u
      · rw [cpy_far m s v t u a os h'] at h
        simp at h
      · by_cases h2 : os.length + (lb s + v) ≤ m
        · rw [cpy_yes m s v t u a os h' h2] at h
          rw [cpy_yes m s v t u (a ++ b) os h' h2]
          exact ih _ _ h
        · rw [cpy_no m s v t u a os h' h2] at h
          simp at h

theorem play_appE (m : Nat) (a b : List It) (g : Int) (hg : g ≠ 0) : ∀ os, (play m a os).1 = g → (play m (a ++ b) os).1 = g := by
  induction a with
  | nil =>
    intro os h
    simp only [play] at h
    exact absurd h.symm hg
  | cons i a ih =>
    intro os h
    cases i with
    | lit c =>
      rw [List.cons_append]
      by_cases h' : os.length < m
      · rw [lit_yes m c a os h'] at h
        rw [lit_yes m c (a ++ b) os h']
        exact ih _ h
      · rw [lit_no m c a os h'] at h
        rw [lit_no m c (a ++ b) os h']
        exact h
    | cpy s v t u =>
      rw [List.cons_append]
      by_cases h' : os.length < db t + u
      · rw [cpy_far m s v t u a os h'] at h
        rw [cpy_far m s v t u (a ++ b) os h']
        exact h
      · by_cases h2 : os.length + (lb s + v) ≤ m
        · rw [cpy_yes m s v t u a os h' h2] at h
          rw [cpy_yes m s v t u (a ++ b) os h' h2]
          exact ih _ h
        · rw [cpy_no m s v t u a os h' h2] at h
          rw [cpy_no m s v t u (a ++ b) os h' h2]
          exact h

/-- These items make os, where there is room for it; else they are too long. -/
def Mk (its : List It) (os : List Int) : Prop := ∀ m, (os.length ≤ m → play m its [] = (0, os)) ∧ (m < os.length → (play m its []).1 = 5)

theorem Mk.nil : Mk [] [] := fun m => ⟨fun _ => rfl, fun h => by simp at h⟩

theorem Mk.lit {its : List It} {os : List Int} (h : Mk its os) (b : Nat) : Mk (its ++ [.lit b]) (os ++ [(b : Int)]) := by
  intro m
  obtain ⟨h1, h2⟩ := h m
  rw [List.length_append]
  simp only [List.length_cons, List.length_nil, Nat.zero_add]
  constructor
  · intro hm
    rw [play_app0 m its _ [] os (h1 (by omega)), lit_yes m b [] os (by omega)]
    rfl
  · intro hm
    rcases Nat.lt_or_ge m os.length with h' | h'
    · exact play_appE m its _ 5 (by decide) [] (h2 h')
    · rw [play_app0 m its _ [] os (h1 h'), lit_no m b [] os (by omega)]

theorem Mk.cpy {its : List It} {os : List Int} (h : Mk its os) (s v t u : Nat) (hd : db t + u ≤ os.length) : Mk (its ++ [.cpy s v t u]) (cps (lb s + v) (db t + u) os) := by
  intro m
  obtain ⟨h1, h2⟩ := h m
  rw [cps_len]
  have hn : ¬ os.length < db t + u := Nat.not_lt.2 hd
  constructor
  · intro hm
    rw [play_app0 m its _ [] os (h1 (Nat.le_trans (Nat.le_add_right _ _) hm)), cpy_yes m s v t u [] os hn hm]
    rfl
  · intro hm
    rcases Nat.lt_or_ge m os.length with h' | h'
    · exact play_appE m its _ 5 (by decide) [] (h2 h')
    · rw [play_app0 m its _ [] os (h1 h'), cpy_no m s v t u [] os hn (Nat.not_le.2 hm)]

theorem Mk.far {its : List It} {os : List Int} (h : Mk its os) (s v t u m : Nat) (hd : os.length < db t + u) (hm : os.length ≤ m) : (play m (its ++ [.cpy s v t u]) []).1 = 2 := by
  rw [play_app0 m its _ [] os ((h m).1 hm), cpy_far m s v t u [] os hd]

/-- What holds while a block is written: the writer of l, the bytes os in v. -/
structure Ow (w : World) (R : Nat) (os : List Int) (v : Value) (wr : World) (l : List Fd) : Prop where
  wt : Wr wr w.heap.size R l
  own : wr.ownsRow w.heap.size 5 1 v os.length (os.map (Value.int .u8))
  byt : ∀ x ∈ os, 0 ≤ x ∧ x < 256
  bel : Below w.heap.size w wr

theorem Ow.xw {w : World} {R : Nat} {os : List Int} {v : Value} {wa wb : World} {l l' : List Fd} (h : Ow w R os v wa l) (hw : Wr wb w.heap.size R l') (hx : Xw w.heap.size wa wb) : Ow w R os v wb l' :=
  ⟨hw, ownsRow_kx h.own hx.kx (by decide) (by decide), h.byt, h.bel.trans hx.bel⟩

theorem Ow.keep {w : World} {R : Nat} {os : List Int} {v : Value} {wa wb : World} {l : List Fd} (h : Ow w R os v wa l) (hb : Below wa.heap.size wa wb) : Ow w R os v wb l :=
  ⟨h.wt.keep hb, ownsRow_fr h.own (Fr.ofBelow (P := fun _ => False) hb) (fun _ _ h => h), h.byt, h.bel.trans (hb.mono h.bel.size)⟩

theorem row_grown {w w' : World} {base n b t m : Nat} {v : Value} {xs : List Value} {f : Nat → Value} (h : w.rowIs b t m f) (hown : w.ownsRow base 5 1 v n xs) (hg : w.grownBy w' v.ownBlock) (ht : t ≠ 5) : w'.rowIs b t m f := by
  refine rowIs_fr h ((Fr.refl (fun k => v.ownBlock = some k) w).grown hg (fun _ _ hk => hk)) (fun hk => ?_)
  rcases hown.2 with ⟨e1, e2⟩ | ⟨g, cap, cur, e1, _, e3, _⟩
  · rw [e1] at hk; simp [Value.ownBlock] at hk
  · rw [e1] at hk
    simp [Value.ownBlock] at hk
    subst hk
    obtain ⟨c, h1, _⟩ := h
    rw [e3] at h1
    simp only [Option.some.injEq, Obj.cells.injEq] at h1
    exact ht h1.2.1.symm

/-- Behind an append of one byte onto v. -/
theorem Ow.push {w : World} {R : Nat} {os : List Int} {v v' : Value} {wa wb : World} {l : List Fd} {O : Obj} {b : Int} (h : Ow w R os v wa l) (b0 : 0 ≤ b) (b1 : b < 256) (ho : wb.ownsRow w.heap.size 5 1 v' (os.length + 1) ((os ++ [b]).map (Value.int .u8))) (hg : (wa.alloc O).grownBy wb v.ownBlock) : Ow w R (os ++ [b]) v' wb l := by
  have hA : Below wa.heap.size wa (wa.alloc O) := (Below.refl _ _).alloc (Nat.le_refl _) _
  have h1 := h.keep hA
  refine ⟨grown_wr h1.wt h1.own hg, by rw [List.length_append]; exact ho, ?_, h1.bel.grown hg h1.bel.size (fun p hp => (h1.own.lt p hp).1)⟩
  intro x hx
  rcases List.mem_append.1 hx with hx | hx
  · exact h.byt x hx
  · simp at hx
    omega

end Go.Proofs.YtjkfmnahmbnbnaaDoor
