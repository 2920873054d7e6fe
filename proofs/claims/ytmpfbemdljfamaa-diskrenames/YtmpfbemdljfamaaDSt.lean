/- A disk's state, and how it lies in memory. -/
import Derived.Test.YtmpfbemdljfamaaDMem
namespace Go.Proofs.Ytmpfbemdljfamaa
open Go.RowKit Go.Maps

/-- What kind of cells a block has; none: it is a map. -/
def kd (w : World) (b : Nat) : Option TypeId :=
  match w.heap[b]? with
  | some (.cells _ t _) => some t
  | _ => none

theorem kd_row {w : World} {b t n : Nat} {f : Nat → Value} (h : w.rowIs b t n f) : kd w b = some t := by
  obtain ⟨c, e, _⟩ := h
  simp [kd, e]

theorem kd_own {w : World} {base e s n : Nat} {v : Value} {xs : List Value} (h : w.ownsRow base e s v n xs) {g : Nat} (hg : v.ownBlock = some g) : kd w g = some e := by
  rcases h.2 with ⟨rfl, _⟩ | ⟨g', cap, cur, rfl, _, h2, _⟩
  · cases hg
  · cases hg
    simp [kd, h2]

theorem kd_map {w : World} {b : Nat} {D : DataW Unit} (h : Mp w b D) : kd w b = none := by
  obtain ⟨es, clock, e, _⟩ := h
  simp [kd, e]

theorem own_lt {w : World} {base e s n : Nat} {v : Value} {xs : List Value} (h : w.ownsRow base e s v n xs) {g : Nat} (hg : v.ownBlock = some g) : g < w.heap.size := (h.lt g hg).2

/-- A change of the names of a directory. -/
inductive Chg where
  | made (n : ByteArray) (p : Nat)
  | renamed (a b : ByteArray)
  | removed (n : ByteArray)

/-- What a change does to names, fs being the files that its row made. -/
def Chg.on (fs : List Nat) (D : DataW Unit) : Chg → DataW Unit
  | .made n p => D.put (nm n) (pd (fs.getD p 0))
  | .renamed a b => (D.put (nm b) (D.atKey (nm a) .nil)).del (nm a)
  | .removed n => D.del (nm n)

/-- How a change lies in memory: a function with what it has caught. -/
inductive IsChg (w : World) (O : Nat → Prop) (m : Nat) : Value → Chg → Prop
  | made (n : ByteArray) (p b1 b2 : Nat) : w.rowIs b1 3 1 (fun _ => .int .i64 p) → w.rowIs b2 9 1 (fun _ => .string n) → O b1 → O b2 → p < m → n.size ≤ maxLen →
      IsChg w O m (.func (.func 53) #[] #[.pointer (some ⟨b1, 0, none⟩), .pointer (some ⟨b2, 0, none⟩)]) (.made n p)
  | renamed (a b : ByteArray) (b1 b2 : Nat) : w.rowIs b1 9 1 (fun _ => .string a) → w.rowIs b2 9 1 (fun _ => .string b) → O b1 → O b2 → a.size ≤ maxLen → b.size ≤ maxLen →
      IsChg w O m (.func (.func 54) #[] #[.pointer (some ⟨b1, 0, none⟩), .pointer (some ⟨b2, 0, none⟩)]) (.renamed a b)
  | removed (n : ByteArray) (b1 : Nat) : w.rowIs b1 9 1 (fun _ => .string n) → O b1 → n.size ≤ maxLen →
      IsChg w O m (.func (.func 66) #[] #[.pointer (some ⟨b1, 0, none⟩)]) (.removed n)

theorem IsChg.fr {P : Nat → Prop} {w w' : World} {O : Nat → Prop} {m : Nat} {v : Value} {c : Chg} (h : IsChg w O m v c) (hf : Fr P w w') (hP : ∀ b, O b → P b → kd w b ≠ some 3 ∧ kd w b ≠ some 9) : IsChg w' O m v c := by
  cases h with
  | made n p b1 b2 h1 h2 o1 o2 hp hn => exact .made n p b1 b2 (rowIs_fr h1 hf fun hb => (hP _ o1 hb).1 (kd_row h1)) (rowIs_fr h2 hf fun hb => (hP _ o2 hb).2 (kd_row h2)) o1 o2 hp hn
  | renamed a b b1 b2 h1 h2 o1 o2 ha hb => exact .renamed a b b1 b2 (rowIs_fr h1 hf fun hb => (hP _ o1 hb).2 (kd_row h1)) (rowIs_fr h2 hf fun hb => (hP _ o2 hb).2 (kd_row h2)) o1 o2 ha hb
  | removed n b1 h1 o1 hn => exact .removed n b1 (rowIs_fr h1 hf fun hb => (hP _ o1 hb).2 (kd_row h1)) o1 hn

theorem IsChg.mono {w : World} {O O' : Nat → Prop} {m m' : Nat} {v : Value} {c : Chg} (h : IsChg w O m v c) (hO : ∀ b, O b → O' b) (hm : m ≤ m') : IsChg w O' m' v c := by
  cases h with
  | made n p b1 b2 h1 h2 o1 o2 hp hn => exact .made n p b1 b2 h1 h2 (hO _ o1) (hO _ o2) (by omega) hn
  | renamed a b b1 b2 h1 h2 o1 o2 ha hb => exact .renamed a b b1 b2 h1 h2 (hO _ o1) (hO _ o2) ha hb
  | removed n b1 h1 o1 hn => exact .removed n b1 h1 (hO _ o1) hn

theorem IsChg.one {w : World} {O : Nat → Prop} {m : Nat} {v : Value} {c : Chg} (h : IsChg w O m v c) : v.oneCell' = true := by
  cases h <;> rfl

/-- A file: its bytes, how many of them last. -/
structure Fl where
  v : Value
  xs : List Int
  s : Int

def fc (x : Fl) : Nat → Value
  | 0 => x.v
  | _ => .int .i64 x.s

structure IsF (w : World) (O : Nat → Prop) (f : Nat) (x : Fl) : Prop where
  row : w.rowIs f 79 2 (fc x)
  dat : w.ownsRow 0 5 1 x.v x.xs.length (x.xs.map (Value.int .u8))
  byt : ∀ b ∈ x.xs, 0 ≤ b ∧ b < 256
  syn : 0 ≤ x.s ∧ x.s ≤ x.xs.length
  own : O f ∧ ∀ g, x.v.ownBlock = some g → O g

theorem IsF.fr {P : Nat → Prop} {w w' : World} {O : Nat → Prop} {f : Nat} {x : Fl} (h : IsF w O f x) (hf : Fr P w w') (h1 : ¬ P f) (h2 : ∀ g, x.v.ownBlock = some g → ¬ P g) : IsF w' O f x :=
  ⟨rowIs_fr h.row hf h1, ownsRow_fr h.dat hf h2, h.byt, h.syn, h.own⟩

/-- A row of changes. -/
structure Rw where
  cv : Value
  fv : Value
  cs : List Chg
  fs : List Nat

def rc (x : Rw) : Nat → Value
  | 0 => x.cv
  | _ => x.fv

structure IsRw (w : World) (O : Nat → Prop) (r : Nat) (x : Rw) : Prop where
  row : w.rowIs r 67 2 (rc x)
  chs : ∃ cl : List Value, w.ownsRow 0 57 1 x.cv x.cs.length cl ∧ ∀ i (hi : i < x.cs.length), ∃ u, cl[i]? = some u ∧ IsChg w O x.fs.length u (x.cs[i])
  fls : w.ownsRow 0 51 1 x.fv x.fs.length (x.fs.map fun f => pv (some f))
  own : O r ∧ (∀ g, x.cv.ownBlock = some g → O g) ∧ (∀ g, x.fv.ownBlock = some g → O g)

theorem IsRw.fr {P : Nat → Prop} {w w' : World} {O : Nat → Prop} {r : Nat} {x : Rw} (h : IsRw w O r x) (hf : Fr P w w') (h1 : ¬ P r) (h2 : ∀ g, x.cv.ownBlock = some g → ¬ P g) (h3 : ∀ g, x.fv.ownBlock = some g → ¬ P g)
    (hP : ∀ b, O b → P b → kd w b ≠ some 3 ∧ kd w b ≠ some 9) : IsRw w' O r x := by
  obtain ⟨cl, hc, hi⟩ := h.chs
  exact ⟨rowIs_fr h.row hf h1, ⟨cl, ownsRow_fr hc hf h2, fun i hi' => by
    obtain ⟨u, hu, hg⟩ := hi i hi'
    exact ⟨u, hu, hg.fr hf hP⟩⟩, ownsRow_fr h.fls hf h3, h.own⟩

theorem IsF.mono {w : World} {O O' : Nat → Prop} {f : Nat} {x : Fl} (h : IsF w O f x) (hO : ∀ b, O b → O' b) : IsF w O' f x := ⟨h.row, h.dat, h.byt, h.syn, hO _ h.own.1, fun g e => hO _ (h.own.2 g e)⟩

theorem IsRw.mono {w : World} {O O' : Nat → Prop} {r : Nat} {x : Rw} (h : IsRw w O r x) (hO : ∀ b, O b → O' b) : IsRw w O' r x := by
  obtain ⟨cl, hc, hi⟩ := h.chs
  exact ⟨h.row, ⟨cl, hc, fun i hi' => by
    obtain ⟨u, hu, hg⟩ := hi i hi'
    exact ⟨u, hu, hg.mono hO (Nat.le_refl _)⟩⟩, h.fls, hO _ h.own.1, fun g e => hO _ (h.own.2.1 g e), fun g e => hO _ (h.own.2.2 g e)⟩

/-- A disk's state. -/
structure St where
  q : Int
  nb : Nat
  lb : Nat
  rb : Nat
  off : Bool
  calls : Int
  left : Int
  pk : Value
  ps : List Int
  now : DataW Unit
  last : DataW Unit
  rws : DataW Unit
  F : Nat → Option Fl
  R : Nat → Option Rw

def dc (S : St) : Nat → Value
  | 0 => .int .i64 S.q
  | 1 => .map (some S.nb)
  | 2 => .map (some S.lb)
  | 3 => .map (some S.rb)
  | 4 => .bool S.off
  | 5 => .int .i64 S.calls
  | 6 => .int .i64 S.left
  | _ => S.pk

/-- All files. -/
structure Fs (w : World) (O : Nat → Prop) (F : Nat → Option Fl) : Prop where
  is : ∀ f x, F f = some x → IsF w O f x
  ap : ∀ f f' x x' g, f ≠ f' → F f = some x → F f' = some x' → x.v.ownBlock = some g → x'.v.ownBlock ≠ some g

theorem Fs.fr {P : Nat → Prop} {w w' : World} {O : Nat → Prop} {F : Nat → Option Fl} (h : Fs w O F) (hf : Fr P w w') (hP : ∀ b, O b → P b → kd w b ≠ some 79 ∧ kd w b ≠ some 5) : Fs w' O F :=
  ⟨fun f x e => (h.is f x e).fr hf (fun hp => (hP f (h.is f x e).own.1 hp).1 (kd_row (h.is f x e).row)) (fun g hg hp => (hP g ((h.is f x e).own.2 g hg) hp).2 (kd_own (h.is f x e).dat hg)), h.ap⟩

/-- All rows of changes. -/
structure Rs (w : World) (O : Nat → Prop) (R : Nat → Option Rw) : Prop where
  is : ∀ r x, R r = some x → IsRw w O r x
  ap : ∀ r r' x x' g, r ≠ r' → R r = some x → R r' = some x' → (x.cv.ownBlock = some g → x'.cv.ownBlock ≠ some g) ∧ (x.fv.ownBlock = some g → x'.fv.ownBlock ≠ some g)

theorem Rs.fr {P : Nat → Prop} {w w' : World} {O : Nat → Prop} {R : Nat → Option Rw} (h : Rs w O R) (hf : Fr P w w') (hP : ∀ b, O b → P b → kd w b ≠ some 67 ∧ kd w b ≠ some 57 ∧ kd w b ≠ some 51 ∧ kd w b ≠ some 3 ∧ kd w b ≠ some 9) : Rs w' O R :=
  ⟨fun r x e => by
    have hh := h.is r x e
    obtain ⟨cl, hc, _⟩ := hh.chs
    exact hh.fr hf (fun hp => (hP r hh.own.1 hp).1 (kd_row hh.row)) (fun g hg hp => (hP g (hh.own.2.1 g hg) hp).2.1 (kd_own hc hg)) (fun g hg hp => (hP g (hh.own.2.2 g hg) hp).2.2.1 (kd_own hh.fls hg))
      (fun b ho hp => (hP b ho hp).2.2.2), h.ap⟩

theorem Fs.mono {w : World} {O O' : Nat → Prop} {F : Nat → Option Fl} (h : Fs w O F) (hO : ∀ b, O b → O' b) : Fs w O' F := ⟨fun f x e => (h.is f x e).mono hO, h.ap⟩
theorem Rs.mono {w : World} {O O' : Nat → Prop} {R : Nat → Option Rw} (h : Rs w O R) (hO : ∀ b, O b → O' b) : Rs w O' R := ⟨fun f x e => (h.is f x e).mono hO, h.ap⟩

/-- The disk in block d, its blocks being those of O. -/
structure Dk (w : World) (O : Nat → Prop) (d : Nat) (S : St) : Prop where
  row : w.rowIs d 48 8 (dc S)
  now : Mp w S.nb S.now
  last : Mp w S.lb S.last
  rws : Mp w S.rb S.rws
  ne : S.nb ≠ S.lb ∧ S.nb ≠ S.rb ∧ S.lb ≠ S.rb
  fs : Fs w O S.F
  rs : Rs w O S.R
  pic : w.ownsRow 0 3 1 S.pk S.ps.length (S.ps.map (Value.int .i64))
  own : O d ∧ O S.nb ∧ O S.lb ∧ O S.rb ∧ ∀ g, S.pk.ownBlock = some g → O g
  lim : ∀ b, O b → b < w.heap.size

/-- What others do leaves it. -/
theorem Dk.fr {P : Nat → Prop} {w w' : World} {O : Nat → Prop} {d : Nat} {S : St} (h : Dk w O d S) (hf : Fr P w w') (hP : ∀ b, O b → ¬ P b) : Dk w' O d S :=
  ⟨rowIs_fr h.row hf (hP _ h.own.1), h.now.fr hf (hP _ h.own.2.1), h.last.fr hf (hP _ h.own.2.2.1), h.rws.fr hf (hP _ h.own.2.2.2.1), h.ne,
    h.fs.fr hf (fun b ho hp => absurd hp (hP b ho)), h.rs.fr hf (fun b ho hp => absurd hp (hP b ho)), ownsRow_fr h.pic hf (fun g e => hP g (h.own.2.2.2.2 g e)), h.own,
    fun b hb => Nat.lt_of_lt_of_le (h.lim b hb) hf.size⟩

theorem Dk.keep {w w' : World} {O : Nat → Prop} {d : Nat} {S : St} (h : Dk w O d S) (hf : Below w.heap.size w w') : Dk w' O d S :=
  h.fr (P := fun _ => False) (Fr.ofBelow hf) (fun _ _ h => h)

theorem Dk.mono {w : World} {O O' : Nat → Prop} {d : Nat} {S : St} (h : Dk w O d S) (hO : ∀ b, O b → O' b) (hl : ∀ b, O' b → b < w.heap.size) : Dk w O' d S :=
  ⟨h.row, h.now, h.last, h.rws, h.ne, h.fs.mono hO, h.rs.mono hO, h.pic, ⟨hO _ h.own.1, hO _ h.own.2.1, hO _ h.own.2.2.1, hO _ h.own.2.2.2.1, fun g e => hO _ (h.own.2.2.2.2 g e)⟩, hl⟩

/-- Its own cells are written. -/
theorem Dk.setRow {w w' : World} {O : Nat → Prop} {d : Nat} {S S' : St} (h : Dk w O d S) (hr : w'.rowIs d 48 8 (dc S')) (hf : Fr (fun k => k = d) w w')
    (e1 : S'.nb = S.nb) (e2 : S'.lb = S.lb) (e3 : S'.rb = S.rb) (e4 : S'.now = S.now) (e5 : S'.last = S.last) (e6 : S'.rws = S.rws) (e7 : S'.F = S.F) (e8 : S'.R = S.R)
    (hp : w'.ownsRow 0 3 1 S'.pk S'.ps.length (S'.ps.map (Value.int .i64))) (ho : ∀ g, S'.pk.ownBlock = some g → O g) : Dk w' O d S' := by
  have kd0 := kd_row h.row
  have nm : ∀ b D, Mp w b D → b ≠ d := fun b D hm e => by rw [← e, kd_map hm] at kd0; cases kd0
  refine ⟨hr, ?_, ?_, ?_, ?_, ?_, ?_, hp, ?_, fun b hb => Nat.lt_of_lt_of_le (h.lim b hb) hf.size⟩
  · rw [e1, e4]; exact h.now.fr hf (nm _ _ h.now)
  · rw [e2, e5]; exact h.last.fr hf (nm _ _ h.last)
  · rw [e3, e6]; exact h.rws.fr hf (nm _ _ h.rws)
  · rw [e1, e2, e3]; exact h.ne
  · rw [e7]; exact h.fs.fr hf (fun b _ hb => by subst hb; rw [kd0]; decide)
  · rw [e8]; exact h.rs.fr hf (fun b _ hb => by subst hb; rw [kd0]; decide)
  · rw [e1, e2, e3]; exact ⟨h.own.1, h.own.2.1, h.own.2.2.1, h.own.2.2.2.1, ho⟩

end Go.Proofs.Ytmpfbemdljfamaa
