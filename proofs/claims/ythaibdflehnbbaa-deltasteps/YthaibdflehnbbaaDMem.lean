/- Steps in memory. -/
import Derived.Test.YthaibdflehnbbaaDl
import Derived.Test.YthaibdflehnbbaaHelp
namespace Go.Proofs.Ythaibdflehnbbaa
open Go.RowKit

/-- A step in memory: its three words, its slice. -/
structure MO where
  cp : Bool
  fr : Int
  n : Int
  a : Option Addr
  m : Nat
  c : Nat

def mz : MO := ⟨false, 0, 0, none, 0, 0⟩

/-- A step's cells. -/
def oc (x : MO) : List Value := [.bool x.cp, .int .i64 x.fr, .int .i64 x.n, .slice x.a x.m x.c]

def ocs (xs : List MO) : List Value := xs.flatMap oc

theorem ocs_app (a b : List MO) : ocs (a ++ b) = ocs a ++ ocs b := by simp [ocs]

theorem ocs_one (x : MO) : ocs [x] = oc x := by simp [ocs]

theorem ocs_len (xs : List MO) : (ocs xs).length = xs.length * 4 := by
  induction xs with
  | nil => rfl
  | cons t ts ih =>
    show (oc t ++ ocs ts).length = _
    rw [List.length_append, ih]
    simp [oc]
    omega

theorem ocs_get (xs : List MO) (j : Nat) (h : j < xs.length) : (ocs xs)[j * 4]? = some (.bool (xs.getD j mz).cp) ∧ (ocs xs)[j * 4 + 1]? = some (.int .i64 (xs.getD j mz).fr) ∧ (ocs xs)[j * 4 + 2]? = some (.int .i64 (xs.getD j mz).n) ∧
    (ocs xs)[j * 4 + 3]? = some (.slice (xs.getD j mz).a (xs.getD j mz).m (xs.getD j mz).c) := by
  induction xs generalizing j with
  | nil => simp at h
  | cons t ts ih =>
    have e : ocs (t :: ts) = .bool t.cp :: .int .i64 t.fr :: .int .i64 t.n :: .slice t.a t.m t.c :: ocs ts := rfl
    rw [e]
    cases j with
    | zero => exact ⟨rfl, rfl, rfl, rfl⟩
    | succ j =>
      have := ih j (by simpa using h)
      rw [show (j + 1) * 4 = j * 4 + 1 + 1 + 1 + 1 by omega]
      simpa using this

theorem oc_oneCell (x : MO) : ∀ v ∈ oc x, v.oneCell' = true := by
  intro v hv
  simp only [oc, List.mem_cons, List.not_mem_nil, or_false] at hv
  rcases hv with rfl | rfl | rfl | rfl <;> rfl

/-- The step x in memory is the step o. -/
structure OpIs (w : World) (x : MO) (o : Op) : Prop where
  cp : x.cp = o.cp
  fr : x.fr = o.fr
  n : x.n = o.n
  rd : Rd w x.a x.m x.c o.da

theorem OpIs.keep {w w' : World} {x : MO} {o : Op} (h : OpIs w x o) (hb : Below w.heap.size w w') : OpIs w' x o := ⟨h.cp, h.fr, h.n, h.rd.keep hb⟩

/-- The slice at ao of n steps reads as l in the world w. -/
structure Os (w : World) (ao : Option Addr) (n : Nat) (xs : List MO) (l : List Op) : Prop where
  len : l.length = n
  lenx : xs.length = n
  cells : ∀ j, j < n → ∃ b off, ao = some ⟨b, off, none⟩ ∧ w.cell? ⟨b, off + j * 4, none⟩ = some (.bool (xs.getD j mz).cp) ∧ w.cell? ⟨b, off + j * 4 + 1, none⟩ = some (.int .i64 (xs.getD j mz).fr) ∧
    w.cell? ⟨b, off + j * 4 + 2, none⟩ = some (.int .i64 (xs.getD j mz).n) ∧ w.cell? ⟨b, off + j * 4 + 3, none⟩ = some (.slice (xs.getD j mz).a (xs.getD j mz).m (xs.getD j mz).c)
  is : ∀ j, j < n → OpIs w (xs.getD j mz) (l.getD j oz)

theorem Os.keep {w w' : World} {ao : Option Addr} {n : Nat} {xs : List MO} {l : List Op} (h : Os w ao n xs l) (hb : Below w.heap.size w w') : Os w' ao n xs l :=
  ⟨h.len, h.lenx, fun j hj => by
    obtain ⟨b, off, e, h0, h1, h2, h3⟩ := h.cells j hj
    refine ⟨b, off, e, ?_, ?_, ?_, ?_⟩
    · rw [hb.cell (World.block_lt_of_cell? w _ h0)]; exact h0
    · rw [hb.cell (World.block_lt_of_cell? w _ h1)]; exact h1
    · rw [hb.cell (World.block_lt_of_cell? w _ h2)]; exact h2
    · rw [hb.cell (World.block_lt_of_cell? w _ h3)]; exact h3, fun j hj => (h.is j hj).keep hb⟩

theorem Os.nil (w : World) : Os w none 0 [] [] := ⟨rfl, rfl, (fun j hj => by omega), (fun j hj => by omega)⟩

theorem Os.at {w : World} {ao : Option Addr} {n : Nat} {xs : List MO} {l : List Op} (h : Os w ao n xs l) (j : Nat) (hj : j < n) : l.getD j oz ∈ l := by
  have := h.len
  rw [List.getD, List.getElem?_eq_getElem (by omega : j < l.length)]
  simp

/-- A row of steps of the call's own (type e of the element). -/
structure OwO (w : World) (e B : Nat) (v : Value) (n : Nat) (xs : List MO) (l : List Op) : Prop where
  own : w.ownsRow B e 4 v n (ocs xs)
  len : l.length = n
  is : ∀ j, j < n → OpIs w (xs.getD j mz) (l.getD j oz)
  sep : ∀ g, v.ownBlock = some g → ∀ j, j < n → ∀ ad, (xs.getD j mz).a = some ad → 0 < (xs.getD j mz).m → ad.block ≠ g

theorem OwO.lenx {w : World} {e B : Nat} {v : Value} {n : Nat} {xs : List MO} {l : List Op} (h : OwO w e B v n xs l) : xs.length = n := by
  have := h.own.1
  rw [ocs_len] at this
  omega

theorem OwO.nil (w : World) (e B : Nat) : OwO w e B (.slice none 0 0) 0 [] [] :=
  ⟨World.ownsRow_nil _ _ _ _, rfl, (fun j hj => by omega), (fun g hg => by cases hg)⟩

theorem OwO.keep {w w' : World} {e B : Nat} {v : Value} {n : Nat} {xs : List MO} {l : List Op} (h : OwO w e B v n xs l) (hb : Below w.heap.size w w') : OwO w' e B v n xs l :=
  ⟨ownsRow_fr (P := fun _ => False) h.own (Fr.ofBelow hb) (fun _ _ h => h), h.len, fun j hj => (h.is j hj).keep hb, h.sep⟩

theorem OwO.os {w : World} {e B : Nat} {v : Value} {n : Nat} {xs : List MO} {l : List Op} (h : OwO w e B v n xs l) : ∃ ao c, v = .slice ao n c ∧ n ≤ c ∧ Os w ao n xs l ∧ ∀ ad, ao = some ad → v.ownBlock = some ad.block ∧ B ≤ ad.block := by
  have hx := h.lenx
  rcases h.own.2 with ⟨rfl, rfl⟩ | ⟨g, cap, cur, rfl, hg, hh, hle, hrest⟩
  · exact ⟨none, 0, rfl, Nat.le_refl _, ⟨h.len, hx, (fun j hj => by omega), (fun j hj => by omega)⟩, fun ad had => by cases had⟩
  · refine ⟨_, _, rfl, hle, ⟨h.len, hx, fun j hj => ?_, h.is⟩, fun ad had => by cases had; exact ⟨rfl, hg⟩⟩
    obtain ⟨g0, g1, g2, g3⟩ := ocs_get xs j (by omega)
    have c0 := h.own.cells (g := g) rfl _ _ g0
    have c1 := h.own.cells (g := g) rfl _ _ g1
    have c2 := h.own.cells (g := g) rfl _ _ g2
    have c3 := h.own.cells (g := g) rfl _ _ g3
    rw [Addr.add_lit] at c0 c1 c2 c3
    exact ⟨g, 0, rfl, c0, c1, c2, c3⟩

theorem Rd.grownBy {w w' : World} {ao : Option Addr} {n c : Nat} {ys : List Int} {r : Option Nat} (h : Rd w ao n c ys) (hg : w.grownBy w' r) (hs : ∀ ad, ao = some ad → 0 < n → r ≠ some ad.block) : Rd w' ao n c ys :=
  h.fr (P := fun k => r = some k) ((Fr.refl _ w).grown hg (fun _ _ e => e)) (fun ad e hn e2 => hs ad e hn e2)

theorem getD_app1 {α : Type} (xs : List α) (x z : α) (j : Nat) (h : j < xs.length) : (xs ++ [x]).getD j z = xs.getD j z := by
  simp [List.getD, List.getElem?_append_left h]

theorem getD_app2 {α : Type} (xs : List α) (x z : α) : (xs ++ [x]).getD xs.length z = x := by
  simp [List.getD]

/-- One step put behind them. -/
theorem OwO.push {w w' : World} {e B : Nat} {v : Value} {n : Nat} {xs : List MO} {l : List Op} (h : OwO w e B v n xs l) {x : MO} {o : Op} (hx : OpIs w x o) (hs : ∀ g, v.ownBlock = some g → ∀ ad, x.a = some ad → 0 < x.m → ad.block ≠ g)
    {g cap H : Nat} (ho : w'.ownsRow B e 4 (.slice (some ⟨g, 0, none⟩) (n + 1) cap) (n + 1) (ocs xs ++ oc x)) (hg : w.grownBy w' v.ownBlock) (hl : v.ownBlock = some g ∨ g = H) (hH : H = w.heap.size) :
    OwO w' e B (.slice (some ⟨g, 0, none⟩) (n + 1) cap) (n + 1) (xs ++ [x]) (l ++ [o]) := by
  have hlx := h.lenx
  have hll := h.len
  have hget : ∀ j, j < n → (xs ++ [x]).getD j mz = xs.getD j mz := fun j hj => getD_app1 xs x mz j (by omega)
  have hgetl : ∀ j, j < n → (l ++ [o]).getD j oz = l.getD j oz := fun j hj => getD_app1 l o oz j (by omega)
  have hlast : (xs ++ [x]).getD n mz = x := by rw [← hlx]; exact getD_app2 xs x mz
  have hlastl : (l ++ [o]).getD n oz = o := by rw [← hll]; exact getD_app2 l o oz
  have kp : ∀ {y : MO} {q : Op}, OpIs w y q → (∀ g, v.ownBlock = some g → ∀ ad, y.a = some ad → 0 < y.m → ad.block ≠ g) → OpIs w' y q := fun {y q} hy hsy =>
    ⟨hy.cp, hy.fr, hy.n, hy.rd.grownBy hg (fun ad e hn e2 => hsy _ e2 ad e hn rfl)⟩
  have sp : ∀ {y : MO} {q : Op}, OpIs w y q → (∀ g, v.ownBlock = some g → ∀ ad, y.a = some ad → 0 < y.m → ad.block ≠ g) → ∀ ad, y.a = some ad → 0 < y.m → ad.block ≠ g := fun {y q} hy hsy ad e hm e2 => by
    rcases hl with h1 | h1
    · exact hsy g h1 ad e hm e2
    · have := hy.rd.blk ad e hm
      omega
  refine ⟨by rw [ocs_app, ocs_one]; exact ho, by simp [hll], fun j hj => ?_, fun g' hg' j hj => ?_⟩
  · by_cases hjn : j < n
    · rw [hget j hjn, hgetl j hjn]
      exact kp (h.is j hjn) (fun g hg ad e hm => h.sep g hg j hjn ad e hm)
    · have : j = n := by omega
      subst this
      rw [hlast, hlastl]
      exact kp hx hs
  · have e1 : g' = g := by simpa [Value.ownBlock] using hg'.symm
    subst e1
    by_cases hjn : j < n
    · rw [hget j hjn]
      exact sp (h.is j hjn) (fun g hg ad e hm => h.sep g hg j hjn ad e hm)
    · have : j = n := by omega
      subst this
      rw [hlast]
      exact sp hx hs

theorem cell_four_new (w : World) (x y z u : Value) (t : TypeId) : ∀ j v, [x, y, z, u][j]? = some v → (w.alloc (.cells #[x, y, z, u] t)).cell? ((⟨w.heap.size, 0, none⟩ : Addr).add j) = some v := by
  have h := World.rowIs_alloc w #[x, y, z, u] t (fun j => (#[x, y, z, u] : Array Value).getD j undef) (fun i hi => by simp at hi; rcases i with _ | _ | _ | _ | i <;> first | rfl | omega)
  intro j v hj
  rw [Addr.add_lit, Nat.zero_add]
  rcases j with _ | _ | _ | _ | j
  · simp at hj; subst hj; exact h.cell (i := 0) (by simp)
  · simp at hj; subst hj; exact h.cell (i := 1) (by simp)
  · simp at hj; subst hj; exact h.cell (i := 2) (by simp)
  · simp at hj; subst hj; exact h.cell (i := 3) (by simp)
  · simp at hj

theorem Try.info42 : (Try.prog.info? 42).map (fun i => (i.zero, i.size, i.bytes)) = some (some (.agg #[.bool false, .int .i64 0, .int .i64 0, .slice none 0 0]), 4, 48) := by kernel_rfl

end Go.Proofs.Ythaibdflehnbbaa
