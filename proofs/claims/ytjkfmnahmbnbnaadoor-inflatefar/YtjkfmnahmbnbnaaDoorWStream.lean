/- A stream in memory: what is read, what came out; get, more, number, put. -/
import Derived.Test.YtjkfmnahmbnbnaaDoorWFind
namespace Go.Proofs.YtjkfmnahmbnbnaaDoor
open Go.RowKit

/-- Blocks of numbers and codes stay as they are. -/
def Kt (w w' : World) : Prop := ∀ (k : Nat) (c : Array Value) (t : TypeId) (x : Nat × Nat), w.heap[k]? = some (Obj.cells c t x) → t = 3 ∨ t = 102 → w'.heap[k]? = w.heap[k]?

theorem Kt.refl (w : World) : Kt w w := fun _ _ _ _ _ _ => rfl

theorem Kt.trans {a b c : World} (h : Kt a b) (k : Kt b c) : Kt a c := fun i d t x hi ht =>
  (k i d t x ((h i d t x hi ht).trans hi) ht).trans (h i d t x hi ht)

theorem Kt.ofFr {P : Nat → Prop} {w w' : World} (h : Fr P w w') (hP : ∀ (k : Nat) (c : Array Value) (t : TypeId) (x : Nat × Nat), P k → w.heap[k]? = some (Obj.cells c t x) → t ≠ 3 ∧ t ≠ 102) : Kt w w' := fun k c t x hk ht =>
  h.block k (Array.getElem?_eq_some_iff.1 hk).1 (fun hp => by
    have := hP k c t x hp hk
    rcases ht with e | e
    · exact this.1 e
    · exact this.2 e)

theorem Kt.ofBelow {w w' : World} (h : Below w.heap.size w w') : Kt w w' := Kt.ofFr (P := fun _ => False) (Fr.ofBelow h) (fun _ _ _ _ h => h.elim)

theorem rowIs_kt {w w' : World} {b t n : Nat} {f : Nat → Value} (h : w.rowIs b t n f) (k : Kt w w') (ht : t = 3 ∨ t = 102) : w'.rowIs b t n f := by
  obtain ⟨c, h1, h2⟩ := h
  exact ⟨c, (k b c t _ h1 ht).trans h1, h2⟩

theorem Cd.kt {w w' : World} {R : Nat} {L : Nat → Int} {n : Nat} (h : Cd w R L n) (k : Kt w w') : Cd w' R L n := by
  obtain ⟨la, lc, cg, sg, sy, M, dp, h⟩ := h
  exact ⟨la, lc, cg, sg, sy, M, dp, ⟨rowIs_kt h.row k (.inr rfl), rowIs_kt h.rs k (.inl rfl), h.sym, h.m, h.dp15, h.dpx, h.dpe, h.ok⟩⟩

theorem Kt.row {w w' : World} {b t n : Nat} {f : Nat → Value} (h : w.rowIs b t n f) (ht : t ≠ 3 ∧ t ≠ 102) (k : Fr (fun i => i = b) w w') : Kt w w' :=
  Kt.ofFr k (fun i c t' x e hi => by
    subst e
    obtain ⟨c', h1, _⟩ := h
    rw [h1] at hi
    simp only [Option.some.injEq, Obj.cells.injEq] at hi
    rw [← hi.2.1]
    exact ht)

/-- What a call on a stream leaves: all below B, all numbers and codes. -/
structure Sw (B : Nat) (w w' : World) : Prop where
  bel : Below B w w'
  kt : Kt w w'

theorem Sw.refl (B : Nat) (w : World) : Sw B w w := ⟨Below.refl _ _, Kt.refl _⟩
theorem Sw.trans {B : Nat} {a b c : World} (h : Sw B a b) (k : Sw B b c) : Sw B a c := ⟨h.bel.trans k.bel, h.kt.trans k.kt⟩
theorem Sw.drew {B : Nat} {a b : World} (h : Sw B a b) : Sw B a b.drew := ⟨h.bel.drew, h.kt⟩

/-- A stream's cells. -/
def scells (R : Nat) (v : Value) (m : Int) : Nat → Value
  | 0 => .pointer (some ⟨R, 0, none⟩)
  | 1 => v
  | _ => .int .i64 m

/-- Block S is a stream: its reader R stands at bit p of the n bytes of X, os came out, m may. All of it lies from B on. -/
structure IsS (w : World) (B S R : Nat) (ao : Option Addr) (n c : Nat) (X : Int) (p : Nat) (v : Value) (os : List Int) (m : Int) : Prop where
  row : w.rowIs S 59 3 (scells R v m)
  rd : IsR w R ao n c X p
  own : w.ownsRow 0 5 1 v os.length (os.map (Value.int .u8))
  byt : ∀ x ∈ os, 0 ≤ x ∧ x < 256
  vS : v.ownBlock ≠ some S
  vR : v.ownBlock ≠ some R
  aS : ∀ ad, ao = some ad → 0 < n → ad.block ≠ S
  av : ∀ ad, ao = some ad → 0 < n → v.ownBlock ≠ some ad.block
  bB : B ≤ w.heap.size
  bS : B ≤ S
  bR : B ≤ R
  bv : ∀ k, v.ownBlock = some k → B ≤ k

theorem IsS.RS {w : World} {B S R : Nat} {ao : Option Addr} {n c : Nat} {X : Int} {p : Nat} {v : Value} {os : List Int} {m : Int} (h : IsS w B S R ao n c X p v os m) : R ≠ S := rowIs_ne h.rd.row h.row (by decide)

theorem IsS.drew {w : World} {B S R : Nat} {ao : Option Addr} {n c : Nat} {X : Int} {p : Nat} {v : Value} {os : List Int} {m : Int} (h : IsS w B S R ao n c X p v os m) : IsS w.drew B S R ao n c X p v os m :=
  ⟨h.row.drew, h.rd.drew, ownsRow_fr h.own (Fr.refl (fun _ => False) _).drew (fun _ _ h => h), h.byt, h.vS, h.vR, h.aS, h.av, h.bB, h.bS, h.bR, h.bv⟩

/-- New memory alone. -/
theorem IsS.keep {w w' : World} {B S R : Nat} {ao : Option Addr} {n c : Nat} {X : Int} {p : Nat} {v : Value} {os : List Int} {m : Int} (h : IsS w B S R ao n c X p v os m) (hb : Below w.heap.size w w') : IsS w' B S R ao n c X p v os m :=
  ⟨h.row.of_block (hb.block _ h.row.lt), h.rd.keep hb, ownsRow_fr h.own (Fr.ofBelow (P := fun _ => False) hb) (fun _ _ h => h), h.byt, h.vS, h.vR, h.aS, h.av, Nat.le_trans h.bB hb.size, h.bS, h.bR, h.bv⟩

theorem Sw.keep {w w' : World} {B : Nat} (hB : B ≤ w.heap.size) (hb : Below w.heap.size w w') : Sw B w w' := ⟨hb.mono hB, Kt.ofBelow hb⟩

/-- The reader has gone on. -/
theorem IsS.read {w w' : World} {B S R : Nat} {ao : Option Addr} {n c : Nat} {X : Int} {p q : Nat} {v : Value} {os : List Int} {m : Int} (h : IsS w B S R ao n c X p v os m) (hr : IsR w' R ao n c X q) (hf : Fr (fun k => k = R) w w') : IsS w' B S R ao n c X q v os m ∧ Sw B w w' :=
  ⟨⟨rowIs_fr h.row hf (fun e => h.RS e.symm), hr, ownsRow_fr h.own hf (fun k hk e => h.vR (by rw [hk, e])), h.byt, h.vS, h.vR, h.aS, h.av, Nat.le_trans h.bB hf.size, h.bS, h.bR, h.bv⟩,
    ⟨hf.below B h.bB (fun i hi e => by have := h.bR; omega), Kt.row h.rd.row (by decide) hf⟩⟩

theorem s_after {wr w5 : World} {B S R : Nat} {ao : Option Addr} {n c : Nat} {X : Int} {p : Nat} {v : Value} {os : List Int} {m : Int} {O : Obj} (h : IsS wr B S R ao n c X p v os m) (gr : (wr.alloc O).grownBy w5 v.ownBlock) : w5.rowIs S 59 3 (scells R v m) :=
  rowIs_fr h.row (((Fr.refl (fun k => v.ownBlock = some k) wr).alloc _).grown gr (fun _ _ hk => hk)) h.vS

/-- Behind an append of one byte and its store. -/
theorem s_pushed {wr w5 : World} {B S R : Nat} {ao : Option Addr} {n c : Nat} {X : Int} {p : Nat} {v : Value} {os : List Int} {m : Int} {O : Obj} {g5 c5 : Nat} {b : Int} (h : IsS wr B S R ao n c X p v os m) (b0 : 0 ≤ b) (b1 : b < 256)
    (o5 : w5.ownsRow 0 5 1 (.slice (some ⟨g5, 0, none⟩) (os.length + 1) c5) (os.length + 1) (os.map (Value.int .u8) ++ [.int .u8 b])) (gr : (wr.alloc O).grownBy w5 v.ownBlock) (l5 : v.ownBlock = some g5 ∨ g5 = wr.heap.size + 1) :
    IsS (w5.setCell ⟨S, 1, none⟩ (.slice (some ⟨g5, 0, none⟩) (os.length + 1) c5)) B S R ao n c X p (.slice (some ⟨g5, 0, none⟩) (os.length + 1) c5) (os ++ [b]) m ∧
      Sw B wr (w5.setCell ⟨S, 1, none⟩ (.slice (some ⟨g5, 0, none⟩) (os.length + 1) c5)) := by
  have hSlt := h.row.lt
  have hRlt := h.rd.row.lt
  have hne : g5 ≠ S := by
    rintro rfl
    rcases l5 with e | e
    · exact h.vS e
    · omega
  have hneR : g5 ≠ R := by
    rintro rfl
    rcases l5 with e | e
    · exact h.vR e
    · omega
  have r5 := s_after h gr
  have F : Fr (fun k => k = S ∨ v.ownBlock = some k) wr (w5.setCell ⟨S, 1, none⟩ (.slice (some ⟨g5, 0, none⟩) (os.length + 1) c5)) := (((Fr.refl (fun k => k = S ∨ v.ownBlock = some k) wr).alloc _).grown gr (fun _ _ hk => .inr hk)).setCell (.inl rfl) _
  refine ⟨⟨(r5.set 1 _).congr (fun i hi => by rcases i with _ | _ | _ | i <;> first | rfl | omega), ?_, ?_, ?_, ?_, ?_, h.aS, ?_, Nat.le_trans h.bB F.size, h.bS, h.bR, ?_⟩, ⟨F.below B h.bB ?_, Kt.ofFr F ?_⟩⟩
  · exact h.rd.fr F (fun e => by rcases e with e | e; exact h.RS e; exact h.vR e) (fun ad had hn e => by rcases e with e | e; exact h.aS ad had hn e; exact h.av ad had hn e)
  · rw [List.map_append, List.length_append]
    exact ownsRow_fr o5 ((Fr.refl (fun k => k = S) w5).setCell rfl _) (fun k hk e => hne (by cases hk; exact e))
  · intro x hx
    rcases List.mem_append.1 hx with hx | hx
    · exact h.byt x hx
    · simp at hx
      omega
  · simpa [Value.ownBlock] using hne
  · simpa [Value.ownBlock] using hneR
  · intro ad had hn e
    simp [Value.ownBlock] at e
    rcases l5 with e' | e'
    · exact h.av ad had hn (by rw [e', e])
    · have hc := h.rd.rd.cells ad had 0 hn
      have := World.block_lt_of_cell? wr _ hc
      rw [show (ad.add 0).block = ad.block by unfold Addr.add; split <;> rfl] at this
      omega
  · intro k hk
    simp [Value.ownBlock] at hk
    rcases l5 with e' | e'
    · exact h.bv k (by rw [e', hk])
    · have := h.bB; omega
  · intro i hi e
    rcases e with e | e
    · have := h.bS; omega
    · have := h.bv i e; omega
  · intro k cs t x hk hc
    rcases hk with rfl | hk
    · obtain ⟨c', h1, _⟩ := h.row
      rw [h1] at hc
      simp only [Option.some.injEq, Obj.cells.injEq] at hc
      rw [← hc.2.1]
      decide
    · rcases h.own.2 with ⟨e1, e2⟩ | ⟨g, cap, cur, e1, _, e3, _⟩
      · rw [e1] at hk; simp [Value.ownBlock] at hk
      · rw [e1] at hk
        simp [Value.ownBlock] at hk
        subst hk
        rw [e3] at hc
        simp only [Option.some.injEq, Obj.cells.injEq] at hc
        rw [← hc.2.1]
        decide

/-- A stream, its slices left open. -/
def Stm (w : World) (B S R n : Nat) (X : Int) (p : Nat) (os : List Int) (m : Int) : Prop := ∃ ao c v, IsS w B S R ao n c X p v os m

theorem Stm.drew {w : World} {B S R n : Nat} {X : Int} {p : Nat} {os : List Int} {m : Int} (h : Stm w B S R n X p os m) : Stm w.drew B S R n X p os m := by
  obtain ⟨ao, c, v, h⟩ := h
  exact ⟨ao, c, v, h.drew⟩

theorem Stm.bB {w : World} {B S R n : Nat} {X : Int} {p : Nat} {os : List Int} {m : Int} (h : Stm w B S R n X p os m) : B ≤ w.heap.size := by
  obtain ⟨ao, c, v, h⟩ := h
  exact h.bB

theorem Stm.keep {w w' : World} {B S R n : Nat} {X : Int} {p : Nat} {os : List Int} {m : Int} (h : Stm w B S R n X p os m) (hb : Below w.heap.size w w') : Stm w' B S R n X p os m := by
  obtain ⟨ao, c, v, h⟩ := h
  exact ⟨ao, c, v, h.keep hb⟩

theorem sget_any (B S R n : Nat) (X : Int) (p k : Nat) (os : List Int) (m : Int) (w : World) (h : Stm w B S R n X p os m) (hk : k ≤ 24) (hl : p + k ≤ 8 * n) :
    Calls Tryd.prog 31 #[.pointer (some ⟨S, 0, none⟩), .int .i64 k] w fun e w' => e = .returned (.tuple #[.int .i64 (X / 2 ^ p % 2 ^ k), .int .i64 0]) ∧ Stm w' B S R n X (p + k) os m ∧ Sw B w w' := by
  obtain ⟨ao, c, v, h⟩ := h
  have c0 := h.row.cell (i := 0) (by omega)
  simp only [scells] at c0
  go_enter Tryd.func31, Tryd.ntmps31
  go_wp2_with (go_at_call 37; refine (get_yes R ao n c X p k w h.rd hk hl).mono ?_; rintro e w1 ⟨rfl, hr, hf⟩)
  go_ret2
  obtain ⟨h1, h2⟩ := h.read hr hf
  exact ⟨rfl, ⟨ao, c, v, h1⟩, h2⟩

theorem smore_any (B S R n : Nat) (X : Int) (p k : Nat) (b : Int) (os : List Int) (m : Int) (w : World) (h : Stm w B S R n X p os m) (hk : k ≤ 24) (hl : p + k ≤ 8 * n) (hb0 : 0 ≤ b) (hb1 : b ≤ 1000000) :
    Calls Tryd.prog 58 #[.pointer (some ⟨S, 0, none⟩), .int .i64 b, .int .i64 k] w fun e w' => e = .returned (.tuple #[.int .i64 (b + X / 2 ^ p % 2 ^ k), .int .i64 0]) ∧ Stm w' B S R n X (p + k) os m ∧ Sw B w w' := by
  have l0 := mod_nn (X / 2 ^ p) k
  have l1 := mod_lt (X / 2 ^ p) k
  have l2 := p2_le k 24 hk
  have hc := sget_any B S R n X p k os m w h hk hl
  generalize X / 2 ^ p % 2 ^ k = u at *
  have hu : u < 16777216 := by omega
  clear l1 l2
  go_enter Tryd.func58, Tryd.ntmps58
  go_wp2_with (go_at_call 31; refine hc.mono ?_; rintro e w1 ⟨rfl, hr, hf⟩)
  go_ret2
  exact ⟨by go_num, hr, hf⟩

theorem snumber_any (B S R n : Nat) (X : Int) (p k : Nat) (b : Int) (os : List Int) (m : Int) (w : World) (h : Stm w B S R n X p os m) (hk : k ≤ 24) (hl : p + k ≤ 8 * n) (hb0 : 0 ≤ b) (hb1 : b ≤ 1000000) :
    Calls Tryd.prog 62 #[.pointer (some ⟨S, 0, none⟩), .int .i64 b, .int .i64 k, .bool true] w fun e w' => e = .returned (.tuple #[.int .i64 (b + X / 2 ^ p % 2 ^ k), .int .i64 0]) ∧ Stm w' B S R n X (p + k) os m ∧ Sw B w w' := by
  have hc := smore_any B S R n X p k b os m w h hk hl hb0 hb1
  go_enter Tryd.func62, Tryd.ntmps62
  go_wp2_with (go_at_call 58; refine hc.mono ?_; rintro e w1 ⟨rfl, hr, hf⟩)
  go_ret2
  exact ⟨rfl, hr, hf⟩

theorem slice_len {w : World} {base n : Nat} {v : Value} {xs : List Value} (h : w.ownsRow base 5 1 v n xs) : ∃ ao c, v = .slice ao n c := by
  rcases h.2 with ⟨rfl, rfl⟩ | ⟨g, cap, cur, rfl, _⟩
  · exact ⟨none, 0, rfl⟩
  · exact ⟨_, _, rfl⟩

theorem sput_no (B S R n : Nat) (X : Int) (p : Nat) (b : Int) (os : List Int) (m : Int) (w : World) (h : Stm w B S R n X p os m) (hl : m ≤ os.length) :
    Calls Tryd.prog 55 #[.pointer (some ⟨S, 0, none⟩), .int .u8 b] w fun e w' => e = .returned (.int .i64 5) ∧ Sw B w w' := by
  obtain ⟨ao, c, v, h⟩ := h
  have c1 := h.row.cell (i := 1) (by omega)
  have c2 := h.row.cell (i := 2) (by omega)
  obtain ⟨vo, vc, rfl⟩ := slice_len h.own
  simp only [scells] at c1 c2
  clear h
  generalize os.length = l at *
  have d : decide (m ≤ (l : Int)) = true := by simp; omega
  go_enter Tryd.func55, Tryd.ntmps55
  go_wp2_with fail
  go_region
  go_wp2
  go_ret
  exact ⟨rfl, (Sw.refl _ _).drew⟩

set_option maxRecDepth 100000 in
set_option maxHeartbeats 1000000 in
theorem sput_yes (B S R n : Nat) (X : Int) (p : Nat) (b : Int) (os : List Int) (m : Int) (w : World) (h : Stm w B S R n X p os m) (hl : os.length < m) (hL : os.length ≤ 1000000) (b0 : 0 ≤ b) (b1 : b < 256) :
    Calls Tryd.prog 55 #[.pointer (some ⟨S, 0, none⟩), .int .u8 b] w fun e w' => e = .returned (.int .i64 0) ∧ Stm w' B S R n X p (os ++ [b]) m ∧ Sw B w w' := by
  obtain ⟨ao, c, v, h⟩ := h
  obtain ⟨i0, hi, hz0, hz1, hz2⟩ := info_parts Tryd.info5
  have c1 := h.row.cell (i := 1) (by omega)
  have c2 := h.row.cell (i := 2) (by omega)
  obtain ⟨vo, vc, rfl⟩ := slice_len h.own
  simp only [scells] at c1 c2
  have hD := h.drew
  have d : decide (m ≤ ((os.length : Nat) : Int)) = false := by simp; omega
  have HS : Hid (IsS w.drew B S R ao n c X p (.slice vo os.length vc) os m) := hD
  clear h hD
  obtain ⟨l, hle⟩ : ∃ l, l = os.length := ⟨_, rfl⟩
  have HL : Hid (l = os.length) := hle
  rw [← hle] at c1 d hl hL
  clear hle
  go_enter Tryd.func55, Tryd.ntmps55
  go_wp2_with fail
  go_region
  go_wp2_with (at_builtin; refine wpList_append_lies _ rfl _ _ 30 rfl 0 5 i0 (.int .u8 0) 1 1 Tryd.underlying30 hi hz0 hz1 hz2 rfl (by decide) (.slice vo l vc) l (os.map (Value.int .u8)) rfl (by rw [HL.out]; exact HS.out.own.alloc _) ⟨w.heap.size, 0, none⟩ 1 1 [_] rfl rfl (cell_one_new _ _ _) (by intro u hu; simp at hu; subst hu; rfl) (by omega) (by unfold maxLen; omega) (by omega) (by omega) (w.heap.size + 1) (by simp) ?_; intro g c5 w5 o5 g5 l5 s5; rw [HL.out] at o5 g5 l5; have gg : (w.drew.alloc (Obj.cells #[Value.int IntKind.u8 b] 5)).grownBy w5 (Value.slice vo os.length vc).ownBlock := g5; have k0 := (s_after HS.out gg).cell (i := 1) (by omega); have k1 := (s_after HS.out gg).frozen 1; have HO : Hid (w5.ownsRow 0 5 1 (.slice (some ⟨g, 0, none⟩) (os.length + 1) c5) (os.length + 1) (os.map (Value.int .u8) ++ [.int .u8 b]) ∧ (w.drew.alloc (Obj.cells #[Value.int IntKind.u8 b] 5)).grownBy w5 (Value.slice vo os.length vc).ownBlock ∧ ((Value.slice vo os.length vc).ownBlock = some g ∨ g = w.drew.heap.size + 1)) := ⟨o5, gg, l5⟩; clear o5 g5 l5 s5 gg)
  go_ret
  obtain ⟨h1, h2⟩ := s_pushed HS.out b0 b1 HO.out.1 HO.out.2.1 HO.out.2.2
  rw [HL.out]
  exact ⟨rfl, ⟨_, _, _, h1⟩, (Sw.refl B w).drew.trans h2⟩

end Go.Proofs.YtjkfmnahmbnbnaaDoor
