/- SumHelp, WStored. -/
import Derived.Test.YtiahbicodlgmhaaGreatDoorM01
import Derived.Test.YtiahbicodlgmhaaGreatDoorSumCrc
import Derived.Laws.AppendOwnNone
import Derived.Laws.StructEq
import Derived.Test.YtiahbicodlgmhaaGreatDoorM08
/- Slices of bytes: parts of them, appends, a new one. -/
namespace Go.Proofs.YtiahbicodlgmhaaGreatDoor.Sum
open Go.RowKit

theorem Tryz.info5 : (Tryz.prog.info? 5).map (fun i => (i.zero, i.size, i.bytes)) = some (some (.int .u8 0), 1, 1) := by kernel_rfl

theorem _root_.Go.Proofs.YtiahbicodlgmhaaGreatDoor.Rd.sub {w : World} {ao : Option Addr} {n c : Nat} {xs : List Int} (h : Rd w ao n c xs) (p m : Nat) (hs : p + m ≤ n) :
    Rd w (if c = p then ao else Option.map (fun x => x.add p) ao) m (c - p) ((xs.drop p).take m) := by
  have hl := h.len
  have hle := h.le
  refine ⟨by simp; omega, by omega, ?_, ?_, fun x hx => h.byt x (List.mem_of_mem_drop (List.mem_of_mem_take hx))⟩
  · intro e
    cases ao with
    | none => have := h.nul rfl; omega
    | some ad => by_cases hc : c = p <;> simp [hc] at e
  · intro ad had j hj
    rw [if_neg (by omega)] at had
    obtain ⟨b, off, rfl, hcell⟩ := h.plain (by omega)
    simp only [Option.map_some, Option.some.injEq] at had
    subst had
    rw [Addr.add_lit, Addr.add_lit, Nat.add_assoc, hcell (p + j) (by omega)]
    simp [List.getD, show j < m from by omega]

theorem own_rowIs {w : World} {base e g n : Nat} {xs : List Value} (h : w.ownsRow base e 1 (.slice (some ⟨g, 0, none⟩) n n) n xs) : w.rowIs g e n (fun j => xs.getD j undef) := by
  rcases h.2 with ⟨e, _⟩ | ⟨g', cap, cur, e, _, hh, _, _, hsz, htk⟩
  · cases e
  · cases e
    have hs : cur.size = n := by simpa using hsz
    refine ⟨cur, hh, hs, fun i hi => ?_⟩
    rw [Nat.mul_one, List.take_of_length_le (by simp [hs])] at htk
    rw [← htk]
    simp [hs, hi]

theorem made_rowIs {w : World} {base e g n : Nat} {z : Value} (hz : z.cells = #[z]) (h : w.ownsRow base e 1 (.slice (some ⟨g, 0, none⟩) n n) n (madeCells z.cells (n * 1)).toList) : w.rowIs g e n (fun _ => z) :=
  (own_rowIs h).congr (fun j hj => by
    rw [hz]
    simp [madeCells, List.getD, hj, Nat.mod_one])

theorem _root_.Go.Proofs.YtiahbicodlgmhaaGreatDoor.Rd.ofRow {w : World} {b t n : Nat} {xs : List Int} (h : w.rowIs b t n (fun j => .int .u8 (xs.getD j 0))) (hl : xs.length = n) (hb : ∀ x ∈ xs, 0 ≤ x ∧ x < 256) : Rd w (some ⟨b, 0, none⟩) n n xs :=
  ⟨hl, Nat.le_refl _, (fun e => by cases e), fun ad had j hj => by cases had; rw [Addr.add_lit, Nat.zero_add]; exact h.cell hj, hb⟩

theorem run_sub {w : World} {ao : Option Addr} {n c p m : Nat} {ys : List Int} (h : Rd w ao n c ys) (hpm : p + m ≤ n) (lo hi : Option Value)
    (hlo : lo = some (.int .i64 (p : Int)) ∨ lo = none ∧ p = 0) (hhi : hi = some (.int .i64 ((p + m : Nat) : Int)) ∨ hi = none ∧ p + m = n) :
    (Instr.slice 22 (.slice ao n c) lo hi none).run Tryz.prog w = .ok (.slice (if c = p then ao else Option.map (fun x => x.add p) ao) m (c - p)) w := by
  have hle := h.le
  have hz : ∀ w, (sizeOf 5).run Tryz.prog w = .ok 1 w := fun w => by simp [go_sem]
  have e1 : 0 ≤ ((p + m : Nat) : Int) ∧ ((p + m : Nat) : Int) ≤ (c : Int) := by omega
  have e2 : 0 ≤ (p : Int) ∧ (p : Int) ≤ ((p + m : Nat) : Int) := by omega
  have e3 : ((p + m : Nat) : Int).toNat = p + m := by omega
  have e4 : p + m - p = m := by omega
  unfold Instr.slice Instr.sliceBounds
  rcases hlo with rfl | ⟨rfl, rfl⟩ <;> rcases hhi with rfl | ⟨rfl, rfl⟩ <;>
    simp only [run_underlying Tryz.underlying22, Instr.sliceBound, asIntOf, hz, Result.andThen_ok, Sem.run_bind, Sem.run_pure, if_pos e1, if_pos e2, e3, e4, Option.isSome_none, Int.toNat_natCast, Nat.mul_one, Nat.sub_zero]

theorem wpList_sub {ops : Array Oper} {rest : List Oper} {op : Oper} {a : Act} {w : World} {Q : Exit → Act → World → Prop} (hgd : op.guard = none) (x : Operand) (lo hi : Option Operand) (ho : op.op = .slice 22 x lo hi none)
    {ao : Option Addr} {n c : Nat} {ys : List Int} (h : Rd w ao n c ys) (p m : Nat) (hpm : p + m ≤ n) (hx : a.eval x = .slice ao n c)
    (hlo : lo.map a.eval = some (.int .i64 (p : Int)) ∨ lo.map a.eval = none ∧ p = 0) (hhi : hi.map a.eval = some (.int .i64 ((p + m : Nat) : Int)) ∨ hi.map a.eval = none ∧ p + m = n)
    (hk : ∀ ao' c', Rd w ao' m c' ((ys.drop p).take m) → (∀ ad, ao' = some ad → ∃ a0, ao = some a0 ∧ ad.block = a0.block) → wpList Tryz.prog ops Q rest (a.put op.dst (.slice ao' m c')) w) : wpList Tryz.prog ops Q (op :: rest) a w := by
  refine wpList_plain hgd fun K hK => ?_
  unfold Oper.wp
  have hrun := run_sub h hpm _ _ hlo hhi
  have hat : (Instr.sliceAt 22 (.slice ao n c) (lo.map a.eval) (hi.map a.eval) none).run Tryz.prog w = .ok (.slice (if c = p then ao else Option.map (fun x => x.add p) ao) m (c - p)) w := by
    unfold Instr.sliceAt
    simp only [Sem.run_bind, run_underlying Tryz.underlying22, Result.andThen_ok]
    exact hrun
  simp only [execOp, ho, hx, Sem.run_bind, Option.map_none, hat, Result.andThen_ok, Sem.run_pure]
  refine hK _ _ (hk _ _ (h.sub p m hpm) fun ad had => ?_)
  by_cases hc : c = p
  · rw [if_pos hc] at had
    exact ⟨ad, had, rfl⟩
  · rw [if_neg hc] at had
    cases ao with
    | none => cases had
    | some a0 => exact ⟨a0, rfl, by cases had; unfold Addr.add; split <;> rfl⟩

theorem _root_.Go.Proofs.YtiahbicodlgmhaaGreatDoor.Rd.blk {w : World} {ao : Option Addr} {n c : Nat} {ys : List Int} (h : Rd w ao n c ys) : ∀ ad, ao = some ad → 0 < n → ad.block < w.heap.size := fun ad had hn => by
  have := h.cells ad had 0 hn
  have := World.block_lt_of_cell? w _ this
  rwa [show (ad.add 0).block = ad.block by unfold Addr.add; split <;> rfl] at this

/-- 'append(out, ys...)', out the call's own, ys nil or not. -/
theorem wpList_append_rd {w : World} {ops : Array Oper} {rest : List Oper} {o : Oper} {a : Act} {Q : Exit → Act → World → Prop} (hgd : o.guard = none) (s x : Operand)
    (ho : o.op = .call { callee := .builtin .append, args := #[s, x], argTypes := #[22, 22] })
    (base g n cap : Nat) (xs : List Int) (hs : a.eval s = .slice (some ⟨g, 0, none⟩) n cap) (hown : w.ownsRow base 5 1 (.slice (some ⟨g, 0, none⟩) n cap) n (xs.map (Value.int .u8)))
    (ao : Option Addr) (m c : Nat) (ys : List Int) (hx : a.eval x = .slice ao m c) (hr : Rd w ao m c ys) (hlim : n + m ≤ 140737488355328) (hbase : base ≤ w.heap.size)
    (h : ∀ g' cap' w', w'.ownsRow base 5 1 (.slice (some ⟨g', 0, none⟩) (n + m) cap') (n + m) ((xs ++ ys).map (Value.int .u8)) → w.grownBy w' (some g) → wpList Tryz.prog ops Q rest (a.put o.dst (.slice (some ⟨g', 0, none⟩) (n + m) cap')) w') :
    wpList Tryz.prog ops Q (o :: rest) a w := by
  obtain ⟨i0, hi, hz0, hz1, hz2⟩ := info_parts Tryz.info5
  cases ao with
  | none =>
    obtain ⟨rfl, rfl⟩ := hr.nul rfl
    have hy : ys = [] := List.eq_nil_of_length_eq_zero hr.len
    subst hy
    refine wpList_append_own_none hgd s x 22 ho base 5 i0 1 Tryz.underlying22 hi _ n _ hs hown hx ?_
    exact h g cap w (by simpa using hown) (World.grownBy.refl _ _)
  | some ad =>
    refine wpList_append_own w hgd s x 22 ho base 5 i0 (.int .u8 0) 1 1 Tryz.underlying22 hi hz0 hz1 hz2 rfl (by decide) _ n _ hs hown ad m c (ys.map (Value.int .u8)) hx (by simpa using hr.len) (hr.cellsOf ad rfl) (ints_oneCell _ _)
      (by unfold maxLen; omega) (by omega) hbase ?_
    intro v' w' h1 h2 h3
    obtain ⟨g', cap', rfl⟩ : ∃ g' cap', v' = .slice (some ⟨g', 0, none⟩) (n + m) cap' := by
      rcases h1.2 with ⟨h', _⟩ | ⟨g', cap', cur, h', _⟩
      · rw [h3] at h'; cases h'.1
      · exact ⟨g', cap', h'⟩
    exact h g' cap' w' (by simpa using h1) h2

theorem own_base {w : World} {base g n c : Nat} {xs : List Value} (h : w.ownsRow base 5 1 (.slice (some ⟨g, 0, none⟩) n c) n xs) : base ≤ g := by
  rcases h.2 with ⟨e, _⟩ | ⟨g', cap, cur, e, hb, _⟩
  · cases e
  · cases e; exact hb

theorem none_own (w : World) (base : Nat) (hb : base ≤ w.heap.size) : (w.alloc (.cells #[] 5)).ownsRow base 5 1 (.slice (some ⟨w.heap.size, 0, none⟩) 0 0) 0 (([] : List Int).map (Value.int .u8)) :=
  World.ownsRow_lit (base := base) (e := 5) (size := 1) w #[] 0 hb (by unfold maxLen; omega) rfl

theorem one_rd (w : World) (v : Int) (h : 0 ≤ v ∧ v < 256) : Rd (w.alloc (Obj.cells #[.int .u8 v] 5)) (some ⟨w.heap.size, 0, none⟩) 1 1 [v] :=
  Rd.ofRow (World.rowIs_alloc w #[.int .u8 v] 5 _ (fun i hi => by
    simp at hi
    rcases i with _ | i <;> first | rfl | omega)) rfl (by intro x hx; simp at hx; omega)

/-- 'append(v, ys...)', v the call's own or nil, ys nil or not. -/
theorem wpList_append_v {w : World} {ops : Array Oper} {rest : List Oper} {o : Oper} {a : Act} {Q : Exit → Act → World → Prop} (hgd : o.guard = none) (s x : Operand)
    (ho : o.op = .call { callee := .builtin .append, args := #[s, x], argTypes := #[22, 22] })
    (base n : Nat) (v : Value) (xs : List Int) (hs : a.eval s = v) (hown : w.ownsRow base 5 1 v n (xs.map (Value.int .u8)))
    (ao : Option Addr) (m c : Nat) (ys : List Int) (hx : a.eval x = .slice ao m c) (hr : Rd w ao m c ys) (hlim : n + m ≤ 140737488355328) (hbase : base ≤ w.heap.size)
    (h : ∀ v' w', w'.ownsRow base 5 1 v' (n + m) ((xs ++ ys).map (Value.int .u8)) → w.grownBy w' v.ownBlock → wpList Tryz.prog ops Q rest (a.put o.dst v') w') :
    wpList Tryz.prog ops Q (o :: rest) a w := by
  obtain ⟨i0, hi, hz0, hz1, hz2⟩ := info_parts Tryz.info5
  cases ao with
  | none =>
    obtain ⟨rfl, rfl⟩ := hr.nul rfl
    have hy : ys = [] := List.eq_nil_of_length_eq_zero hr.len
    subst hy
    refine wpList_append_own_none hgd s x 22 ho base 5 i0 1 Tryz.underlying22 hi _ n _ hs hown hx ?_
    exact h v w (by simpa using hown) (World.grownBy.refl _ _)
  | some ad =>
    refine wpList_append_own w hgd s x 22 ho base 5 i0 (.int .u8 0) 1 1 Tryz.underlying22 hi hz0 hz1 hz2 rfl (by decide) _ n _ hs hown ad m c (ys.map (Value.int .u8)) hx (by simpa using hr.len) (hr.cellsOf ad rfl) (ints_oneCell _ _)
      (by unfold maxLen; omega) (by omega) hbase ?_
    intro v' w' h1 h2 h3
    exact h v' w' (by simpa using h1) h2

theorem own_rd {w : World} {base n : Nat} {v : Value} {xs : List Int} (h : w.ownsRow base 5 1 v n (xs.map (Value.int .u8))) (hb : ∀ x ∈ xs, 0 ≤ x ∧ x < 256) : ∃ ao c, v = .slice ao n c ∧ Rd w ao n c xs ∧ ∀ ad, ao = some ad → base ≤ ad.block := by
  have hl := h.1
  rcases h.2 with ⟨rfl, rfl⟩ | ⟨g, cap, cur, rfl, h1, h2⟩
  · have : xs = [] := List.eq_nil_of_length_eq_zero (by simpa using hl)
    subst this
    exact ⟨none, 0, rfl, Rd.nil w, fun ad had => by cases had⟩
  · exact ⟨_, cap, rfl, Rd.ofOwn h hb, fun ad had => by cases had; exact h1⟩

theorem own_keep {w w' : World} {base n : Nat} {v : Value} {xs : List Value} (h : w.ownsRow base 5 1 v n xs) (hb : Below w.heap.size w w') : w'.ownsRow base 5 1 v n xs :=
  ownsRow_fr (P := fun _ => False) h (Fr.ofBelow hb) (fun _ _ h => h)

/-- 'append(out, ys...)' as one step of a region that draws its order, out the call's own, ys nil or not. -/
theorem step_append_rd {w : World} {ops : Array Oper} {o : Oper} {a : Act} {K : Act → World → Prop} {Q : Exit → Act → World → Prop} {E : Prop} (hgd : o.guard = none) (s x : Operand)
    (ho : o.op = .call { callee := .builtin .append, args := #[s, x], argTypes := #[22, 22] })
    (base g n cap : Nat) (xs : List Int) (hs : a.eval s = .slice (some ⟨g, 0, none⟩) n cap) (hown : w.ownsRow base 5 1 (.slice (some ⟨g, 0, none⟩) n cap) n (xs.map (Value.int .u8)))
    (ao : Option Addr) (m c : Nat) (ys : List Int) (hx : a.eval x = .slice ao m c) (hr : Rd w ao m c ys) (hlim : n + m ≤ 140737488355328) (hbase : base ≤ w.heap.size) (nm : Nat) (hnm : nm = n + m) (zs : List Int) (hzs : zs = xs ++ ys)
    (h : ∀ g' cap' w', w'.ownsRow base 5 1 (.slice (some ⟨g', 0, none⟩) nm cap') nm (zs.map (Value.int .u8)) → w.grownBy w' (some g) → K (a.put o.dst (.slice (some ⟨g', 0, none⟩) nm cap')) w') :
    if Region.wanted o (yielded ops a.tmps) = true then Oper.wp Tryz.prog o a w K Q else E := by
  obtain ⟨i0, hi, hz0, hz1, hz2⟩ := info_parts Tryz.info5
  have hw : Region.wanted o (yielded ops a.tmps) = true := by simp [Region.wanted, hgd]
  rw [if_pos hw]
  subst hnm hzs
  cases ao with
  | none =>
    obtain ⟨rfl, rfl⟩ := hr.nul rfl
    have hy : ys = [] := List.eq_nil_of_length_eq_zero hr.len
    subst hy
    have hrun := run_append_owned_none (P := Tryz.prog) (w := w) base 22 o.type 5 i0 1 Tryz.underlying22 hi _ n _ hown
    unfold Oper.wp
    simp [execOp, ho, resolve, invoke, builtin, hs, hx, hrun, Result.andThen]
    exact h g cap w (by simpa using hown) (World.grownBy.refl _ _)
  | some ad =>
    refine wp_append_own w s x 22 ho base 5 i0 (.int .u8 0) 1 1 Tryz.underlying22 hi hz0 hz1 hz2 rfl (by decide) _ n _ hs hown ad m c (ys.map (Value.int .u8)) hx (by simpa using hr.len) (hr.cellsOf ad rfl) (ints_oneCell _ _)
      (by unfold maxLen; omega) (by omega) hbase ?_
    intro v' w' h1 h2 h3
    obtain ⟨g', cap', rfl⟩ : ∃ g' cap', v' = .slice (some ⟨g', 0, none⟩) (n + m) cap' := by
      rcases h1.2 with ⟨h', _⟩ | ⟨g', cap', cur, h', _⟩
      · rw [h3] at h'; cases h'.1
      · exact ⟨g', cap', h'⟩
    exact h g' cap' w' (by simpa using h1) h2

theorem _root_.Go.Proofs.YtiahbicodlgmhaaGreatDoor.Fr.ofGrown {w w' : World} {g : Nat} (h : w.grownBy w' (some g)) : Fr (fun k => k = g) w w' :=
  ⟨h.os, h.tape, h.output, h.size, fun k hk hn => h.block k hk (fun e => hn (by cases e; rfl))⟩

theorem rowIs_rep (w : World) (v : Value) (n : Nat) (t : TypeId) : (w.alloc (.cells (Array.replicate n v) t)).rowIs w.heap.size t n (fun _ => v) := by
  have h := World.rowIs_alloc w (Array.replicate n v) t (fun _ => v) (fun i hi => by simp at hi; simp [hi])
  simpa using h

theorem cell_ne {w : World} {b i j : Nat} (v : Value) (h : i ≠ j) : (w.setCell ⟨b, i, none⟩ v).cell? ⟨b, j, none⟩ = w.cell? ⟨b, j, none⟩ := by
  unfold World.setCell World.cell?
  simp only [Array.getElem?_modify]
  by_cases hb : (w.heap[b]?).isSome
  · obtain ⟨o, ho⟩ := Option.isSome_iff_exists.1 hb
    cases o <;> simp [ho, h]
  · simp at hb
    simp [hb]

theorem getD_byt (bs : List Int) (hb : ∀ x ∈ bs, 0 ≤ x ∧ x < 256) (i : Nat) : 0 ≤ bs.getD i 0 ∧ bs.getD i 0 < 256 := by
  by_cases h : i < bs.length
  · simp only [List.getD, List.getElem?_eq_getElem h, Option.getD_some]
    exact hb _ (List.getElem_mem h)
  · simp [List.getD, List.getElem?_eq_none (Nat.not_lt.1 h)]

theorem freeze_cell (w : World) (b : Addr) (a : Addr) : (w.freeze b 1).cell? a = w.cell? a := by
  unfold World.freeze
  rw [if_neg (by omega)]
  unfold World.cell?
  simp only [Array.getElem?_modify]
  by_cases h : b.block = a.block
  · rw [if_pos h]
    cases ho : w.heap[a.block]? with
    | none => simp
    | some o => cases o <;> simp
  · rw [if_neg h]

theorem freeze_fr (w : World) (b : Addr) : Fr (fun k => k = b.block) w (w.freeze b 1) := by
  unfold World.freeze
  rw [if_neg (by omega)]
  exact ⟨rfl, rfl, rfl, by simp, fun k _ hn => by
    rw [Array.getElem?_modify, if_neg (fun e => hn e.symm)]⟩

theorem conv22 (w : World) (a : Addr) (n c : Nat) : ∃ w', (convert 22 22 (.slice (some a) n c)).run Tryz.prog w = .ok (.slice (some a) n c) w' ∧ Fr (fun k => k = a.block) w w' ∧ ∀ p, w'.cell? p = w.cell? p := by
  cases h : w.shape? a.block with
  | none => exact ⟨w, by simp [convert, run_underlying Tryz.underlying22, run_underlying Tryz.underlying5, markStringish, h], Fr.refl _ _, fun _ => rfl⟩
  | some x => exact ⟨w.freeze ⟨a.block, x.2, none⟩ 1, by simp [convert, run_underlying Tryz.underlying22, run_underlying Tryz.underlying5, markStringish, h], freeze_fr w ⟨a.block, x.2, none⟩, freeze_cell w ⟨a.block, x.2, none⟩⟩

theorem wpList_conv {ops : Array Oper} {rest : List Oper} {op : Oper} {a : Act} {w : World} {Q : Exit → Act → World → Prop} (hgd : op.guard = none) (x : Operand) (ho : op.op = .convert 22 22 x)
    (ad : Addr) (n c : Nat) (hx : a.eval x = .slice (some ad) n c)
    (hk : ∀ w', Fr (fun k => k = ad.block) w w' → (∀ p, w'.cell? p = w.cell? p) → wpList Tryz.prog ops Q rest (a.put op.dst (.slice (some ad) n c)) w') : wpList Tryz.prog ops Q (op :: rest) a w := by
  refine wpList_plain hgd fun K hK => ?_
  obtain ⟨w', hrun, hf, hc⟩ := conv22 w ad n c
  unfold Oper.wp
  simp [execOp, ho, hx, hrun, Result.andThen]
  exact hK _ _ (hk w' hf hc)

theorem _root_.Go.Proofs.YtiahbicodlgmhaaGreatDoor.Rd.same {w w' : World} {ao : Option Addr} {n c : Nat} {xs : List Int} (h : Rd w ao n c xs) (hc : ∀ p, w'.cell? p = w.cell? p) : Rd w' ao n c xs :=
  ⟨h.len, h.le, h.nul, fun ad had j hj => by rw [hc]; exact h.cells ad had j hj, h.byt⟩

theorem new_below (w : World) (o : Obj) : Below w.heap.size w (w.alloc o) := (Below.refl _ _).alloc (Nat.le_refl _) _

theorem new_fr {w w' : World} {o : Obj} (f : Fr (fun k => k = w.heap.size) (w.alloc o) w') : Below w.heap.size w w' :=
  (new_below w o).trans (f.below _ (by simp) (fun i hi e => by omega))

end Go.Proofs.YtiahbicodlgmhaaGreatDoor.Sum

/- stored. -/
namespace Go.Proofs.YtiahbicodlgmhaaGreatDoor
open Go.RowKit

theorem bx64 (a b : Nat) (ha : a < 2 ^ 62) (hb : b < 2 ^ 62) : bits .xor .i64 (a : Int) (b : Int) = ((a ^^^ b : Nat) : Int) := by
  have hx : a ^^^ b < 2 ^ 62 := Nat.xor_lt_two_pow ha hb
  show IntKind.i64.wrap ((BitVec.ofInt 64 (a : Int) ^^^ BitVec.ofInt 64 (b : Int)).toNat : Nat) = _
  rw [BitVec.toNat_xor, BitVec.ofInt_natCast, BitVec.ofInt_natCast, BitVec.toNat_ofNat, BitVec.toNat_ofNat, Nat.mod_eq_of_lt (by omega), Nat.mod_eq_of_lt (by omega)]
  exact wraps_i64 _ (by omega) (by omega)

theorem xor_ones (a : Nat) (h : a < 65536) : a ^^^ 65535 = 65535 - a := by
  have h1 := BitVec.toNat_not (x := BitVec.ofNat 16 a)
  rw [BitVec.not_def, BitVec.toNat_xor] at h1
  simp at h1
  rw [Nat.mod_eq_of_lt h, Nat.xor_comm] at h1
  exact h1

theorem flip16 (a : Nat) (h : a < 65536) : bits .xor .i64 (a : Int) 65535 = 65535 - (a : Int) := by
  have := bx64 a 65535 (by omega) (by omega)
  rw [xor_ones a h] at this
  rw [show (65535 : Int) = ((65535 : Nat) : Int) from rfl, this]
  omega

theorem salign_any (B S R n : Nat) (X : Int) (p : Nat) (os : List Int) (m : Int) (w : World) (h : Stm w B S R n X p os m) :
    Calls Tryz.prog 88 #[.pointer (some ⟨R, 0, none⟩)] w fun e w' => e = .returned (.tuple #[]) ∧ Stm w' B S R n X (al p) os m ∧ Sw B w w' := by
  obtain ⟨ao, c, v, h⟩ := h
  refine (ralign_any R ao n c X p w h.rd).mono ?_
  rintro e w' ⟨rfl, hr, hf⟩
  obtain ⟨h1, h2⟩ := h.read hr hf
  exact ⟨rfl, ⟨ao, c, v, h1⟩, h2⟩

/-- Bytes as fields. -/
def bfs (bs : List Int) : List Fd := bs.map (fun b => (b, 8))

theorem bfs_fb (bs : List Int) : fb (bfs bs) = 8 * bs.length := by
  induction bs with
  | nil => rfl
  | cons b bs ih =>
    have : fb (bfs (b :: bs)) = 8 + fb (bfs bs) := rfl
    rw [this, ih]
    simp
    omega

theorem bfs_app (a b : List Int) : bfs (a ++ b) = bfs a ++ bfs b := by simp [bfs]

theorem bfs_ft (bs : List Int) (h : ∀ x ∈ bs, 0 ≤ x ∧ x < 256) : Ft (bfs bs) := by
  intro x hx
  obtain ⟨b, hb, rfl⟩ := List.mem_map.1 hx
  exact h b hb

set_option maxRecDepth 100000 in
set_option maxHeartbeats 2000000 in
theorem sstored_yes (B S R n : Nat) (X : Int) (p : Nat) (os bs : List Int) (m : Nat) (w : World) (h : Stm w B S R n X p os m) (h8 : p % 8 = 3) (hb : ∀ x ∈ bs, 0 ≤ x ∧ x < 256) (hbl : bs.length ≤ 65535) (hroom : os.length + bs.length ≤ m) (hm : m ≤ 1000000)
    (hl : Lay X n p ((0, 5) :: ((bs.length : Int), 16) :: (65535 - (bs.length : Int), 16) :: bfs bs)) :
    Calls Tryz.prog 61 #[.pointer (some ⟨S, 0, none⟩)] w fun e w' => e = .returned (.int .i64 0) ∧ Stm w' B S R n X (p + 5 + 16 + 16 + 8 * bs.length) (os ++ bs) m ∧ Sw B w w' := by
  obtain ⟨i0, hi, hz0, hz1, hz2⟩ := info_parts Tryz.info5
  obtain ⟨_, _, hl1⟩ := hl.head
  obtain ⟨e1, p1, hl2⟩ := hl1.head
  obtain ⟨e2, p2', hl3⟩ := hl2.head
  simp only at e1 p1 e2 p2'
  have HL : Hid (Lay X n (p + 5 + 16 + 16) (bfs bs)) := hl3
  have hal : al p = p + 5 := by unfold al; omega
  have hfl := flip16 bs.length (by omega)
  have c0 := h.c0
  obtain ⟨b, hbb⟩ : ∃ b, b = bs.length := ⟨_, rfl⟩
  have HB : Hid (b = bs.length) := hbb
  rw [← hbb] at e1 e2 hfl hroom hbl ⊢
  clear hl hl1 hl2 hl3 hbb
  go_enter Tryz.func61, Tryz.ntmps61
  go_wp2_with fail
  refine (salign_any B S R n X p os m w h).mono ?_
  rintro e w1 ⟨rfl, h1, f1⟩
  rw [hal] at h1
  clear h c0
  go_wp2_with fail
  refine (sget_any B S R n X (p + 5) 16 os m w1 h1 (by omega) p1).mono ?_
  rintro e w2 ⟨rfl, h2, f2⟩
  rw [e1]
  have k2 := h2.c2
  obtain ⟨ao, cc, k1, _⟩ := h2.c1
  obtain ⟨l, hll⟩ : ∃ l, l = os.length := ⟨_, rfl⟩
  have HLL : Hid (l = os.length) := hll
  rw [← hll] at k1 hroom
  have d1 : decide ((m : Int) - (l : Int) < (b : Int)) = false := by simp; omega
  have h2d := h2.drew
  have f12 := (f1.trans f2).drew
  clear hll h1 h2 f1 f2
  go_wp2_with fail
  go_region
  clear k1 k2 d1
  go_wp2_with fail
  refine (sget_any B S R n X (p + 5 + 16) 16 os m w2.drew h2d (by omega) p2').mono ?_
  rintro e w3 ⟨rfl, h3, f3⟩
  rw [e2]
  have H3 : Hid (Stm w3 B S R n X (p + 5 + 16 + 16) os m) := h3
  have F3 : Hid (Sw B w w3) := f12.trans f3
  clear h2d f12 h3 f3 e1 e2 p1 p2'
  go_wp2
  go_loopw [46] (fun iv wr => ∃ k : Nat, k ≤ b ∧ iv = .int .i64 k ∧ Hid (Stm wr B S R n X (p + 5 + 16 + 16 + 8 * k) (os ++ bs.take k) m) ∧ Hid (Lay X n (p + 5 + 16 + 16 + 8 * k) (bfs (bs.drop k))) ∧ Hid (Sw B w wr)) (fun iv _ => b - (intOf iv).toNat)
  case atStart => exact ⟨0, by omega, rfl, by simpa using H3, by simpa using HL, F3⟩
  case round =>
    clear H3 F3 HL
    obtain ⟨k, hk, rfl, HS, HL, HW⟩ := hrel
    by_cases hlt : k < b
    · have hkb : k < bs.length := by have := HB.out; omega
      obtain ⟨x, hx⟩ : ∃ x, x = bs[k] := ⟨_, rfl⟩
      have hdr : bs.drop k = x :: bs.drop (k + 1) := by rw [hx]; exact List.drop_eq_getElem_cons hkb
      have hlay := HL.out
      rw [hdr] at hlay
      obtain ⟨e1, p1, hlay2⟩ := Lay.head (x := (x, 8)) (l := bfs (bs.drop (k + 1))) hlay
      simp only at e1 p1 hlay2
      have hxb := hb x (by rw [hx]; exact List.getElem_mem _)
      have hget := sget_any B S R n X (p + 5 + 16 + 16 + 8 * k) 8 (os ++ bs.take k) m wr HS.out (by omega) p1
      rw [e1] at hget
      have q3 : IntKind.u8.wrap x = x := by simp [IntKind.wrap, IntKind.bits, IntKind.signed]; omega
      have htk : bs.take (k + 1) = bs.take k ++ [x] := by rw [hx]; simp
      have HT : Hid (os ++ bs.take (k + 1) = (os ++ bs.take k) ++ [x]) := by
        show os ++ bs.take (k + 1) = (os ++ bs.take k) ++ [x]
        rw [htk, List.append_assoc]
      have HL2 : Hid (Lay X n (p + 5 + 16 + 16 + 8 * (k + 1)) (bfs (bs.drop (k + 1)))) := by
        show Lay X n (p + 5 + 16 + 16 + 8 * (k + 1)) (bfs (bs.drop (k + 1)))
        rw [show p + 5 + 16 + 16 + 8 * (k + 1) = p + 5 + 16 + 16 + 8 * k + 8 by omega]
        exact hlay2
      obtain ⟨ys, hys⟩ : ∃ ys, ys = os ++ bs.take k := ⟨_, rfl⟩
      rw [← hys] at hget
      have hyl : ys.length ≤ 1000000 := by rw [hys, List.length_append, List.length_take, ← HLL.out, ← HB.out]; omega
      have HYS : Hid (ys = os ++ bs.take k) := hys
      clear hdr hlay hlay2 e1 p1 htk hys HL HS hx
      go_wp2_with fail
      refine hget.mono ?_
      rintro e w4 ⟨rfl, h4, f4⟩
      obtain ⟨aa, ac, av, h5⟩ := h4
      obtain ⟨vo, vc, rfl⟩ := slice_len h5.own
      have c1 := h5.row.cell (i := 1) (by omega)
      simp only [scells] at c1
      have H5 : Hid (IsS w4 B S R aa n ac X (p + 5 + 16 + 16 + 8 * k + 8) (.slice vo ys.length vc) ys m) := h5
      obtain ⟨ly, hly⟩ : ∃ ly, ly = ys.length := ⟨_, rfl⟩
      have HY : Hid (ly = ys.length) := hly
      rw [← hly] at c1 hyl
      clear h5 hget hly
      go_wp2_with (at_builtin; refine wpList_append_lies _ rfl _ _ 22 rfl 0 5 i0 (.int .u8 0) 1 1 Tryz.underlying22 hi hz0 hz1 hz2 rfl (by decide) (.slice vo ly vc) ly (ys.map (Value.int .u8)) rfl (by rw [HY.out]; exact H5.out.own.alloc _) ⟨w4.heap.size, 0, none⟩ 1 1 [_] rfl rfl (cell_one_new _ _ _) (by intro u hu; simp at hu; subst hu; rfl) (by omega) (by unfold maxLen; omega) (by omega) (by omega) (w4.heap.size + 1) (by simp) ?_; intro g c5 w5 o5 g5 l5 s5; rw [HY.out] at o5 g5 l5; have k0 := (s_after H5.out g5).cell (i := 1) (by omega); have k1 := (s_after H5.out g5).frozen 1; have HO : Hid (w5.ownsRow 0 5 1 (.slice (some ⟨g, 0, none⟩) (ys.length + 1) c5) (ys.length + 1) (ys.map (Value.int .u8) ++ [.int .u8 x]) ∧ (w4.alloc (Obj.cells #[Value.int IntKind.u8 x] 5)).grownBy w5 (Value.slice vo ys.length vc).ownBlock ∧ ((Value.slice vo ys.length vc).ownBlock = some g ∨ g = w4.heap.size + 1)) := ⟨o5, g5, l5⟩; clear o5 g5 l5 s5)
      obtain ⟨r1, r2⟩ := s_pushed H5.out hxb.1 hxb.2 HO.out.1 HO.out.2.1 HO.out.2.2
      have R1 : Hid (Stm (w5.setCell ⟨S, 1, none⟩ (.slice (some ⟨g, 0, none⟩) (ly + 1) c5)) B S R n X (p + 5 + 16 + 16 + 8 * (k + 1)) (os ++ bs.take (k + 1)) m) := by
        show Stm _ _ _ _ _ _ _ _ _
        rw [HT.out, ← HYS.out, HY.out, show p + 5 + 16 + 16 + 8 * (k + 1) = p + 5 + 16 + 16 + 8 * k + 8 by omega]
        exact ⟨_, _, _, r1⟩
      have R2 : Hid (Sw B w (w5.setCell ⟨S, 1, none⟩ (.slice (some ⟨g, 0, none⟩) (ly + 1) c5))) := by
        show Sw B w _
        rw [HY.out]
        exact (HW.out.trans f4).trans r2
      clear r1 r2 HO H5 f4 HW k0 k1 c1
      go_roundw
      case rel => exact ⟨k + 1, by omega, by go_num, R1, HL2, R2⟩
      case measure => simp [intOf]; omega
    · obtain rfl : k = b := by omega
      clear hlt
      go_wp2
      go_ret
      refine ⟨rfl, ?_, HW.out⟩
      have := HS.out
      rw [List.take_of_length_le (by have := HB.out; omega)] at this
      exact this

theorem sstored_no (B S R n : Nat) (X : Int) (p : Nat) (os : List Int) (m b : Nat) (t : Int) (w : World) (h : Stm w B S R n X p os m) (h8 : p % 8 = 3) (hbl : b ≤ 65535) (hroom : os.length + b ≤ m) (hm : m ≤ 1000000)
    (hl : Lay X n p [(0, 5), ((b : Int), 16), (t, 16)]) (ht : t ≠ 65535 - (b : Int)) :
    Calls Tryz.prog 61 #[.pointer (some ⟨S, 0, none⟩)] w fun e w' => e = .returned (.int .i64 2) ∧ Sw B w w' := by
  obtain ⟨_, _, hl1⟩ := hl.head
  obtain ⟨e1, p1, hl2⟩ := hl1.head
  obtain ⟨e2, p2', _⟩ := hl2.head
  simp only at e1 p1 e2 p2'
  have hal : al p = p + 5 := by unfold al; omega
  have hfl := flip16 b (by omega)
  have c0 := h.c0
  have d2 : (t == 65535 - (b : Int)) = false := by simp; exact ht
  clear hl hl1 hl2
  go_enter Tryz.func61, Tryz.ntmps61
  go_wp2_with fail
  refine (salign_any B S R n X p os m w h).mono ?_
  rintro e w1 ⟨rfl, h1, f1⟩
  rw [hal] at h1
  clear h c0
  go_wp2_with fail
  refine (sget_any B S R n X (p + 5) 16 os m w1 h1 (by omega) p1).mono ?_
  rintro e w2 ⟨rfl, h2, f2⟩
  rw [e1]
  have k2 := h2.c2
  obtain ⟨ao, cc, k1, _⟩ := h2.c1
  obtain ⟨l, hll⟩ : ∃ l, l = os.length := ⟨_, rfl⟩
  rw [← hll] at k1 hroom
  have d1 : decide ((m : Int) - (l : Int) < (b : Int)) = false := by simp; omega
  have h2d := h2.drew
  have f12 := (f1.trans f2).drew
  clear hll h1 h2 f1 f2
  go_wp2_with fail
  go_region
  clear k1 k2 d1
  go_wp2_with fail
  refine (sget_any B S R n X (p + 5 + 16) 16 os m w2.drew h2d (by omega) p2').mono ?_
  rintro e w3 ⟨rfl, h3, f3⟩
  rw [e2]
  have F3 : Hid (Sw B w w3) := f12.trans f3
  clear h2d f12 h3 f3 e1 e2 p1 p2'
  go_wp2
  go_ret
  exact ⟨rfl, F3.out⟩

end Go.Proofs.YtiahbicodlgmhaaGreatDoor
