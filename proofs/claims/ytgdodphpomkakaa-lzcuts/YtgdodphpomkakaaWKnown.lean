/- Bytes as a string; known. -/
import Derived.Test.YtgdodphpomkakaaWFind
import Derived.Test.YtgdodphpomkakaaWExpand
namespace Go.Proofs.Ytgdodphpomkakaa
open Go.RowKit

theorem Rd.str {w : World} {ao : Option Addr} {n c : Nat} {xs : List Int} (h : Rd w ao n c xs) : (convert 26 9 (.slice ao n c)).run Try.prog w = .ok (.string (strOfNums xs)) w := by
  cases ao with
  | none =>
    obtain ⟨rfl, rfl⟩ := h.nul rfl
    have hx : xs = [] := List.eq_nil_of_length_eq_zero h.len
    subst hx
    rw [run_convert_bytes_nil w 26 5 Try.underlying26 Try.underlying5 0 0 9 Try.underlying9]
    rfl
  | some ad =>
    have hl : (loadCells ad n).run Try.prog w = .ok (xs.map (Value.int .u8)).toArray w := by
      have := run_loadCells_list (P := Try.prog) w ad (xs.map (Value.int .u8)) (h.cellsOf ad rfl)
      simpa [h.len] using this
    rw [run_convert_bytes_string w 26 9 5 _ n c Try.underlying26 Try.underlying5 Try.underlying9, run_bytesToString w _ n c xs hl, foldl_push_bytes]
    simp [strOfNums, ByteArray.empty, ByteArray.emptyWithCapacity]
    rfl

theorem lit_rd (w : World) (l : List Int) (cs : Array Value) (h : cs = (l.map (Value.int .u8)).toArray) (hb : ∀ x ∈ l, 0 ≤ x ∧ x < 256) : Rd (w.alloc (Obj.cells cs 5)) (some ⟨w.heap.size, 0, none⟩) l.length l.length l := by
  subst h
  have hr := World.rowIs_alloc w (l.map (Value.int .u8)).toArray 5 (fun j => .int .u8 (l.getD j 0)) (fun i hi => by
    have hi' : i < l.length := by simpa using hi
    simp [List.getD, List.getElem?_eq_getElem hi'])
  refine ⟨rfl, Nat.le_refl _, (fun e => by cases e), fun ad had j hj => ?_, hb⟩
  cases had
  rw [Addr.add_lit, Nat.zero_add]
  exact hr.cell (by simpa using hj)

theorem lit_tk (w : World) (ts : List Tok) (cs : Array Value) (ty : TypeId) (h : cs = (tcs ts).toArray) (hb : ∀ t ∈ ts, 0 ≤ t.1 ∧ t.1 < 256) : Tk (w.alloc (Obj.cells cs ty)) (some ⟨w.heap.size, 0, none⟩) ts.length ts := by
  subst h
  have hr := World.rowIs_alloc w (tcs ts).toArray ty (fun j => (tcs ts).getD j undef) (fun i hi => by
    have hi' : i < (tcs ts).length := by simpa using hi
    simp [List.getD, List.getElem?_eq_getElem hi'])
  have hc : ∀ j u, (tcs ts)[j]? = some u → (w.alloc (Obj.cells (tcs ts).toArray ty)).cell? ⟨w.heap.size, j, none⟩ = some u := fun j u hu => by
    have hj := (List.getElem?_eq_some_iff.1 hu).1
    rw [hr.cell (i := j) (by simpa using hj), List.getD, hu]
    rfl
  refine ⟨rfl, fun j hj => ?_, hb⟩
  obtain ⟨g0, g1, g2⟩ := tcs_get ts j hj
  exact ⟨_, 0, rfl, by rw [Nat.zero_add]; exact hc _ _ g0, by rw [Nat.zero_add]; exact hc _ _ g1, by rw [Nat.zero_add]; exact hc _ _ g2⟩

theorem freeze_cell (w : World) (b : Addr) (a : Addr) : (w.freeze b 1).cell? a = w.cell? a := by
  unfold World.freeze
  rw [if_neg (by omega)]
  unfold World.cell?
  simp only [Array.getElem?_modify]
  by_cases h : b.block = a.block
  · rw [if_pos h]
    cases ho : w.heap[a.block]? with
    | none => simp
    | some o => cases o <;> simp
  · rw [if_neg h]

theorem freeze_fr (w : World) (b : Addr) : Fr (fun k => k = b.block) w (w.freeze b 1) := by
  unfold World.freeze
  rw [if_neg (by omega)]
  exact ⟨rfl, rfl, rfl, by simp, fun k _ hn => by
    rw [Array.getElem?_modify, if_neg (fun e => hn e.symm)]⟩

theorem conv26 (w : World) (a : Addr) (n c : Nat) : ∃ w', (convert 26 26 (.slice (some a) n c)).run Try.prog w = .ok (.slice (some a) n c) w' ∧ Fr (fun k => k = a.block) w w' ∧ ∀ p, w'.cell? p = w.cell? p := by
  cases h : w.shape? a.block with
  | none => exact ⟨w, by simp [convert, run_underlying Try.underlying26, run_underlying Try.underlying5, markStringish, h], Fr.refl _ _, fun _ => rfl⟩
  | some x => exact ⟨w.freeze ⟨a.block, x.2, none⟩ 1, by simp [convert, run_underlying Try.underlying26, run_underlying Try.underlying5, markStringish, h], freeze_fr w ⟨a.block, x.2, none⟩, freeze_cell w ⟨a.block, x.2, none⟩⟩

theorem wpList_convW {ops : Array Oper} {rest : List Oper} {op : Oper} {a : Act} {w : World} {Q : Exit → Act → World → Prop} (hw : Region.wanted op (yielded ops a.tmps) = true) (x : Operand) (ho : op.op = .convert 26 26 x)
    (ad : Addr) (n c : Nat) (hx : a.eval x = .slice (some ad) n c)
    (hk : ∀ w', Fr (fun k => k = ad.block) w w' → (∀ p, w'.cell? p = w.cell? p) → wpList Try.prog ops Q rest (a.put op.dst (.slice (some ad) n c)) w') : wpList Try.prog ops Q (op :: rest) a w :=
  wpList_step fun K hK => by
    rw [if_pos hw]
    obtain ⟨w', hrun, hf, hc⟩ := conv26 w ad n c
    unfold Oper.wp
    simp [execOp, ho, hx, hrun, Result.andThen]
    exact hK _ _ (hk w' hf hc)

theorem Rd.same {w w' : World} {ao : Option Addr} {n c : Nat} {xs : List Int} (h : Rd w ao n c xs) (hc : ∀ p, w'.cell? p = w.cell? p) : Rd w' ao n c xs :=
  ⟨h.len, h.le, h.nul, fun ad had j hj => by rw [hc]; exact h.cells ad had j hj, h.byt⟩

/-- The tokens of known. -/
def kts : List Tok := [(97, 0, 0), (0, 5, 1)]

theorem kts_ok : Ok kts kts.length := by
  intro j hj
  have : j = 0 ∨ j = 1 := by simp [kts] at hj; omega
  rcases this with rfl | rfl <;> decide +kernel

theorem kts_tot : tot kts = 6 := by decide +kernel

theorem kts_mks : mks kts = [97, 97, 97, 97, 97, 97] := by decide +kernel

theorem kts_byt : ∀ t ∈ kts, 0 ≤ t.1 ∧ t.1 < 256 := by decide +kernel

theorem kno : ¬ Ok [((0 : Int), (3 : Int), (1 : Int))] 1 := fun h => absurd (h 0 (by omega)) (by decide +kernel)

set_option maxRecDepth 100000 in
set_option maxHeartbeats 2000000 in
theorem known_any (w : World) : Calls Try.prog 7 #[] w fun e w' => e = .returned (.bool true) ∧ Below w.heap.size w w' := by
  have k1 : Tk (w.alloc (Obj.cells #[.int .u8 97, .int .i64 0, .int .i64 0, .int .u8 0, .int .i64 5, .int .i64 1] 40)) (some ⟨w.heap.size, 0, none⟩) 2 kts := lit_tk w kts _ 40 rfl kts_byt
  have a1 : Below w.heap.size w (w.alloc (Obj.cells #[.int .u8 97, .int .i64 0, .int .i64 0, .int .u8 0, .int .i64 5, .int .i64 1] 40)) := (Below.refl _ _).alloc (Nat.le_refl _) _
  have i1 := expand_any _ 2 2 kts 10 _ k1 (by omega)
  go_enter Try.func7, Try.ntmps7
  go_wp2_with fail
  refine i1.mono ?_
  rintro e w1 ⟨v1, g1, os1, rfl, x1, o1, c1⟩
  obtain ⟨rfl, rfl⟩ := x1.yes kts_ok (by rw [kts_tot]; decide)
  have B1 := a1.trans (c1.mono a1.size)
  have i2 := expand_any _ 2 2 kts 5 w1 (k1.keep c1) (by omega)
  clear i1
  go_wp2_with fail
  refine i2.mono ?_
  rintro e w2 ⟨v2, g2, os2, rfl, x2, o2, c2⟩
  obtain rfl : g2 = 5 := by
    rcases x2 with ⟨h, _⟩ | ⟨_, _, h, _⟩ | ⟨_, h, _⟩
    · exact absurd kts_ok h
    · exact h
    · rw [kts_tot] at h; omega
  have B2 : Hid (Below w.heap.size w w2) := B1.trans (c2.mono B1.size)
  have k2 := (k1.keep c1).keep c2
  obtain ⟨ao1, cc1, rfl, r1, _⟩ := own_rd o1 (mks_byt _ kts_byt)
  have s1 := (r1.keep c2).str
  rw [kts_mks] at s1
  have t1 : (strOfNums [97, 97, 97, 97, 97, 97]).toList = [97, 97, 97, 97, 97, 97] := by kernel_rfl
  have HK : Hid ((mks kts).length = 6) := by rw [kts_mks]; rfl
  rw [HK.out] at ⊢
  simp only [List.length_cons, List.length_nil, Nat.zero_add] at s1
  have i3 := size_all _ 2 2 kts w2 k2 (by omega)
  rw [kts_tot] at i3
  clear x2 x1 o1 o2 r1 B1 k1 a1 i2 c1 c2 k2
  go_wp2_with (first
    | (go_at_call 13; refine i3.mono ?_; rintro e w3 ⟨rfl, c3⟩)
    | (go_at_call 11; refine (check_any _ 1 1 [((0 : Int), (3 : Int), (1 : Int))] _ (lit_tk w3 [((0 : Int), (3 : Int), (1 : Int))] _ 40 rfl (by decide +kernel)) (by omega)).mono ?_; rintro e w4 ⟨gg, rfl, hg, c4⟩; obtain rfl : gg = 2 := by (rcases hg with ⟨_, h⟩ | ⟨h, _⟩; exact absurd h kno; exact h))
    | (refine wpList_convW (by rfl) _ rfl ⟨w4.heap.size, 0, none⟩ 2 2 rfl ?_; intro w5 f5 h5))
  have r5 : Rd w5 (some ⟨w4.heap.size, 0, none⟩) 2 2 [97, 98] := (lit_rd w4 [97, 98] _ rfl (by decide +kernel)).same h5
  have c5 : Below w4.heap.size w4 w5 := ((Below.refl _ _).alloc (Nat.le_refl _) _).trans (f5.below _ (by simp) (fun i hi e => by omega))
  have B4 : Hid (Below w.heap.size w w4) := keep3 (B2.out.trans (c3.mono B2.out.size)) c4
  refine (find_any _ 2 2 [97, 98] 0 w5 r5 (by omega) (by omega)).mono ?_
  rintro e w6 ⟨v6, ts6, rfl, hf6, o6, c6⟩
  have hl := hf6.lit (by omega)
  have HB6 : Hid (Below w.heap.size w w6) := by
    have h5 := B4.out.trans (c5.mono B4.out.size)
    exact h5.trans (c6.mono h5.size)
  obtain ⟨l6, ll6, rfl, _⟩ := own_tk o6 hf6.fnd.byt
  rw [hl]
  clear hl hf6 o6 c6 B4 c5 r5
  simp only [List.length_cons, List.length_nil, Nat.zero_add]
  go_wp2
  go_ret
  exact ⟨rfl, HB6.out⟩

end Go.Proofs.Ytgdodphpomkakaa
