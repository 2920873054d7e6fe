/- Slices of integers in memory; slices.Clone of bytes, of integers. -/
import Derived.Test.YtmpfbemdljfamaaHelp
namespace Go.Proofs.Ytmpfbemdljfamaa
open Go.RowKit

theorem Try.info3 : (Try.prog.info? 3).map (fun i => (i.zero, i.size, i.bytes)) = some (some (.int .i64 0), 1, 8) := by kernel_rfl

/-- An integer, as a value. -/
abbrev iv (n : Int) : Value := .int .i64 n

/-- The slice value '.slice ao n c' reads as the first n numbers of L in the world w. -/
structure Ri (w : World) (ao : Option Addr) (n c : Nat) (L : Nat → Int) : Prop where
  le : n ≤ c
  nul : ao = none → n = 0 ∧ c = 0
  cells : ∀ ad, ao = some ad → ∀ j, j < n → w.cell? (ad.add j) = some (.int .i64 (L j))

theorem Ri.nil (w : World) (L : Nat → Int) : Ri w none 0 0 L := ⟨Nat.le_refl _, fun _ => ⟨rfl, rfl⟩, (fun _ h => by cases h)⟩

theorem Ri.plain {w : World} {ao : Option Addr} {n c : Nat} {L : Nat → Int} (h : Ri w ao n c L) (hn : 0 < n) :
    ∃ b off, ao = some ⟨b, off, none⟩ ∧ ∀ j, j < n → w.cell? ⟨b, off + j, none⟩ = some (.int .i64 (L j)) := by
  cases ao with
  | none => have := (h.nul rfl).1; omega
  | some ad =>
    obtain ⟨b, off, spot⟩ := ad
    have hc := h.cells _ rfl 0 hn
    have hspot : spot = none := by simpa [Addr.add] using World.cell?_spot hc
    subst hspot
    refine ⟨b, off, rfl, fun j hj => ?_⟩
    have := h.cells _ rfl j hj
    rwa [Addr.add_lit] at this

theorem Ri.keep {w w' : World} {ao : Option Addr} {n c : Nat} {L : Nat → Int} (h : Ri w ao n c L) (hb : Below w.heap.size w w') : Ri w' ao n c L :=
  ⟨h.le, h.nul, fun ad had j hj => by
    have hc := h.cells ad had j hj
    rw [hb.cell (World.block_lt_of_cell? w _ hc)]
    exact hc⟩

theorem Ri.drew {w : World} {ao : Option Addr} {n c : Nat} {L : Nat → Int} (h : Ri w ao n c L) : Ri w.drew ao n c L := ⟨h.le, h.nul, h.cells⟩

theorem Ri.blk {w : World} {ao : Option Addr} {n c : Nat} {L : Nat → Int} (h : Ri w ao n c L) : ∀ ad, ao = some ad → 0 < n → ad.block < w.heap.size := fun ad had hn => by
  have := h.cells ad had 0 hn
  have := World.block_lt_of_cell? w _ this
  rwa [show (ad.add 0).block = ad.block by unfold Addr.add; split <;> rfl] at this

theorem Ri.fr {P : Nat → Prop} {w w' : World} {ao : Option Addr} {n c : Nat} {L : Nat → Int} (h : Ri w ao n c L) (hf : Fr P w w') (hs : ∀ ad, ao = some ad → 0 < n → ¬ P ad.block) : Ri w' ao n c L :=
  ⟨h.le, h.nul, fun ad had j hj => by
    have hc := h.cells ad had j hj
    have hbk : (ad.add j).block = ad.block := by unfold Addr.add; split <;> rfl
    have hlt := World.block_lt_of_cell? w _ hc
    rw [World.cell?_of_block (hf.block _ hlt (by rw [hbk]; exact hs ad had (by omega)))]
    exact hc⟩

theorem Ri.congr {w : World} {ao : Option Addr} {n c : Nat} {L M : Nat → Int} (h : Ri w ao n c L) (e : ∀ j, j < n → L j = M j) : Ri w ao n c M :=
  ⟨h.le, h.nul, fun ad had j hj => by rw [← e j hj]; exact h.cells ad had j hj⟩

theorem Ri.row {w : World} {b n : Nat} {L : Nat → Int} (h : w.rowIs b 3 n (fun j => .int .i64 (L j))) : Ri w (some ⟨b, 0, none⟩) n n L :=
  ⟨Nat.le_refl _, (fun e => by cases e), fun ad had j hj => by cases had; rw [Addr.add_lit, Nat.zero_add]; exact h.cell hj⟩

/-- The list of the first n numbers, as values. -/
abbrev ivs (L : Nat → Int) (n : Nat) : List Value := vals (fun j => .int .i64 (L j)) n

theorem Ri.cellsOf {w : World} {ao : Option Addr} {n c : Nat} {L : Nat → Int} (h : Ri w ao n c L) : ∀ ad, ao = some ad → ∀ j u, (ivs L n)[j]? = some u → w.cell? (ad.add j) = some u := by
  intro ad had j u hu
  have hj : j < n := by
    have := (List.getElem?_eq_some_iff.1 hu).1
    rwa [vals_len] at this
  rw [h.cells ad had j hj]
  rw [vals_get _ _ _ hj] at hu
  exact hu

theorem ivs_one (L : Nat → Int) (n : Nat) : ∀ v ∈ ivs L n, v.oneCell' = true := by
  intro v hv
  unfold ivs vals at hv
  obtain ⟨j, _, rfl⟩ := List.mem_map.1 hv
  rfl

/-- A row of one's own, as a slice. -/
theorem own_ri {w : World} {base n : Nat} {v : Value} {L : Nat → Int} (h : w.ownsRow base 3 1 v n (ivs L n)) :
    ∃ ao c, v = .slice ao n c ∧ Ri w ao n c L ∧ ∀ ad, ao = some ad → v.ownBlock = some ad.block ∧ base ≤ ad.block := by
  rcases h.2 with ⟨rfl, rfl⟩ | ⟨g, cap, cur, rfl, hg, hh, hle, hrest⟩
  · exact ⟨none, 0, rfl, Ri.nil _ _, fun ad had => by cases had⟩
  · refine ⟨_, _, rfl, ⟨hle, (fun e => by cases e), fun ad had j hj => ?_⟩, fun ad had => by cases had; exact ⟨rfl, hg⟩⟩
    cases had
    have := h.cells (g := g) rfl j (.int .i64 (L j)) (vals_get _ _ _ hj)
    simpa using this

theorem made_get (z : Value) (n i : Nat) (h : i < n) : (madeCells #[z] n)[i]? = some z := by
  simp [madeCells, h, Nat.mod_one]

theorem made_row (w : World) (n : Nat) : (w.alloc (.cells (madeCells #[.int .i64 0] n) 3)).rowIs w.heap.size 3 n (fun _ => .int .i64 0) := by
  have h := World.rowIs_alloc w (madeCells #[.int .i64 0] n) 3 (fun _ => .int .i64 0) (fun i hi => by
    have : i < n := by simpa [madeCells] using hi
    exact made_get _ n i this)
  have e : (madeCells #[Value.int .i64 0] n).size = n := by simp [madeCells]
  rwa [e] at h

set_option maxHeartbeats 400000 in
theorem iclone_any (ao : Option Addr) (n c : Nat) (L : Nat → Int) (w : World) (h : Ri w ao n c L) (hn : n ≤ 1000000) :
    Calls Try.prog 50 #[.slice ao n c] w fun e w' => ∃ v', e = .returned v' ∧ w'.ownsRow w.heap.size 3 1 v' n (ivs L n) ∧ Below w.heap.size w w' := by
  obtain ⟨i0, hi, hz0, hz1, hz2⟩ := info_parts Try.info3
  cases ao with
  | none =>
    obtain ⟨rfl, rfl⟩ := h.nul rfl
    have hq := fun w => Lib.run_eql_slice_nil (P := Try.prog) w 23 3 none 0 0 0 0 Try.underlying23
    go_enter Try.func50, Try.ntmps50
    go_wp2
    go_ret
    exact ⟨_, rfl, World.ownsRow_nil _ _ _ _, Below.refl _ _⟩
  | some ad =>
    have hcells := h.cellsOf ad rfl
    clear h
    have hq := fun w => Lib.run_eql_slice_nil (P := Try.prog) w 23 3 (some ad) n c 0 0 Try.underlying23
    go_enter Try.func50, Try.ntmps50
    go_wp2_with (at_builtin; refine wpList_append_own _ rfl _ _ 23 rfl w.heap.size 3 i0 (.int .i64 0) 1 8 Try.underlying23 hi hz0 hz1 hz2 rfl (by decide) _ 0 [] rfl ?_ ad n c (ivs L n) rfl ?_ ?_ (ivs_one _ _) ?_ ?_ ?_ ?_)
    · exact World.ownsRow_lit (base := w.heap.size) (e := 3) (size := 1) w #[] 0 (Nat.le_refl _) (by unfold maxLen; omega) rfl
    · rw [vals_len]; omega
    · intro j u hu
      have hc := hcells j u hu
      rw [((Below.refl _ _).alloc (Nat.le_refl _) _ : Below w.heap.size w (w.alloc (.cells #[] 3))).cell (World.block_lt_of_cell? w _ hc)]
      exact hc
    · unfold maxLen; omega
    · omega
    · simp
    · intro v' w2 hown2 hgrow2 hv'
      have hb2 : Below w.heap.size w w2 := ((Below.refl _ _).alloc (Nat.le_refl _) _).grown hgrow2 (by simp) (fun q hq => by cases hq; exact Nat.le_refl _)
      clear hgrow2 hcells hv'
      go_wp2
      go_ret
      exact ⟨_, rfl, by simpa using hown2, hb2⟩

set_option maxHeartbeats 400000 in
theorem clone_any (ao : Option Addr) (n c : Nat) (xs : List Int) (w : World) (h : Rd w ao n c xs) (hn : n ≤ 140737488351232) :
    Calls Try.prog 45 #[.slice ao n c] w fun e w' => ∃ v', e = .returned v' ∧ w'.ownsRow w.heap.size 5 1 v' n (xs.map (Value.int .u8)) ∧ Below w.heap.size w w' := by
  obtain ⟨i0, hi, hz0, hz1, hz2⟩ := info_parts Try.info5
  cases ao with
  | none =>
    obtain ⟨rfl, rfl⟩ := h.nul rfl
    have hx : xs = [] := List.eq_nil_of_length_eq_zero h.len
    subst hx
    have hq := fun w => Lib.run_eql_slice_nil (P := Try.prog) w 22 5 none 0 0 0 0 Try.underlying22
    go_enter Try.func45, Try.ntmps45
    go_wp2
    go_ret
    exact ⟨_, rfl, World.ownsRow_nil _ _ _ _, Below.refl _ _⟩
  | some ad =>
    have hcells := h.cellsOf ad rfl
    have hl := h.len
    clear h
    have hq := fun w => Lib.run_eql_slice_nil (P := Try.prog) w 22 5 (some ad) n c 0 0 Try.underlying22
    go_enter Try.func45, Try.ntmps45
    go_wp2_with (at_builtin; refine wpList_append_own _ rfl _ _ 22 rfl w.heap.size 5 i0 (.int .u8 0) 1 1 Try.underlying22 hi hz0 hz1 hz2 rfl (by decide) _ 0 [] rfl ?_ ad n c (xs.map (Value.int .u8)) rfl ?_ ?_ (ints_oneCell _ _) ?_ ?_ ?_ ?_)
    · exact World.ownsRow_lit (base := w.heap.size) (e := 5) (size := 1) w #[] 0 (Nat.le_refl _) (by unfold maxLen; omega) rfl
    · simpa using hl
    · intro j u hu
      have hc := hcells j u hu
      rw [((Below.refl _ _).alloc (Nat.le_refl _) _ : Below w.heap.size w (w.alloc (.cells #[] 5))).cell (World.block_lt_of_cell? w _ hc)]
      exact hc
    · unfold maxLen; omega
    · omega
    · simp
    · intro v' w2 hown2 hgrow2 hv'
      have hb2 : Below w.heap.size w w2 := ((Below.refl _ _).alloc (Nat.le_refl _) _).grown hgrow2 (by simp) (fun q hq => by cases hq; exact Nat.le_refl _)
      clear hgrow2 hcells hv'
      go_wp2
      go_ret
      exact ⟨_, rfl, by simpa using hown2, hb2⟩


end Go.Proofs.Ytmpfbemdljfamaa
