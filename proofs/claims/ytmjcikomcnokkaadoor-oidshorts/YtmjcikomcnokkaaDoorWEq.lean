/- Names held one against the other; parts of a row; clear. -/
import Derived.Test.YtmjcikomcnokkaaDoorWClone
import Derived.Laws.StructEq
namespace Go.Proofs.YtmjcikomcnokkaaDoor
open Go.RowKit

theorem id_ext {x y : List Int} (hx : IsId x) (hy : IsId y) : (∀ i ∈ List.range' 0 20 1, bt x i = bt y i) ↔ x = y := by
  constructor
  case mpr => rintro rfl i _; rfl
  case mp =>
    intro h
    apply List.ext_getElem
    · rw [hx.1, hy.1]
    · intro i h1 h2
      have := h i (List.mem_range'_1.2 ⟨by omega, by rw [hx.1] at h1; omega⟩)
      rwa [bt_get h1, bt_get h2] at this

theorem eq_loop (t : TypeId) (hu : Tryd.prog.underlying t = some (.array 20 5)) (d : Nat) (x y : List Int) (w : World) : (Op.equalIn (d + 2) t (idv x) (idv y)).run Tryd.prog w = .ok (decide (∀ i ∈ List.range' 0 20 1, bt x i = bt y i)) w := by
  have hsz : ∀ w, (sizeOf 5).run Tryd.prog w = .ok 1 w := fun w => by simp [go_sem]
  have he : Tryd.prog.underlying 5 = some (.int .u8) := Tryd.underlying5
  rw [Op.equalIn]
  simp only [Sem.run_bind, run_underlying hu, Result.andThen_ok, hsz, Std.Legacy.Range.forIn_eq_forIn_range', Std.Legacy.Range.size, Nat.sub_zero, Nat.add_sub_cancel, Nat.div_one]
  have hl : ∀ i ∈ List.range' 0 20 1, i < 20 := fun i hi => by simpa using (List.mem_range'_1.1 hi).2
  generalize List.range' 0 20 1 = l at hl ⊢
  induction l with
  | nil => simp
  | cons i l ih =>
    have hi : i < 20 := hl i (by simp)
    have px : ∀ z : List Int, (part 5 (vals (cl z) 20).toArray (i * 1)).run Tryd.prog w = .ok (.int .u8 (bt z i)) w := fun z => by
      have := vals_get (cl z) 20 i hi
      simp [part, isAgg, run_underlying he, this, cl]
    have pe : (Op.equalIn (d + 1) 5 (.int .u8 (bt x i)) (.int .u8 (bt y i))).run Tryd.prog w = .ok (bt x i == bt y i) w := by
      rw [run_equalIn_int w d 5 .u8 .u8 _ _ he]
    simp only [List.forIn_cons, Sem.run_bind, px, pe, Result.andThen_ok]
    by_cases h : bt x i = bt y i
    · rw [show (bt x i == bt y i) = true by simp [h]]
      simp only [Bool.not_true, Bool.false_eq_true, if_false, Sem.run_pure, Result.andThen_ok]
      rw [show decide (∀ i' ∈ i :: l, bt x i' = bt y i') = decide (∀ i' ∈ l, bt x i' = bt y i') from decide_eq_decide.2 ⟨fun g i' hi' => g i' (by simp [hi']), fun g i' hi' => by
        rcases List.mem_cons.1 hi' with rfl | hi'
        · exact h
        · exact g i' hi'⟩]
      exact ih fun j hj => hl j (by simp [hj])
    · rw [show (bt x i == bt y i) = false by simp [h]]
      rw [decide_eq_false (fun g => h (g i (by simp)))]
      simp

theorem eql_ids (t : TypeId) (hu : Tryd.prog.underlying t = some (.array 20 5)) {x y : List Int} (hx : IsId x) (hy : IsId y) (w : World) : (Op.equalIn 10000 t (idv x) (idv y)).run Tryd.prog w = .ok (decide (x = y)) w := by
  rw [eq_loop t hu 9998 x y w, decide_eq_decide.2 (id_ext hx hy)]

theorem run_cut (w : World) (b n c k : Nat) (hk : k ≤ n) (h : k < c) : (Instr.sliceAt 62 (sl b n c) (some (.int .i64 k)) none none).run Tryd.prog w = .ok (.slice (some ⟨b, k * 20, none⟩) (n - k) (c - k)) w := by
  have hz : ∀ w, (sizeOf 23).run Tryd.prog w = .ok 20 w := fun w => by simp [go_sem]
  have e2 : 0 ≤ (k : Int) ∧ (k : Int) ≤ (n : Int) := by omega
  unfold Instr.sliceAt Instr.slice Instr.sliceBounds
  simp only [run_underlying Tryd.underlying62, Instr.sliceBound, asIntOf, hz, Result.andThen_ok, Sem.run_bind, Sem.run_pure, if_pos e2, Option.isSome_none, Int.toNat_natCast]
  rw [if_neg (by omega)]
  simp [Addr.add_lit]

theorem run_front (w : World) (b n c k : Nat) (hk : k ≤ n) (hc : n ≤ c) : (Instr.sliceAt 62 (sl b n c) none (some (.int .i64 k)) none).run Tryd.prog w = .ok (.slice (some ⟨b, 0, none⟩) k c) w := by
  have hz : ∀ w, (sizeOf 23).run Tryd.prog w = .ok 20 w := fun w => by simp [go_sem]
  have e2 : 0 ≤ (k : Int) ∧ (k : Int) ≤ (c : Int) := by omega
  unfold Instr.sliceAt Instr.slice Instr.sliceBounds
  simp only [run_underlying Tryd.underlying62, Instr.sliceBound, asIntOf, hz, Result.andThen_ok, Sem.run_bind, Sem.run_pure, if_pos e2, Option.isSome_none, Int.toNat_natCast]
  by_cases h0 : c = 0
  · rw [if_pos h0]; rfl
  · rw [if_neg h0]; rfl

theorem zcs_one : ∀ r : Fin 20, (zcs[r.val]!).oneCell' = true := by decide

theorem ext_size (d : Array (List Int)) (k : Nat) (hk : k ≤ d.size) : (d.extract 0 k).size = k := by simp; omega

theorem ext_get (d : Array (List Int)) (k i : Nat) (hk : k ≤ d.size) (hi : i < k) : (d.extract 0 k)[i]! = d[i]! := by
  rw [getElem!_pos _ i (by rw [ext_size d k hk]; exact hi), getElem!_pos d i (by omega)]
  simp

/-- clear of the rest of a row. -/
theorem Rw.clear {w : World} {b n c k : Nat} {d : Array (List Int)} (h : Rw w b (c * 20) d) (hn : d.size = n) (hc : n ≤ c) (hk : k < n) :
    ∃ w', (∀ ty, (Builtin.clear_ #[62] ty #[.slice (some ⟨b, k * 20, none⟩) (n - k) (c - k)]).run Tryd.prog w = .ok (.tuple #[]) w') ∧ Rw w' b (c * 20) (d.extract 0 k) ∧ Fr (fun i => i = b) w w' := by
  obtain ⟨f, h1, h2⟩ := h.row
  obtain ⟨m, hm⟩ : ∃ m, n - k = m + 1 := ⟨n - k - 1, by omega⟩
  obtain ⟨vs, hvs⟩ : ∃ vs, vs = (Builtin.zeroCells (Value.agg zcs).cells (n - k)).toList := ⟨_, rfl⟩
  have hlen : vs.length = (n - k) * 20 := by
    rw [hvs]
    simp [Builtin.zeroCells, Value.cells]
  have hone : ∀ v ∈ vs, v.oneCell' = true := by
    intro v hv
    rw [hvs] at hv
    simp only [Builtin.zeroCells, Value.cells, Array.toList_map, List.mem_map, Array.toList_range] at hv
    obtain ⟨i, _, rfl⟩ := hv
    exact zcs_one ⟨i % 20, Nat.mod_lt _ (by omega)⟩
  have hst := run_storeCells_cells (P := Tryd.prog) b (k * 20) vs 0 w (fun j hj => by rw [Nat.add_zero, h1.cell (i := k * 20 + j) (by omega)]; rfl) (fun j hj => h1.frozen _) hone
  refine ⟨w.setCells b (k * 20) vs, fun ty => ?_, ⟨⟨_, rowIs_setCells vs (k * 20) w f h1, fun i hi j hj => ?_⟩, ?_, fun i hi => ?_⟩, Fr.setCells (P := fun i => i = b) rfl _ _ _ _ (Fr.refl _ _)⟩
  · rw [hm] at hvs ⊢
    simp only [Nat.add_zero] at hst
    simp [Builtin.clear_, run_underlying Tryd.underlying62, ← hvs, hst]
  · rw [ext_size d k (by omega)] at hi
    rw [ext_get d k i (by omega) hi, if_neg (by omega)]
    exact h2 i (by omega) j hj
  · rw [ext_size d k (by omega)]; have := h.le; omega
  · rw [ext_size d k (by omega)] at hi
    rw [ext_get d k i (by omega) hi]
    exact h.ids i (by omega)

end Go.Proofs.YtmjcikomcnokkaaDoor
