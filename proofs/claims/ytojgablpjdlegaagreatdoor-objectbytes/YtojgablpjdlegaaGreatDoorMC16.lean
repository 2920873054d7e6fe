/- Arg, ObW, Wrap. -/
import Derived.Test.YtojgablpjdlegaaGreatDoorM08
import Derived.Test.YtojgablpjdlegaaGreatDoorM13
import Derived.ShutString
import Derived.OpenShut
import Derived.WideShapes
import Derived.Deep.SlicePairs
import Derived.Test.YtojgablpjdlegaaGreatDoorRows
import Derived.Test.YtojgablpjdlegaaGreatDoorM19
import Derived.LaidMore
import Derived.LaidSub
import Derived.Shelf.Vars
import Derived.HandedShaped
/- Names, rows of names that came in. -/
namespace Go.Proofs.YtojgablpjdlegaaGreatDoor
open Go.RowKit

theorem choose_lt {α : Type} [Inhabited α] {P : Nat → α → Prop} (n : Nat) (h : ∀ i, i < n → ∃ a, P i a) : ∃ f : Nat → α, ∀ i, i < n → P i (f i) := by
  classical
  exact ⟨fun i => if hi : i < n then (h i hi).choose else default, fun i hi => by simp only [dif_pos hi]; exact (h i hi).choose_spec⟩

theorem cells27 : Tryz.prog.cellsOf 27 = 20 := by kernel_rfl
theorem cells5 : Tryz.prog.cellsOf 5 = 1 := by kernel_rfl

/-- The name of these numbers. -/
def mkId (f : Nat → Int) : List Int := (List.range 20).map f

theorem mkId_bt (f : Nat → Int) (j : Nat) (hj : j < 20) : bt (mkId f) j = f j := by
  unfold bt mkId
  rw [List.getD, List.getElem?_map, List.getElem?_range hj]
  rfl

theorem mkId_id (f : Nat → Int) (h : ∀ j, j < 20 → 0 ≤ f j ∧ f j < 256) : IsId (mkId f) := by
  refine ⟨by simp [mkId], fun b hb => ?_⟩
  unfold mkId at hb
  obtain ⟨j, hj, rfl⟩ := List.mem_map.1 hb
  exact h j (by simpa using hj)

theorem row_of {H : Type} {enc : TypeId × Value → H} {w : World} {base : Nat} {spare : Nat → Bool} {held : Bool} {fuel : Nat} {cs : List Value} {x : DataW H × List MemPlace}
    (h : DataW.trod enc Tryz.prog w base spare held fuel 27 cs = some x) : ∃ z, IsId z ∧ cs = vals (cl z) 20 := by
  obtain ⟨xs, m, _, _, hl, hxl, hx⟩ := DataW.trod_array Tryz.underlying27 h
  rw [cells27] at hl
  have each : ∀ i, i < 20 → ∃ z : Int, cs[i]? = some (.int .u8 z) ∧ 0 ≤ z ∧ z < 256 := by
    intro i hi
    have hi' := hx i hi
    rw [cells5, Nat.mul_one] at hi'
    have hc : (cs.drop i).take 1 = [cs[i]'(by omega)] := by
      rw [List.drop_eq_getElem_cons (by omega)]
      rfl
    rw [hc, List.getElem?_eq_getElem (by omega : i < xs.length)] at hi'
    obtain ⟨z, e, _, wf⟩ := DataW.trod_int Tryz.underlying5 hi'
    have hb := bounds_u8 wf
    simp at e
    exact ⟨z, by rw [List.getElem?_eq_getElem (by omega), e], by simpa using hb.1, by have := hb.2; omega⟩
  obtain ⟨f, hf⟩ := choose_lt 20 each
  refine ⟨mkId f, mkId_id f (fun j hj => (hf j hj).2), ?_⟩
  apply List.ext_getElem?
  intro i
  by_cases hi : i < 20
  · rw [(hf i hi).1, vals_get _ _ _ hi]
    unfold cl
    rw [mkId_bt f i hi]
  · rw [List.getElem?_eq_none (by omega), List.getElem?_eq_none (by rw [vals_len]; omega)]

set_option maxRecDepth 100000 in
theorem open_id {H : Type} {enc : TypeId × Value → H} {W : World} {r : Reach} {base b0 : Nat} {spare : Nat → Bool} {held : Bool} {v : Value} {d : DataW H} {p : List MemPlace}
    (hv : Value.okWide Tryz.prog W r b0 27 v) (h : DataW.Trod enc Tryz.prog W base spare held 27 v d p) : ∃ z, IsId z ∧ v = idv z := by
  simp only [Value.okWide, Tryz.underlying27] at hv
  obtain ⟨cs, rfl, _, _⟩ := hv
  obtain ⟨fuel, hf⟩ := h
  obtain ⟨z, hz, e⟩ := row_of hf
  refine ⟨z, hz, ?_⟩
  have : cs.toList = vals (cl z) 20 := by simpa [Value.cells] using e
  show Value.agg cs = Value.agg (vals (cl z) 20).toArray
  rw [← this]

theorem open_ids {H : Type} {enc : TypeId × Value → H} {w : World} {base : Nat} {spare : Nat → Bool} {held : Bool} {fuel : Nat} {cs : List Value} {x : DataW H × List MemPlace}
    (h : DataW.trod enc Tryz.prog w base spare held fuel 45 cs = some x) : ∃ a len cap, cs = [.slice a len cap] ∧ len ≤ maxLen ∧ ∃ d : Array (List Int), d.size = len ∧ Is w (.slice a len cap) d := by
  rcases Deep.open_slice Tryz.underlying45 h with ⟨rfl, _⟩ | ⟨a, len, cap, m, n, D, Pl, rfl, hb, hl, hm, hmm, _, hx⟩
  · exact ⟨none, 0, 0, rfl, by unfold maxLen; omega, #[], rfl, ⟨none, 0, rfl, Nat.le_refl _, fun _ => ⟨rfl, rfl⟩, fun ad had => by cases had⟩, fun i hi => absurd hi (by simp)⟩
  refine ⟨some a, len, cap, rfl, by omega, ?_⟩
  have hlm : len ≤ m := by rw [hmm]; split <;> omega
  have each : ∀ i, i < len → ∃ z : List Int, IsId z ∧ ∀ j, j < 20 → w.cell? (a.add (i * 20 + j)) = some (cl z j) := by
    intro i hi
    obtain ⟨cs', h1, h2⟩ := hx i (by omega)
    rw [cells27] at h1
    obtain ⟨_, hlen, hcell⟩ := World.cells?_some h1
    obtain ⟨z, hz, e⟩ := row_of h2
    refine ⟨z, hz, fun j hj => ?_⟩
    have k := hcell j (by omega)
    rw [Deep.add_add] at k
    rw [k]
    have := vals_get (cl z) 20 j hj
    rw [← e] at this
    simpa using this
  obtain ⟨f, hf⟩ := choose_lt len each
  refine ⟨((List.range len).map f).toArray, by simp, ⟨some a, cap, by simp, by simpa using hl, (fun e => by cases e), fun ad had i hi j hj => ?_⟩, fun i hi => ?_⟩
  · cases had
    have hi' : i < len := by simpa using hi
    rw [(hf i hi').2 j hj, getElem!_pos _ i hi]
    simp
  · have hi' : i < len := by simpa using hi
    rw [getElem!_pos _ i hi]
    simpa using (hf i hi').1

theorem cut24 (cs : List Value) (h : cs.length = 24) : cs = (cs.drop 0).take 20 ++ ((cs.drop 20).take 1 ++ ((cs.drop 21).take 1 ++ ((cs.drop 22).take 1 ++ (cs.drop 23).take 1))) := by
  have e (k : Nat) : cs.drop k = (cs.drop k).take 1 ++ cs.drop (k + 1) := by
    conv => lhs; rw [← List.take_append_drop 1 (cs.drop k)]
    rw [List.drop_drop]
  have e3 : (cs.drop 23).take 1 = cs.drop 23 := List.take_of_length_le (by simp; omega)
  rw [e3, ← e 22, ← e 21, ← e 20, List.drop_zero, List.take_append_drop]

theorem str_eta (s : ByteArray) : Value.string s = sv s.data.toList := by
  obtain ⟨a⟩ := s
  rfl

theorem cf_vals (T : List Int) (p : Value) (A C M : List UInt8) : vals (cf T p A C M) 24 = vals (cl T) 20 ++ ([p] ++ ([sv A] ++ ([sv C] ++ [sv M]))) := by kernel_rfl

theorem tf_vals (T : List Int) (k : Int) (N G M : List UInt8) : vals (tf T k N G M) 24 = vals (cl T) 20 ++ ([Value.int .i64 k] ++ ([sv N] ++ ([sv G] ++ [sv M]))) := by kernel_rfl

theorem cells45 : Tryz.prog.cellsOf 45 = 1 := by kernel_rfl
theorem cells9 : Tryz.prog.cellsOf 9 = 1 := by kernel_rfl
theorem cells3 : Tryz.prog.cellsOf 3 = 1 := by kernel_rfl
theorem cells47 : Tryz.prog.cellsOf 47 = 24 := by kernel_rfl
theorem cells56 : Tryz.prog.cellsOf 56 = 24 := by kernel_rfl

set_option maxRecDepth 100000 in
theorem open_commit {H : Type} {enc : TypeId × Value → H} {W : World} {r : Reach} {base b0 : Nat} {spare : Nat → Bool} {held : Bool} {v : Value} {d : DataW H} {p : List MemPlace}
    (hv : Value.okWide Tryz.prog W r b0 47 v) (h : DataW.Trod enc Tryz.prog W base spare held 47 v d p) : ∃ T ao n cap A C M dd, v = row (cf T (.slice ao n cap) A C M) 24 ∧ IsId T ∧ n = dd.size ∧ Is W (.slice ao n cap) dd := by
  simp only [Value.okWide, Tryz.underlying47] at hv
  obtain ⟨cs, rfl, _, _⟩ := hv
  obtain ⟨fuel, hf⟩ := h
  obtain ⟨xs, k, _, _, hl, hxl, hfld⟩ := DataW.trod_struct Tryz.underlying47 hf
  rw [cells47] at hl
  have hcs : (Value.agg cs).cells.toList = cs.toList := by simp [Value.cells]
  rw [hcs] at hl hfld
  match xs, hxl with
  | [y0, y1, y2, y3, y4], _ =>
    have g0 : DataW.trod enc Tryz.prog W base spare held k 27 ((cs.toList.drop 0).take (Tryz.prog.cellsOf 27)) = some y0 := hfld 0 _ rfl
    have g1 : DataW.trod enc Tryz.prog W base spare held k 45 ((cs.toList.drop 20).take (Tryz.prog.cellsOf 45)) = some y1 := hfld 1 _ rfl
    have g2 : DataW.trod enc Tryz.prog W base spare held k 9 ((cs.toList.drop 21).take (Tryz.prog.cellsOf 9)) = some y2 := hfld 2 _ rfl
    have g3 : DataW.trod enc Tryz.prog W base spare held k 9 ((cs.toList.drop 22).take (Tryz.prog.cellsOf 9)) = some y3 := hfld 3 _ rfl
    have g4 : DataW.trod enc Tryz.prog W base spare held k 9 ((cs.toList.drop 23).take (Tryz.prog.cellsOf 9)) = some y4 := hfld 4 _ rfl
    rw [cells27] at g0
    rw [cells45] at g1
    rw [cells9] at g2 g3 g4
    obtain ⟨T, hT, e0⟩ := row_of g0
    obtain ⟨a, len, cap, e1, _, dd, hdd, hIs⟩ := open_ids g1
    obtain ⟨s2, e2, _⟩ := DataW.trod_string Tryz.underlying9 g2
    obtain ⟨s3, e3, _⟩ := DataW.trod_string Tryz.underlying9 g3
    obtain ⟨s4, e4, _⟩ := DataW.trod_string Tryz.underlying9 g4
    refine ⟨T, a, len, cap, s2.data.toList, s3.data.toList, s4.data.toList, dd, ?_, hT, hdd.symm, hIs⟩
    have hcut := cut24 cs.toList hl
    rw [e0, e1, e2, e3, e4, str_eta s2, str_eta s3, str_eta s4, ← cf_vals] at hcut
    show Value.agg cs = Value.agg _
    rw [← hcut]

set_option maxRecDepth 100000 in
theorem open_tag {H : Type} {enc : TypeId × Value → H} {W : World} {r : Reach} {base b0 : Nat} {spare : Nat → Bool} {held : Bool} {v : Value} {d : DataW H} {p : List MemPlace}
    (hv : Value.okWide Tryz.prog W r b0 56 v) (h : DataW.Trod enc Tryz.prog W base spare held 56 v d p) : ∃ T k N G M, v = row (tf T k N G M) 24 ∧ IsId T := by
  simp only [Value.okWide, Tryz.underlying56] at hv
  obtain ⟨cs, rfl, _, _⟩ := hv
  obtain ⟨fuel, hf⟩ := h
  obtain ⟨xs, k, _, _, hl, hxl, hfld⟩ := DataW.trod_struct Tryz.underlying56 hf
  rw [cells56] at hl
  have hcs : (Value.agg cs).cells.toList = cs.toList := by simp [Value.cells]
  rw [hcs] at hl hfld
  match xs, hxl with
  | [y0, y1, y2, y3, y4], _ =>
    have g0 : DataW.trod enc Tryz.prog W base spare held k 27 ((cs.toList.drop 0).take (Tryz.prog.cellsOf 27)) = some y0 := hfld 0 _ rfl
    have g1 : DataW.trod enc Tryz.prog W base spare held k 3 ((cs.toList.drop 20).take (Tryz.prog.cellsOf 3)) = some y1 := hfld 1 _ rfl
    have g2 : DataW.trod enc Tryz.prog W base spare held k 9 ((cs.toList.drop 21).take (Tryz.prog.cellsOf 9)) = some y2 := hfld 2 _ rfl
    have g3 : DataW.trod enc Tryz.prog W base spare held k 9 ((cs.toList.drop 22).take (Tryz.prog.cellsOf 9)) = some y3 := hfld 3 _ rfl
    have g4 : DataW.trod enc Tryz.prog W base spare held k 9 ((cs.toList.drop 23).take (Tryz.prog.cellsOf 9)) = some y4 := hfld 4 _ rfl
    rw [cells27] at g0
    rw [cells3] at g1
    rw [cells9] at g2 g3 g4
    obtain ⟨T, hT, e0⟩ := row_of g0
    obtain ⟨z, e1, _⟩ := DataW.trod_int Tryz.underlying3 g1
    obtain ⟨s2, e2, _⟩ := DataW.trod_string Tryz.underlying9 g2
    obtain ⟨s3, e3, _⟩ := DataW.trod_string Tryz.underlying9 g3
    obtain ⟨s4, e4, _⟩ := DataW.trod_string Tryz.underlying9 g4
    refine ⟨T, z, s2.data.toList, s3.data.toList, s4.data.toList, ?_, hT⟩
    have hcut := cut24 cs.toList hl
    rw [e0, e1, e2, e3, e4, str_eta s2, str_eta s3, str_eta s4, ← tf_vals] at hcut
    show Value.agg cs = Value.agg _
    rw [← hcut]

end Go.Proofs.YtojgablpjdlegaaGreatDoor

/- The tables, out of what is laid, and of the world's shape. -/
namespace Go.Proofs.YtojgablpjdlegaaGreatDoor
open Go.RowKit

/-- The two tables. -/
abbrev two : List (String × DataW Unit) := [("internal/strconv.uint64pow10", Lib.tabData .u64 Lib.pow10Tab), ("trove/object.words", Rows.laid_trove_object_words)]

theorem word_of {W : World} {t f : Nat} {cs : List Value} {p : List MemPlace} (ht : Tryz.prog.underlying t = some (.array 5 9)) (h9 : Tryz.prog.cellsOf 9 = 1) (hd : DataW.trod (fun _ => ()) Tryz.prog W 0 (fun _ => true) false f t cs = some (Rows.laid_trove_object_words, p)) (k : Nat) (hk : k < 5) : cs[k]? = some (.string (wrd k)) := by
  obtain ⟨xs, m, _, he, _, hxl, hx⟩ := DataW.trod_array ht hd
  have hxk : xs[k]? = some (xs[k]'(by omega)) := List.getElem?_eq_getElem (by omega)
  have h1 := hx k hk
  rw [hxk, h9, Nat.mul_one] at h1
  obtain ⟨s, hc, hs, _⟩ := DataW.trod_string Tryz.underlying9 h1
  have h2 : (xs.map (·.1))[k]? = some (DataW.lit (.string s.data.toList)) := by rw [List.getElem?_map, hxk, hs]; rfl
  have h3 : Rows.laid_trove_object_words = DataW.agg (xs.map (·.1)) := congrArg Prod.fst he
  have hss : s = wrd k := by
    unfold Rows.laid_trove_object_words at h3
    simp only [DataW.agg.injEq] at h3
    rw [← h3] at h2
    rcases (by omega : k = 0 ∨ k = 1 ∨ k = 2 ∨ k = 3 ∨ k = 4) with rfl | rfl | rfl | rfl | rfl <;> (simp at h2; exact ba_inj (by first | (rw [← h2]; rfl) | (rw [h2]; rfl)))
  have := congrArg (fun l => l[0]?) hc
  rw [← hss]
  simpa [List.getElem?_take, List.getElem?_drop] using this

theorem gs_of_two {W : World} (h : laidMet Tryz.prog two W) (hm : ∃ m, W.cell? ⟨1, 0, none⟩ = some (.int .i64 m)) (hb : 10 ≤ W.heap.size) : Gs W := by
  have hp := Lib.tabIs_of_head (g := 3) (n := 20) (e := 142) (t := 233) (by kernel_rfl) (by kernel_rfl) (by kernel_rfl) (by kernel_rfl) (by kernel_rfl) (by kernel_rfl) h
  obtain ⟨ps, ⟨g0, t0, cs0, f0, p0, q0, hg0, ht0, hv0, hd0, ⟨g1, t1, cs1, f1, p1, q1, hg1, ht1, hv1, hd1, _, _⟩, _⟩, _⟩ := h
  obtain rfl := Option.some.inj ((show Tryz.prog.globalNamed "trove/object.words" = some 0 by kernel_rfl).symm.trans hg1)
  obtain rfl := Option.some.inj ((show (Tryz.prog.globals[0]?).map (·.type) = some 100 by kernel_rfl).symm.trans ht1)
  exact ⟨fun k hk => by rw [World.var?_cell hg1 hv1 k]; simpa using word_of (by kernel_rfl) (by kernel_rfl) hd1 k hk, hm, hp, hb⟩

theorem most_of {W : World} (h : W.ShapedOpen Tryz.prog) : ∃ m, W.cell? ⟨1, 0, none⟩ = some (.int .i64 m) :=
  cell_of_shapedOpen_int (t := 3) (zero := #[.int .i64 0]) h (of_decide_eq_true (by kernel_rfl)) (by kernel_rfl) rfl (by kernel_rfl) (by kernel_rfl) Tryz.underlying3

theorem big_of {W : World} (h : W.ShapedOpen Tryz.prog) : 10 ≤ W.heap.size := by
  have h0 : (((begin Tryz.prog (fun _ _ => 0) default).world.heap[9]?).bind Obj.row?).isSome = true := by kernel_rfl
  obtain ⟨⟨z, t⟩, hz⟩ := Option.isSome_iff_exists.1 h0
  obtain ⟨cs, hc, _⟩ := h.1 9 z t (of_decide_eq_true (by kernel_rfl)) hz
  have := (Array.getElem?_eq_some_iff.1 hc).1
  omega

theorem gs_of_laid {W : World} {l : List (String × DataW Unit)} (hl : l.filter (fun x => x.1 == "internal/strconv.uint64pow10" || x.1 == "trove/object.words") = two) (h : laidMetH Tryz.prog l W) (hs : W.ShapedOpen Tryz.prog) : Gs W := by
  have h2 := laidMetH.filter (fun x => x.1 == "internal/strconv.uint64pow10" || x.1 == "trove/object.words") h
  rw [hl, MakeChecks.laidMetH_plain _ _ _ (by kernel_rfl)] at h2
  exact gs_of_two h2 (most_of hs) (big_of hs)

theorem order_two : Rows.objectOrderRow.laid.filter (fun x => x.1 == "internal/strconv.uint64pow10" || x.1 == "trove/object.words") = two := by kernel_rfl

theorem blobs_two : Rows.objectBlobsRow.laid.filter (fun x => x.1 == "internal/strconv.uint64pow10" || x.1 == "trove/object.words") = two := by kernel_rfl

end Go.Proofs.YtojgablpjdlegaaGreatDoor

/- A row's wrap that keeps both what is laid and the world's shape. -/
namespace Go.Proofs.YtojgablpjdlegaaGreatDoor

theorem handed_laid_shaped {H : Type} {enc : TypeId × Value → H} {C : Checked} {os : Os} {f : FuncId} {fn : Func} {s : ChangeSpec} {conds : List PathCond} {apart fresh handsOn again : Bool} {a : Assume} {X : World → Array Value → Prop}
    (hX : ∀ (w w' : World) (args : Array Value), w.heap = w'.heap → X w args → X w' args)
    (own : ownKnob C.prog.godebug = none) (started : os.Started) (noInit : C.prog.inits.idxOf? f = none) (hfn : C.prog.funcs[f]? = some fn)
    (witness : ∃ (w : World) (tape : Tape) (i : Input), w.os = os ∧ (w.forCall tape i).Shaped C.prog ∧ i.vars = [] ∧ Input.okWide C.prog (w.forCall tape i) .any w.heap.size f i ∧
      ((s.pre enc C.prog fn conds apart (w.forCall tape i).memory i.args ∧ X (w.forCall tape i).memory i.args) ∧ sizedMet enc C.prog fn (OpenSpec.ofChange s) apart (w.forCall tape i).memory i.args) ∧ a.holds C.prog (lone (Frame.enter C.prog f i.args .normal) [] (w.forCall tape i)))
    (walk : ∀ (W : World) (base : Nat) (args : Array Value) (ds gs : List (DataW H)) (before : List MemPlace),
      (∀ (j : Nat) t v, fn.params[j]? = some t → args[j]? = some v → Value.okWide C.prog W .any base t v) →
      DataW.Whole enc C.prog fn.params.toList s.vars apart W args.toList ds gs before → X W args → W.ShapedOpen C.prog →
      Calls C.prog f args W fun e W' => ∃ v, e = .returned v ∧ s.post enc C.prog fn apart fresh handsOn again W args v W') :
    ReturnsInHanded a C os f .any (fun w args => (s.pre enc C.prog fn conds apart w args ∧ X w args) ∧ sizedMet enc C.prog fn (OpenSpec.ofChange s) apart w args) (s.post enc C.prog fn apart fresh handsOn again) := by
  refine returnsInHanded_of_calls own started noInit witness fun w tape i _ hsh _ hok hpre _ => ?_
  obtain ⟨_, _, _, g, hg, _, _, _, _, hval⟩ := hok
  obtain rfl : g = fn := Option.some.inj (hg.symm.trans hfn)
  obtain ⟨⟨⟨ds, gs, before, hw, _⟩, hx⟩, _⟩ := hpre
  refine (walk (w.forCall tape i) w.heap.size i.args ds gs before hval (DataW.Whole.of_heap (w' := w.forCall tape i) (by rfl) hw) (hX _ _ _ (by rfl) hx) hsh).mono fun e W' hp => ?_
  obtain ⟨v, rfl, hp⟩ := hp
  exact ChangeSpec.post_blind hp

end Go.Proofs.YtojgablpjdlegaaGreatDoor
