/- LOrdr, ObW, Wrap. -/
import Derived.Test.YtojgablpjdlegaaGreatDoorM20
import Derived.Test.YtojgablpjdlegaaGreatDoorRows
import Derived.Test.YtojgablpjdlegaaGreatDoorM19
import Derived.LaidMore
import Derived.LaidSub
import Derived.OpenShut
import Derived.Shelf.Vars
import Derived.HandedShaped
/- ObjectOrder, whatever comes in. -/
namespace Go.Proofs.YtojgablpjdlegaaGreatDoor
open Go.RowKit

set_option maxRecDepth 100000 in
set_option maxHeartbeats 4000000 in
theorem order_law (s t u : ByteArray) (b3 b4 b5 : Bool) (w : World) (hg : Gs w) :
    Calls Tryz.prog 7 #[.string s, .string t, .string u, .bool b3, .bool b4, .bool b5] w fun e w' => e = .returned (.bool true) ∧ Below w.heap.size w w' := by
  have HK : Hid (Calls Tryz.prog 9 #[] w fun e w' => e = .returned (.bool true) ∧ Below w.heap.size w w') := known_yes w hg
  by_cases h1 : 100 < s.size
  · have d1 : decide (100 < s.size) = true := by simp [h1]
    have d2 : decide ((100 : Int) < s.size) = true := by simp; omega
    clear h1 hg
    go_enter Tryz.func7, Tryz.ntmps7
    go_wp2_with fail
    refine (show Calls Tryz.prog 9 #[] w _ from HK.out).mono ?_
    rintro e w1 ⟨rfl, b1⟩
    have HB : Hid (Below w.heap.size w w1) := b1
    clear b1
    go_wp2_with fail
    go_ret
    exact ⟨rfl, HB.out⟩
  by_cases h2 : 100 < t.size
  · have d1 : decide (100 < s.size) = false := by simp; omega
    have d2 : decide ((100 : Int) < s.size) = false := by simp; omega
    have d3 : decide (100 < t.size) = true := by simp [h2]
    have d4 : decide ((100 : Int) < t.size) = true := by simp; omega
    clear h1 h2 hg
    go_enter Tryz.func7, Tryz.ntmps7
    go_wp2_with fail
    refine (show Calls Tryz.prog 9 #[] w _ from HK.out).mono ?_
    rintro e w1 ⟨rfl, b1⟩
    have HB : Hid (Below w.heap.size w w1) := b1
    clear b1
    go_wp2_with fail
    go_ret
    exact ⟨rfl, HB.out⟩
  by_cases h3 : 100 < u.size
  · have d1 : decide (100 < s.size) = false := by simp; omega
    have d2 : decide ((100 : Int) < s.size) = false := by simp; omega
    have d3 : decide (100 < t.size) = false := by simp; omega
    have d4 : decide ((100 : Int) < t.size) = false := by simp; omega
    have d5 : decide (100 < u.size) = true := by simp [h3]
    have d6 : decide ((100 : Int) < u.size) = true := by simp; omega
    clear h1 h2 h3 hg
    go_enter Tryz.func7, Tryz.ntmps7
    go_wp2_with fail
    refine (show Calls Tryz.prog 9 #[] w _ from HK.out).mono ?_
    rintro e w1 ⟨rfl, b1⟩
    have HB : Hid (Below w.heap.size w w1) := b1
    clear b1
    go_wp2_with fail
    go_ret
    exact ⟨rfl, HB.out⟩
  exact order_small b3 b4 b5 w hg (by omega) (by omega) (by omega) rfl rfl rfl

end Go.Proofs.YtojgablpjdlegaaGreatDoor

/- The tables, out of what is laid, and of the world's shape. -/
namespace Go.Proofs.YtojgablpjdlegaaGreatDoor
open Go.RowKit

/-- The two tables. -/
abbrev two : List (String × DataW Unit) := [("internal/strconv.uint64pow10", Lib.tabData .u64 Lib.pow10Tab), ("trove/object.words", Rows.laid_trove_object_words)]

theorem word_of {W : World} {t f : Nat} {cs : List Value} {p : List MemPlace} (ht : Tryz.prog.underlying t = some (.array 5 9)) (h9 : Tryz.prog.cellsOf 9 = 1) (hd : DataW.trod (fun _ => ()) Tryz.prog W 0 (fun _ => true) false f t cs = some (Rows.laid_trove_object_words, p)) (k : Nat) (hk : k < 5) : cs[k]? = some (.string (wrd k)) := by
  obtain ⟨xs, m, _, he, _, hxl, hx⟩ := DataW.trod_array ht hd
  have hxk : xs[k]? = some (xs[k]'(by omega)) := List.getElem?_eq_getElem (by omega)
  have h1 := hx k hk
  rw [hxk, h9, Nat.mul_one] at h1
  obtain ⟨s, hc, hs, _⟩ := DataW.trod_string Tryz.underlying9 h1
  have h2 : (xs.map (·.1))[k]? = some (DataW.lit (.string s.data.toList)) := by rw [List.getElem?_map, hxk, hs]; rfl
  have h3 : Rows.laid_trove_object_words = DataW.agg (xs.map (·.1)) := congrArg Prod.fst he
  have hss : s = wrd k := by
    unfold Rows.laid_trove_object_words at h3
    simp only [DataW.agg.injEq] at h3
    rw [← h3] at h2
    rcases (by omega : k = 0 ∨ k = 1 ∨ k = 2 ∨ k = 3 ∨ k = 4) with rfl | rfl | rfl | rfl | rfl <;> (simp at h2; exact ba_inj (by first | (rw [← h2]; rfl) | (rw [h2]; rfl)))
  have := congrArg (fun l => l[0]?) hc
  rw [← hss]
  simpa [List.getElem?_take, List.getElem?_drop] using this

theorem gs_of_two {W : World} (h : laidMet Tryz.prog two W) (hm : ∃ m, W.cell? ⟨1, 0, none⟩ = some (.int .i64 m)) (hb : 10 ≤ W.heap.size) : Gs W := by
  have hp := Lib.tabIs_of_head (g := 3) (n := 20) (e := 142) (t := 233) (by kernel_rfl) (by kernel_rfl) (by kernel_rfl) (by kernel_rfl) (by kernel_rfl) (by kernel_rfl) h
  obtain ⟨ps, ⟨g0, t0, cs0, f0, p0, q0, hg0, ht0, hv0, hd0, ⟨g1, t1, cs1, f1, p1, q1, hg1, ht1, hv1, hd1, _, _⟩, _⟩, _⟩ := h
  obtain rfl := Option.some.inj ((show Tryz.prog.globalNamed "trove/object.words" = some 0 by kernel_rfl).symm.trans hg1)
  obtain rfl := Option.some.inj ((show (Tryz.prog.globals[0]?).map (·.type) = some 100 by kernel_rfl).symm.trans ht1)
  exact ⟨fun k hk => by rw [World.var?_cell hg1 hv1 k]; simpa using word_of (by kernel_rfl) (by kernel_rfl) hd1 k hk, hm, hp, hb⟩

theorem most_of {W : World} (h : W.ShapedOpen Tryz.prog) : ∃ m, W.cell? ⟨1, 0, none⟩ = some (.int .i64 m) :=
  cell_of_shapedOpen_int (t := 3) (zero := #[.int .i64 0]) h (of_decide_eq_true (by kernel_rfl)) (by kernel_rfl) rfl (by kernel_rfl) (by kernel_rfl) Tryz.underlying3

theorem big_of {W : World} (h : W.ShapedOpen Tryz.prog) : 10 ≤ W.heap.size := by
  have h0 : (((begin Tryz.prog (fun _ _ => 0) default).world.heap[9]?).bind Obj.row?).isSome = true := by kernel_rfl
  obtain ⟨⟨z, t⟩, hz⟩ := Option.isSome_iff_exists.1 h0
  obtain ⟨cs, hc, _⟩ := h.1 9 z t (of_decide_eq_true (by kernel_rfl)) hz
  have := (Array.getElem?_eq_some_iff.1 hc).1
  omega

theorem gs_of_laid {W : World} {l : List (String × DataW Unit)} (hl : l.filter (fun x => x.1 == "internal/strconv.uint64pow10" || x.1 == "trove/object.words") = two) (h : laidMetH Tryz.prog l W) (hs : W.ShapedOpen Tryz.prog) : Gs W := by
  have h2 := laidMetH.filter (fun x => x.1 == "internal/strconv.uint64pow10" || x.1 == "trove/object.words") h
  rw [hl, MakeChecks.laidMetH_plain _ _ _ (by kernel_rfl)] at h2
  exact gs_of_two h2 (most_of hs) (big_of hs)

theorem order_two : Rows.objectOrderRow.laid.filter (fun x => x.1 == "internal/strconv.uint64pow10" || x.1 == "trove/object.words") = two := by kernel_rfl

end Go.Proofs.YtojgablpjdlegaaGreatDoor

/- A row's wrap that keeps both what is laid and the world's shape. -/
namespace Go.Proofs.YtojgablpjdlegaaGreatDoor

theorem handed_laid_shaped {H : Type} {enc : TypeId × Value → H} {C : Checked} {os : Os} {f : FuncId} {fn : Func} {s : ChangeSpec} {conds : List PathCond} {apart fresh handsOn again : Bool} {a : Assume} {X : World → Array Value → Prop}
    (hX : ∀ (w w' : World) (args : Array Value), w.heap = w'.heap → X w args → X w' args)
    (own : ownKnob C.prog.godebug = none) (started : os.Started) (noInit : C.prog.inits.idxOf? f = none) (hfn : C.prog.funcs[f]? = some fn)
    (witness : ∃ (w : World) (tape : Tape) (i : Input), w.os = os ∧ (w.forCall tape i).Shaped C.prog ∧ i.vars = [] ∧ Input.okWide C.prog (w.forCall tape i) .any w.heap.size f i ∧
      ((s.pre enc C.prog fn conds apart (w.forCall tape i).memory i.args ∧ X (w.forCall tape i).memory i.args) ∧ sizedMet enc C.prog fn (OpenSpec.ofChange s) apart (w.forCall tape i).memory i.args) ∧ a.holds C.prog (lone (Frame.enter C.prog f i.args .normal) [] (w.forCall tape i)))
    (walk : ∀ (W : World) (base : Nat) (args : Array Value) (ds gs : List (DataW H)) (before : List MemPlace),
      (∀ (j : Nat) t v, fn.params[j]? = some t → args[j]? = some v → Value.okWide C.prog W .any base t v) →
      DataW.Whole enc C.prog fn.params.toList s.vars apart W args.toList ds gs before → X W args → W.ShapedOpen C.prog →
      Calls C.prog f args W fun e W' => ∃ v, e = .returned v ∧ s.post enc C.prog fn apart fresh handsOn again W args v W') :
    ReturnsInHanded a C os f .any (fun w args => (s.pre enc C.prog fn conds apart w args ∧ X w args) ∧ sizedMet enc C.prog fn (OpenSpec.ofChange s) apart w args) (s.post enc C.prog fn apart fresh handsOn again) := by
  refine returnsInHanded_of_calls own started noInit witness fun w tape i _ hsh _ hok hpre _ => ?_
  obtain ⟨_, _, _, g, hg, _, _, _, _, hval⟩ := hok
  obtain rfl : g = fn := Option.some.inj (hg.symm.trans hfn)
  obtain ⟨⟨⟨ds, gs, before, hw, _⟩, hx⟩, _⟩ := hpre
  refine (walk (w.forCall tape i) w.heap.size i.args ds gs before hval (DataW.Whole.of_heap (w' := w.forCall tape i) (by rfl) hw) (hX _ _ _ (by rfl) hx) hsh).mono fun e W' hp => ?_
  obtain ⟨v, rfl, hp⟩ := hp
  exact ChangeSpec.post_blind hp

end Go.Proofs.YtojgablpjdlegaaGreatDoor
