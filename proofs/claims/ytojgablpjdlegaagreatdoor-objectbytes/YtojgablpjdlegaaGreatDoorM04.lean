/- WRPar, WLess. -/
import Derived.Test.YtojgablpjdlegaaGreatDoorM03
import Derived.Lib.Bytealg
import Derived.Lib.BytesEntry
/- The document's Parse. -/
namespace Go.Proofs.YtojgablpjdlegaaGreatDoor
open Go.RowKit

theorem set_row {w : World} {b t n : Nat} {f g : Nat → Value} (h : w.rowIs b t n f) (i : Nat) (v : Value) (he : ∀ j, j < n → g j = if j = i then v else f j) : (w.setCell ⟨b, i, none⟩ v).rowIs b t n g := by
  refine (h.set i v).congr (fun j hj => ?_)
  rw [he j hj]

theorem set_fr (w : World) (b i : Nat) (v : Value) : Fr (fun k => k = b) w (w.setCell ⟨b, i, none⟩ v) := Fr.setCell (P := fun k => k = b) (Fr.refl _ w) (p := ⟨b, i, none⟩) rfl v

/-- The bytes behind k signs. -/
def pk (s : List Int) (k j : Nat) : Int :=
  if 2 * j + 1 < k then 16 * dg (bt s (2 * j)) + dg (bt s (2 * j + 1)) else if 2 * j < k then dg (bt s (2 * j)) else 0

theorem pk_zero (s : List Int) (j : Nat) : pk s 0 j = 0 := by simp [pk]

theorem pk_step (s : List Int) (k : Nat) : pk s (k + 1) (k / 2) = 16 * pk s k (k / 2) + dg (bt s k) := by
  unfold pk
  rcases Nat.mod_two_eq_zero_or_one k with h | h
  · rw [if_neg (by omega), if_pos (by omega), if_neg (by omega), if_neg (by omega), show 2 * (k / 2) = k by omega]
    omega
  · rw [if_pos (by omega), if_neg (by omega), if_pos (by omega), show 2 * (k / 2) + 1 = k by omega]

theorem pk_other (s : List Int) (k j : Nat) (h : j ≠ k / 2) : pk s (k + 1) j = pk s k j := by
  unfold pk
  by_cases h1 : 2 * j + 1 < k
  · rw [if_pos (by omega), if_pos h1]
  · rw [if_neg (by omega), if_neg h1]
    by_cases h2 : 2 * j < k
    · rw [if_pos (by omega), if_pos h2]
    · rw [if_neg (by omega), if_neg h2]

theorem pk_small (s : List Int) (k : Nat) (h : ∀ i, i < k → isS (bt s i)) : 0 ≤ pk s k (k / 2) ∧ pk s k (k / 2) < 16 := by
  unfold pk
  rw [if_neg (by omega)]
  split
  · exact dg_b _ (h _ (by omega))
  · omega

theorem bt_pr : ∀ (s : List Int) (j : Nat), 2 * j + 1 < s.length → bt (pr s) j = 16 * dg (bt s (2 * j)) + dg (bt s (2 * j + 1))
  | [], j, h => by simp at h
  | [a], j, h => by simp at h
  | a :: b :: r, 0, _ => by simp [pr, bt]
  | a :: b :: r, j + 1, h => by
    have i := bt_pr r j (by simp at h; omega)
    have e1 : bt (pr (a :: b :: r)) (j + 1) = bt (pr r) j := by simp [pr, bt]
    have e2 : bt (a :: b :: r) (2 * (j + 1)) = bt r (2 * j) := by
      rw [show 2 * (j + 1) = 2 * j + 1 + 1 by omega]
      simp [bt]
    have e3 : bt (a :: b :: r) (2 * (j + 1) + 1) = bt r (2 * j + 1) := by
      rw [show 2 * (j + 1) + 1 = 2 * j + 1 + 1 + 1 by omega]
      simp [bt]
    rw [e1, e2, e3, i]

theorem pk_end (s : List Int) (hl : s.length = 40) (j : Nat) (h : j < 20) : pk s 40 j = bt (pr s) j := by
  unfold pk
  rw [if_pos (by omega), bt_pr s j (by omega)]

/-- Cells behind k signs. -/
def pc (s : List Int) (k j : Nat) : Value := .int .u8 (pk s k j)

theorem u8_or (v d : Int) (h0 : 0 ≤ v) (h1 : v < 16) (g0 : 0 ≤ d) (g1 : d < 16) : bits .or .u8 (v * 16) d = 16 * v + d := by
  rw [or_comm']
  have := or_put .u8 8 (by decide) wraps_u8 4 4 d v g0 (by omega) h0 (by omega) (by omega)
  rw [show (2 : Int) ^ 4 = 16 from rfl] at this
  rw [this]
  omega

theorem all_isS (s : List Int) (n : Nat) (hl : s.length = n) : (∀ c ∈ s, isS c) ↔ ∀ i, i < n → isS (bt s i) := by
  constructor
  · intro h i hi
    rw [bt_get (by omega)]
    exact h _ (List.getElem_mem _)
  · intro h c hc
    obtain ⟨i, hi, rfl⟩ := List.mem_iff_getElem.1 hc
    have := h i (by omega)
    rwa [bt_get hi] at this

theorem idv_pr (s : List Int) (hl : s.length = 40) : row (pc s 40) 20 = idv (pr s) := row_congr _ _ _ (fun j hj => by unfold pc cl; rw [pk_end s hl j hj])

/-- The name of noughts. -/
abbrev z20 : List Int := List.replicate 20 0

theorem zc (j : Nat) : cl z20 j = .int .u8 0 := by
  unfold cl bt z20
  rw [List.getD, List.getElem?_replicate]
  split <;> rfl

theorem z_row (w : World) (t : TypeId) : (w.alloc (Obj.cells #[.int .u8 0, .int .u8 0, .int .u8 0, .int .u8 0, .int .u8 0, .int .u8 0, .int .u8 0, .int .u8 0, .int .u8 0, .int .u8 0, .int .u8 0, .int .u8 0, .int .u8 0, .int .u8 0, .int .u8 0, .int .u8 0, .int .u8 0, .int .u8 0, .int .u8 0, .int .u8 0] t)).rowIs w.heap.size t 20 (cl z20) :=
  (rowIs_rep w (Value.int .u8 0) 20 t).congr (fun j _ => (zc j).symm)

/-- The noughts of a new name. -/
abbrev zcs : Array Value := #[.int .u8 0, .int .u8 0, .int .u8 0, .int .u8 0, .int .u8 0, .int .u8 0, .int .u8 0, .int .u8 0, .int .u8 0, .int .u8 0, .int .u8 0, .int .u8 0, .int .u8 0, .int .u8 0, .int .u8 0, .int .u8 0, .int .u8 0, .int .u8 0, .int .u8 0, .int .u8 0]

theorem z_agg : Value.agg zcs = idv z20 := by
  have h : zcs = (vals (cl z20) 20).toArray := by
    rw [vals_congr (cl z20) (fun _ => .int .u8 0) 20 (fun j _ => zc j)]
    rfl
  show Value.agg zcs = Value.agg (vals (cl z20) 20).toArray
  rw [h]

theorem two_z (w : World) (t : TypeId) : ((w.alloc (Obj.cells zcs t)).alloc (Obj.cells zcs t)).rowIs w.heap.size t 20 (cl z20) ∧ ((w.alloc (Obj.cells zcs t)).alloc (Obj.cells zcs t)).rowIs (w.heap.size + 1) t 20 (cl z20) ∧ Below w.heap.size w ((w.alloc (Obj.cells zcs t)).alloc (Obj.cells zcs t)) := by
  refine ⟨(z_row w t).alloc _, ?_, ((Below.refl _ _).alloc (Nat.le_refl _) _).alloc (by simp) _⟩
  have h := z_row (w.alloc (Obj.cells zcs t)) t
  rwa [show (w.alloc (Obj.cells zcs t)).heap.size = w.heap.size + 1 by simp] at h

/-- What Parse answers: the name, and whether there is one. -/
def par (s : List Int) : List Int × Int := if s.length = 40 ∧ ∀ c ∈ s, isS c then (pr s, 0) else (z20, 2)

theorem st_below {w w2 w3 : World} (h : Below w.heap.size w w2) (f : Fr (fun k => k = w.heap.size) w2 w3) : Below w.heap.size w w3 := h.trans (f.below _ h.size (fun i hi e => by omega))

theorem results_two {fn : Func} {p q : Tmp} {ty : TypeId} (h : fn.results = #[.cell p ty, .tmp q]) (tmps : Array Value) {w : World} {b t n : Nat} {f : Nat → Value} {d : TypeDesc} (hp : tmps.getD p undef = .pointer (some ⟨b, 0, none⟩)) (hr : w.rowIs b t n f)
    (hu : Tryz.prog.underlying ty = some d) (hd : d.isRow = true) (hi : (Tryz.prog.info? ty).map (·.size) = some n) : (results fn tmps).run Tryz.prog w = .ok (.tuple #[row f n, tmps.getD q undef]) w := by
  have hl := load_all (P := Tryz.prog) ty d hr hu hd hi
  have hp' : tmps[p]?.getD undef = .pointer (some ⟨b, 0, none⟩) := by simpa using hp
  simp [results, h, hp', asAddr, hl]

set_option maxRecDepth 100000 in
set_option maxHeartbeats 4000000 in
theorem rparse_any (s : ByteArray) (w : World) : Calls Tryz.prog 60 #[.string s] w fun e w' => e = .returned (.tuple #[idv (par (ns s)).1, .int .i64 (par (ns s)).2]) ∧ Below w.heap.size w w' := by
  obtain ⟨r1, r2, hb⟩ := two_z w 26
  have HB : Hid _ := hb
  clear hb
  by_cases hl : s.size = 40
  · have hn : (ns s).length = 40 := by rw [ns_len]; exact hl
    have hd := fun (i : Nat) (hi : i < 40) W => str_at s i (by omega) W
    have hd2 := fun (i : Nat) (hi : i < 40) W => digit_any (bt (ns s) i) (ns_byt s _ (by rw [bt_get (by omega)]; exact List.getElem_mem _)).1 (ns_byt s _ (by rw [bt_get (by omega)]; exact List.getElem_mem _)).2 W
    have HN : Hid ((ns s).length = 40) := hn
    clear hn
    go_enter Tryz.func60, Tryz.ntmps60
    go_wp2_with fail
    generalize hw2 : (w.alloc (Obj.cells zcs 26)).alloc (Obj.cells zcs 26) = w2 at *
    go_loopw [5] (fun i wr => ∃ (k : Nat), k ≤ 40 ∧ i = .int .i64 k ∧ Hid (∀ i, i < k → isS (bt (ns s) i)) ∧ Hid (wr.rowIs (w.heap.size + 1) 26 20 (pc (ns s) k)) ∧ Hid (wr.rowIs w.heap.size 26 20 (cl z20)) ∧ Hid (Below w.heap.size w wr)) (fun i _ => 40 - (intOf i).toNat)
    case atStart => exact ⟨0, by omega, rfl, (fun i hi => by omega), (r2.congr (fun j _ => by rw [zc, pc, pk_zero])), r1, HB⟩
    case round =>
      obtain ⟨k, hk, rfl, hS, hrow, hz, hb⟩ := hrel
      clear r1 r2 HB hw2
      by_cases hlt : k < 40
      · have hix := hd k hlt
        have hdg := hd2 k hlt
        obtain ⟨p0, p1⟩ := pk_small (ns s) k hS.out
        have e1 := pk_step (ns s) k
        have eo := pk_other (ns s) k
        have wq : Int.tdiv (k : Int) 2 = ((k / 2 : Nat) : Int) := by rw [Int.tdiv_eq_ediv_of_nonneg (by omega)]; omega
        have hq : k / 2 < 20 := by omega
        generalize k / 2 = q at *
        have hq2 : (q : Int) < 20 := by omega
        have hq0 : (0 : Int) ≤ (q : Int) := by omega
        have hqw : IntKind.i64.wrap (q : Int) = q := wraps_i64 _ (by omega) (by omega)
        have hck : wr.cell? ⟨w.heap.size + 1, q, none⟩ = some (.int .u8 (pk (ns s) k q)) := hrow.out.cell (i := q) hq
        have hfz := hrow.out.frozen q
        have E1 : Hid (pk (ns s) (k + 1) q = 16 * pk (ns s) k q + dg (bt (ns s) k)) := e1
        have EO : Hid (∀ j, j ≠ q → pk (ns s) (k + 1) j = pk (ns s) k j) := eo
        by_cases hsg : isS (bt (ns s) k)
        · obtain ⟨d0, d1⟩ := dg_b _ hsg
          have ho := u8_or (pk (ns s) k q) (dg (bt (ns s) k)) p0 p1 d0 d1
          rw [if_pos hsg] at hdg
          have HS : Hid (isS (bt (ns s) k)) := hsg
          have HC : Hid (∀ i, i < k + 1 → isS (bt (ns s) i)) := fun i hi => by
            by_cases h : i < k
            · exact hS.out i h
            · rw [show i = k by omega]; exact HS.out
          clear hsg hd hd2 e1 eo hS HS
          generalize pk (ns s) k q = v at *
          generalize dg (bt (ns s) k) = d at *
          generalize bt (ns s) k = c at *
          go_wp2_with (first | (go_at_call 93; refine (hdg _).mono ?_; rintro e w3 ⟨rfl, rfl⟩))
          have w1 : IntKind.u8.wrap d = d := wraps_u8 _ (by omega) (by omega)
          have w2 : IntKind.u8.wrap (v * 16) = v * 16 := wraps_u8 _ (by omega) (by omega)
          go_region_with (first | (go_at_call 93; refine (hdg _).mono ?_; rintro e w3 ⟨rfl, rfl⟩))
          all_goals
            have R3 : Hid ((w3.setCell ⟨w.heap.size + 1, q, none⟩ (.int .u8 (16 * v + d))).rowIs (w.heap.size + 1) 26 20 (pc (ns s) (k + 1))) := set_row hrow.out q _ (fun j _ => by
              unfold pc
              by_cases hj : j = q
              · rw [if_pos hj, hj, E1.out]
              · rw [if_neg hj, EO.out j hj])
            have f3 := set_fr w3 (w.heap.size + 1) q (.int .u8 (16 * v + d))
            have Z3 : Hid ((w3.setCell ⟨w.heap.size + 1, q, none⟩ (.int .u8 (16 * v + d))).rowIs w.heap.size 26 20 (cl z20)) := rowIs_fr hz.out f3 (by omega)
            have B3 : Hid (Below w.heap.size w (w3.setCell ⟨w.heap.size + 1, q, none⟩ (.int .u8 (16 * v + d)))) := hb.out.trans (f3.below _ hb.out.size (fun i hi e => by omega))
            clear f3 hrow hz hb hck hfz hdg hix
            go_wp2_with fail
            go_roundw
            case rel => exact ⟨k + 1, by omega, by go_num, HC, R3, Z3, ⟨B3.out.os, B3.out.tape, B3.out.output, B3.out.size, B3.out.block⟩⟩
            case measure => simp [intOf]; omega
        · have EE : Hid (par (ns s) = (z20, 2)) := if_neg (fun h => hsg ((all_isS (ns s) 40 HN.out).1 h.2 k hlt))
          rw [if_neg hsg] at hdg
          have hz3 := hz.out
          clear hsg hd hd2 e1 eo hS E1 EO hrow hck hfz
          generalize bt (ns s) k = c at *
          have hbd : (Instr.build 26 #[]).run Tryz.prog wr = .ok (idv z20) wr := by rw [← z_agg]; simp [go_sem]
          go_wp2_with (first
            | (go_at_call 93; refine (hdg _).mono ?_; rintro e w3 ⟨rfl, rfl⟩)
            | (refine wpList_st rfl 26 _ _ rfl w.heap.size rfl (cl z20) rfl hz3 size22 (fun j => rfl) ?_; intro w4 h4 f4; clear hz3))
          refine bodyPost_ret (results_two rfl _ rfl h4 Tryz.underlying26 rfl size22) rfl ⟨by rw [EE.out]; rfl, ?_⟩
          exact st_below hb.out f4
      · obtain rfl : k = 40 := by omega
        have EE : Hid (par (ns s) = (pr (ns s), 0)) := if_pos ⟨HN.out, (all_isS (ns s) 40 HN.out).2 hS.out⟩
        have hz3 := hz.out
        have hr3 := hrow.out.congr (g := cl (pr (ns s))) (fun j hj => by unfold pc cl; rw [pk_end _ HN.out j hj])
        clear hd hd2 hrow hS hz
        go_wp2_with (first
          | (refine wpList_ld0 rfl 26 _ rfl (w.heap.size + 1) rfl _ hr3 20 (by omega) Tryz.underlying26 rfl size22 ?_; clear hr3)
          | (refine wpList_st rfl 26 _ _ rfl w.heap.size rfl (cl (pr (ns s))) rfl hz3 size22 (fun j => rfl) ?_; intro w4 h4 f4; clear hz3))
        refine bodyPost_ret (results_two rfl _ rfl h4 Tryz.underlying26 rfl size22) rfl ⟨by rw [EE.out]; rfl, ?_⟩
        exact st_below hb.out f4
  · have e : par (ns s) = (z20, 2) := if_neg (fun h => hl (by rw [← ns_len]; exact h.1))
    rw [e]
    clear e
    go_enter Tryz.func60, Tryz.ntmps60
    go_wp2_with (first
      | (refine wpList_ld0 rfl 26 _ rfl (w.heap.size + 1) rfl _ r2 20 (by omega) Tryz.underlying26 rfl size22 ?_; clear r2)
      | (refine wpList_st rfl 26 _ _ rfl w.heap.size rfl (cl z20) rfl r1 size22 (fun j => rfl) ?_; intro w3 h3 f3; clear r1))
    refine bodyPost_ret (results_two rfl _ rfl h3 Tryz.underlying26 rfl size22) rfl ⟨rfl, ?_⟩
    exact st_below HB.out f3

end Go.Proofs.YtojgablpjdlegaaGreatDoor

/- bytes.Compare, Less. -/
namespace Go.Proofs.YtojgablpjdlegaaGreatDoor
open Go.RowKit

theorem ofNat_lt (a b : Int) (h : 0 ≤ a ∧ a < 256) (g : 0 ≤ b ∧ b < 256) : (UInt8.ofNat a.toNat < UInt8.ofNat b.toNat) ↔ a < b := by
  rw [UInt8.lt_iff_toNat_lt, UInt8.toNat_ofNat', UInt8.toNat_ofNat']
  omega

theorem cmp_ltl : ∀ x y : List Int, (∀ b ∈ x, 0 ≤ b ∧ b < 256) → (∀ b ∈ y, 0 ≤ b ∧ b < 256) → decide (Lib.compareBytes (x.map fun n => UInt8.ofNat n.toNat) (y.map fun n => UInt8.ofNat n.toNat) < 0) = ltl x y
  | [], [], _, _ => rfl
  | [], _ :: _, _, _ => rfl
  | _ :: _, [], _, _ => rfl
  | a :: r, b :: s, h, g => by
    have ha := h a (by simp)
    have hb := g b (by simp)
    have i := cmp_ltl r s (fun c hc => h c (by simp [hc])) (fun c hc => g c (by simp [hc]))
    simp only [List.map_cons, Lib.compareBytes, ltl, ofNat_lt a b ha hb, ofNat_lt b a hb ha]
    by_cases h1 : a < b
    · rw [if_pos h1, if_pos h1]; rfl
    · rw [if_neg h1, if_neg h1]
      by_cases h2 : b < a
      · rw [if_pos h2, if_pos h2]; rfl
      · rw [if_neg h2, if_neg h2]; exact i

theorem Rd.bytes {w : World} {ao : Option Addr} {n c : Nat} {xs : List Int} (h : Rd w ao n c xs) : (Extern.Bytes.bytesOf (.slice ao n c)).run Tryz.prog w = .ok (strOfNums xs) w := by
  cases ao with
  | none =>
    obtain ⟨rfl, rfl⟩ := h.nul rfl
    have hx : xs = [] := List.eq_nil_of_length_eq_zero h.len
    subst hx
    rfl
  | some ad =>
    have hr := Lib.run_loadBytesX (P := Tryz.prog) w xs ad .empty (fun j x hx => by
      have hj := (List.getElem?_eq_some_iff.1 hx).1
      have hl := h.len
      rw [h.cells ad rfl j (by omega), List.getD, hx]
      rfl)
    rw [h.len] at hr
    show (Extern.Bytes.loadBytes ad n .empty).run Tryz.prog w = _
    rw [hr]
    congr 1
    apply ByteArray.ext
    simp [strOfNums, Lib.bytesOf, ByteArray.empty, ByteArray.emptyWithCapacity]
    rfl

theorem Rd.drew {w : World} {ao : Option Addr} {n c : Nat} {xs : List Int} (h : Rd w ao n c xs) : Rd w.drew ao n c xs := ⟨h.len, h.le, h.nul, h.cells, h.byt⟩

theorem run_compare {w : World} {ao bo : Option Addr} {n c m d : Nat} {xs ys : List Int} (h : Rd w ao n c xs) (g : Rd w bo m d ys) :
    (Extern.BytealgCompare.compare #[.slice ao n c, .slice bo m d]).run Tryz.prog w = .ok (.int .i64 (Lib.compareBytes (xs.map fun n => UInt8.ofNat n.toNat) (ys.map fun n => UInt8.ofNat n.toNat))) w := by
  change Sem.run Tryz.prog (do pure (goInt (Extern.BytealgCompare.cmp (← Extern.Bytes.bytesOf (.slice ao n c)) (← Extern.Bytes.bytesOf (.slice bo m d))))) w = _
  simp only [Sem.run_bind, h.bytes, g.bytes, Sem.run_pure, Result.andThen]
  rw [Lib.cmp_eq]
  rfl

set_option maxRecDepth 100000 in
theorem compare_any {w : World} {ao bo : Option Addr} {n c m d : Nat} {xs ys : List Int} (h : Rd w ao n c xs) (g : Rd w bo m d ys) :
    Calls Tryz.prog 238 #[.slice ao n c, .slice bo m d] w fun e w' => e = .returned (.int .i64 (Lib.compareBytes (xs.map fun n => UInt8.ofNat n.toNat) (ys.map fun n => UInt8.ofNat n.toNat))) ∧ w' = w := by
  have hr := run_compare h g
  generalize Lib.compareBytes (xs.map fun n => UInt8.ofNat n.toNat) (ys.map fun n => UInt8.ofNat n.toNat) = v at *
  go_enter Tryz.func238, Tryz.ntmps238
  go_wp2
  rw [run_callFunc_extern Tryz.func239 (by kernel_rfl) (by kernel_rfl) (by kernel_rfl) (e := Extern.BytealgCompare.compare) (by kernel_rfl), hr]
  simp only [Result.andThen]
  rw [Oper.upon_value]
  go_wp2
  go_ret
  exact ⟨rfl, rfl⟩

theorem id_rd {w : World} {b t : Nat} {x : List Int} (hx : IsId x) (h : w.rowIs b t 20 (cl x)) : Rd w (some ⟨b, 0, none⟩) 20 20 x := Rd.ofRow h hx.1 hx.2

set_option maxRecDepth 100000 in
theorem less_any (x y : List Int) (hx : IsId x) (hy : IsId y) (w : World) : Calls Tryz.prog 237 #[idv x, idv y] w fun e w' => e = .returned (.bool (ltl x y)) ∧ Below w.heap.size w w' := by
  have B : Hid (Below w.heap.size w ((w.alloc (.cells (vals (cl x) 20).toArray 27)).alloc (.cells (vals (cl y) 20).toArray 27))) := ((Below.refl _ _).alloc (Nat.le_refl _) _).alloc (by simp) _
  have r1 := id_rd hx ((rowIs_vals w (cl x) 20 27).alloc (.cells (vals (cl y) 20).toArray 27))
  have r2 := rowIs_vals (w.alloc (.cells (vals (cl x) 20).toArray 27)) (cl y) 20 27
  rw [show (w.alloc (.cells (vals (cl x) 20).toArray 27)).heap.size = w.heap.size + 1 by simp] at r2
  have hc := compare_any r1.drew (id_rd hy r2).drew
  have hl := cmp_ltl x y hx.2 hy.2
  generalize Lib.compareBytes (x.map fun n => UInt8.ofNat n.toNat) (y.map fun n => UInt8.ofNat n.toNat) = v at *
  rw [← hl]
  clear r1 r2 hl
  go_enter Tryz.func237, Tryz.ntmps237
  go_wp2_with fail
  go_region_with (go_at_call 238; refine hc.mono ?_; rintro e w2 ⟨rfl, rfl⟩)
  all_goals
    simp only [List.getElem_toArray, List.getElem_cons_zero, List.getElem_cons_succ, Act.put, List.setIfInBounds_toArray, List.set_cons_zero, List.set_cons_succ]
    go_wp2_with fail
    go_ret
    exact ⟨rfl, ⟨B.out.os, B.out.tape, B.out.output, B.out.size, B.out.block⟩⟩

end Go.Proofs.YtojgablpjdlegaaGreatDoor
