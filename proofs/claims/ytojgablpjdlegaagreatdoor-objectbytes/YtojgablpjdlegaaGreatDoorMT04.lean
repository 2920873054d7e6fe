/- TrF, TrG, TrH. -/
import Derived.Test.YtojgablpjdlegaaGreatDoorMT03
import Derived.Test.YtojgablpjdlegaaGreatDoorMT00
import Derived.Test.YtojgablpjdlegaaGreatDoorMC08
import Derived.Test.YtojgablpjdlegaaGreatDoorMC06
import Derived.Lib.LazyBuf
/- Entries written: what comes, and the steps of it. -/
namespace Go.Proofs.YtojgablpjdlegaaGreatDoor
open Go.RowKit Go.Shelf

/-- The text ahead of an entry's name of twenty bytes. -/
def hd (e : En) : List UInt8 := oct e.m ++ [32] ++ e.nm ++ [0]

/-- An entry's bytes. -/
def sd1 (e : En) : List Int := tn (hd e) ++ e.id

/-- Entries' bytes. -/
def sdL (l : List En) : List Int := l.flatMap sd1

theorem oct_len (m : Int) : (oct m).length ≤ 24 := by
  have := (ocf_len 22 m.natAbs).2
  unfold oct
  split <;> simp <;> omega

theorem nm_len {l : List UInt8} (h : nmB l = true) : l.length ≤ 100 := by
  unfold nmB at h
  simp only [Bool.and_eq_true, decide_eq_true_eq] at h
  exact h.2.1

theorem hd_len {e : En} (h : eB e = true) : (hd e).length ≤ 126 := by
  unfold eB at h
  rw [Bool.and_eq_true] at h
  have := nm_len h.2
  have := oct_len e.m
  unfold hd
  simp
  omega

theorem sd1_len {e : En} (h : eB e = true) (hi : IsId e.id) : (sd1 e).length ≤ 146 := by
  have := hd_len h
  unfold sd1
  rw [List.length_append, tn_len, hi.1]
  omega

theorem sdL_snoc (l : List En) (e : En) : sdL (l ++ [e]) = sdL l ++ sd1 e := by simp [sdL]

theorem sdL_len (l : List En) (h : ∀ e ∈ l, eB e = true ∧ IsId e.id) : (sdL l).length ≤ 146 * l.length := by
  induction l with
  | nil => simp [sdL]
  | cons a l ih =>
    have h1 := h a (by simp)
    have h2 := sd1_len h1.1 h1.2
    have h3 := ih (fun e he => h e (by simp [he]))
    have : sdL (a :: l) = sd1 a ++ sdL l := by simp [sdL]
    rw [this, List.length_append, List.length_cons]
    omega

theorem sd1_byt (e : En) (hi : IsId e.id) : ∀ x ∈ sd1 e, 0 ≤ x ∧ x < 256 := by
  intro x hx
  unfold sd1 at hx
  rcases List.mem_append.1 hx with h | h
  · exact tn_byt _ x h
  · exact hi.2 x h

theorem sdL_byt (l : List En) (h : ∀ e ∈ l, IsId e.id) : ∀ x ∈ sdL l, 0 ≤ x ∧ x < 256 := by
  intro x hx
  unfold sdL at hx
  obtain ⟨e, he, hx⟩ := List.mem_flatMap.1 hx
  exact sd1_byt e (h e he) x hx

/-- Which fault entries have. -/
noncomputable def tE (d : Array En) : Int := if d.size ≤ 512 ∧ d.toList.all eB = true then (if riB d = true then (if (sdL d.toList).length ≤ 16384 then 0 else 5) else 2) else 1

/-- Entries' bytes, if they may be. -/
noncomputable def tX (d : Array En) : List Int := if tE d = 0 then sdL d.toList else []

/-- Bytes of one's own lie not in an entry's block. -/
theorem own_ent {w : World} {base n b : Nat} {v : Value} {xs : List Value} {f : Nat → Value} (h : w.ownsRow base 5 1 v n xs) (hr : w.rowIs b 79 22 f) : ∀ k, v.ownBlock = some k → k ≠ b := by
  rintro k hk rfl
  rcases h.2 with ⟨rfl, _⟩ | ⟨g, cap, cur, rfl, _, hh, _⟩
  · cases hk
  · obtain ⟨c, hc, _⟩ := hr
    have : g = k := by simpa [Value.ownBlock] using hk
    subst this
    rw [hh] at hc
    cases hc

theorem y_add {S : World → Prop} {ops : Array Oper} {op : Oper} {a : Act} (hw : Region.wanted op (yielded ops a.tmps) = true) (x y : Operand) (t : TypeId) (ho : op.op = .binOp .add 9 x y t) (l m : List UInt8) (hx : a.eval x = sv l) (hy : a.eval y = sv m) (h : l.length + m.length ≤ 9223372036854775807) : YieldsIf Tryz.prog ops S op (sv (l ++ m)) a :=
  .inl ⟨hw, fun w _ => by
    have q : (9223372036854775807 < l.length + m.length) = False := by simp; omega
    have e := cat_sv l m
    unfold execOp
    simp only [ho, hx, hy]
    simp [go_sem, q, e]⟩

theorem step_appS {w : World} {ops : Array Oper} {o : Oper} {a : Act} {K : Act → World → Prop} {Q : Exit → Act → World → Prop} {E : Prop} (hw : Region.wanted o (yielded ops a.tmps) = true) (s x : Operand)
    (ho : o.op = .call { callee := .builtin .append, args := #[s, x], argTypes := #[22, 9] })
    (base n : Nat) (v : Value) (xs : List Int) (l : List UInt8) (hs : a.eval s = v) (hx : a.eval x = sv l) (hown : w.ownsRow base 5 1 v n (xs.map (Value.int .u8))) (hn : n + l.length ≤ 100000000) (hbase : base ≤ w.heap.size)
    (h : ∀ v' w', w'.ownsRow base 5 1 v' (n + l.length) ((xs ++ tn l).map (Value.int .u8)) → w.grownBy w' v.ownBlock → K (a.put o.dst v') w') : if Region.wanted o (yielded ops a.tmps) = true then Oper.wp Tryz.prog o a w K Q else E := by
  rw [if_pos hw]
  obtain ⟨v', w', hrun, ho', hg⟩ := run_appS base o.type v n xs l w hown hn hbase
  unfold Oper.wp
  simp [execOp, ho, resolve, invoke, builtin, hs, hx, hrun, Result.andThen]
  exact h v' w' ho' hg

theorem run_sl27 (b : Nat) (w : World) : (Instr.sliceAt 27 (.pointer (some ⟨b, 2, none⟩)) none none none).run Tryz.prog w = .ok (.slice (some ⟨b, 2, none⟩) 20 20) w := by
  have hz : ∀ w, (sizeOf 5).run Tryz.prog w = .ok 1 w := fun w => by simp [go_sem]
  unfold Instr.sliceAt Instr.slice Instr.sliceBounds
  simp [go_sem, hz]

theorem rd_id {w : World} {b : Nat} {x : En} (h : w.rowIs b 79 22 (ecl x)) (hi : IsId x.id) : Rd w (some ⟨b, 2, none⟩) 20 20 x.id := by
  refine ⟨hi.1, Nat.le_refl _, (fun e => by cases e), fun ad had j hj => ?_, hi.2⟩
  cases had
  rw [Addr.add_lit, h.cell (i := 2 + j) (by omega)]
  unfold ecl ef
  rw [if_neg (by omega), if_neg (by omega), Nat.add_sub_cancel_left]
  rfl

end Go.Proofs.YtojgablpjdlegaaGreatDoor

/- EncodeTree, of any entries. -/
namespace Go.Proofs.YtojgablpjdlegaaGreatDoor
open Go.RowKit Go.Shelf

theorem c65 (vs : Array Value) (w : World) : (callFunc 65 vs).run Tryz.prog w = .ok (.enter 65 vs) w := by simp [go_sem]

theorem fr_grown {w w' : World} {o : Option Nat} (h : w.grownBy w' o) : Fr (fun i => o = some i) w w' := ⟨h.os, h.tape, h.output, h.size, fun k hk hn => h.block k hk (fun e => hn e.symm)⟩

theorem own_some {w : World} {base n : Nat} {v : Value} {xs : List Value} (h : w.ownsRow base 5 1 v n xs) (hn : 0 < n) : ∃ g cap, v = .slice (some ⟨g, 0, none⟩) n cap := by
  rcases h.2 with ⟨_, rfl⟩ | ⟨g, cap, cur, rfl, _⟩
  · omega
  · exact ⟨g, cap, rfl⟩

set_option maxRecDepth 100000 in
set_option maxHeartbeats 2000000 in
theorem encTree_long (ao : Option Addr) (n c : Nat) (w : World) (h : 512 < n) :
    Calls Tryz.prog 37 #[.slice ao n c] w fun e w' => e = .returned (.tuple #[nlv, .int .i64 1]) ∧ Below w.heap.size w w' := by
  have d1 : decide ((512 : Int) < (n : Int)) = true := by simp; omega
  have d2 : decide (512 < n) = true := by simp; omega
  clear h
  go_enter Tryz.func37, Tryz.ntmps37
  go_wp2_with fail
  go_ret2
  exact ⟨rfl, Below.refl _ _⟩

set_option maxRecDepth 100000 in
set_option maxHeartbeats 2000000 in
theorem encTree_no (ao : Option Addr) (n c : Nat) (d : Array En) (w : World) (h : Es w (.slice ao n c) d) (ht : Ts w) (hn : n = d.size) (hl : n ≤ 512) (hb : d.toList.all eB = false) :
    Calls Tryz.prog 37 #[.slice ao n c] w fun e w' => e = .returned (.tuple #[nlv, .int .i64 1]) ∧ Below w.heap.size w w' := by
  have d1 : decide ((512 : Int) < (n : Int)) = false := by simp; omega
  have d2 : decide (512 < n) = false := by simp; omega
  have ha := areE_any (.slice ao n c) d w h ht (by omega)
  rw [hb] at ha
  clear h ht hn hl hb
  go_enter Tryz.func37, Tryz.ntmps37
  go_wp2_with fail
  refine ha.mono ?_
  rintro e w1 ⟨rfl, b1⟩
  have HB1 : Hid (Below w.heap.size w w1) := b1
  clear ha b1
  go_wp2_with fail
  go_ret2
  exact ⟨rfl, HB1.out⟩

set_option maxRecDepth 100000 in
set_option maxHeartbeats 2000000 in
theorem encTree_form (ao : Option Addr) (n c : Nat) (d : Array En) (w : World) (h : Es w (.slice ao n c) d) (ht : Ts w) (hn : n = d.size) (hl : n ≤ 512) (hb : d.toList.all eB = true) (hr : riB d = false) :
    Calls Tryz.prog 37 #[.slice ao n c] w fun e w' => e = .returned (.tuple #[nlv, .int .i64 2]) ∧ Below w.heap.size w w' := by
  have d1 : decide ((512 : Int) < (n : Int)) = false := by simp; omega
  have d2 : decide (512 < n) = false := by simp; omega
  have ha := areE_any (.slice ao n c) d w h ht (by omega)
  rw [hb] at ha
  have HRI : Hid (∀ V, Below w.heap.size w V → Calls Tryz.prog 64 #[.slice ao n c] V fun e w' => e = .returned (.bool false) ∧ Below V.heap.size V w') := fun V hV => by
    have := rise_any (.slice ao n c) d V (h.keep hV) (by omega)
    rwa [hr] at this
  clear h ht hn hl hb hr
  go_enter Tryz.func37, Tryz.ntmps37
  go_wp2_with fail
  refine ha.mono ?_
  rintro e w1 ⟨rfl, b1⟩
  have HB1 : Hid (Below w.heap.size w w1) := b1
  have hri := HRI.out w1 b1
  clear ha b1
  go_wp2_with fail
  refine hri.mono ?_
  rintro e w2 ⟨rfl, b2⟩
  have HB2 : Hid (Below w.heap.size w w2) := HB1.out.trans (b2.mono HB1.out.size)
  clear hri b2
  go_wp2_with fail
  go_ret2
  exact ⟨rfl, HB2.out⟩

set_option maxRecDepth 100000 in
set_option maxHeartbeats 8000000 in
theorem encTree_go (ao : Option Addr) (n c : Nat) (d : Array En) (w : World) (h : Es w (.slice ao n c) d) (ht : Ts w) (hn : n = d.size) (hl : n ≤ 512) (hb : d.toList.all eB = true) (hr : riB d = true) :
    Calls Tryz.prog 37 #[.slice ao n c] w fun e w' => ∃ ao' n' c', e = .returned (.tuple #[.slice ao' n' c', .int .i64 (if (sdL d.toList).length ≤ 16384 then 0 else 5)]) ∧ Rd w' ao' n' c' (if (sdL d.toList).length ≤ 16384 then sdL d.toList else []) ∧ Below w.heap.size w w' := by
  have d1 : decide ((512 : Int) < (n : Int)) = false := by simp; omega
  have d2 : decide (512 < n) = false := by simp; omega
  have hz := zero79
  have ha := areE_any (.slice ao n c) d w h ht (by omega)
  rw [hb] at ha
  have HRI : Hid (∀ V, Below w.heap.size w V → Calls Tryz.prog 64 #[.slice ao n c] V fun e w' => e = .returned (.bool true) ∧ Below V.heap.size V w') := fun V hV => by
    have := rise_any (.slice ao n c) d V (h.keep hV) (by omega)
    rwa [hr] at this
  have HP : Hid (0 < n → ∃ b off, ao = some ⟨b, off, none⟩ ∧ ∀ W, Below w.heap.size w W → ∀ i, i < n → (loadVar 79 ⟨b, off + i * 22, none⟩).run Tryz.prog W = .ok (eV d[i]!) W) := fun h0 => by
    obtain ⟨b, off, h1, h2⟩ := h.plain (by omega)
    exact ⟨b, off, h1, fun W hW i hi => h2 W hW i (by omega)⟩
  have HOK : Hid (∀ i, i < n → okE d[i]! ∧ eB d[i]! = true) := fun i hi => ⟨h.ok i (by omega), by
    rw [getElem!_pos d i (by omega)]
    exact List.all_eq_true.1 hb _ (by simp)⟩
  have HN : Hid (n = d.size ∧ n ≤ 512) := ⟨hn, hl⟩
  have HT : Hid (∀ V, Below w.heap.size w V → Ts V) := fun V hV => ht.keep hV
  have HALL : Hid (∀ k, ∀ e ∈ d.toList.take k, eB e = true ∧ IsId e.id) := fun k e he => by
    have he2 := List.mem_of_mem_take he
    refine ⟨List.all_eq_true.1 hb e he2, ?_⟩
    obtain ⟨i, hi, rfl⟩ := List.mem_iff_getElem.1 he2
    have hi2 : i < d.size := by simpa using hi
    have := (h.ok i hi2).id
    rw [getElem!_pos d i hi2] at this
    exact this
  obtain ⟨E, hE⟩ : ∃ E : Int, E = if (sdL d.toList).length ≤ 16384 then 0 else 5 := ⟨_, rfl⟩
  obtain ⟨X, hX⟩ : ∃ X : List Int, X = if (sdL d.toList).length ≤ 16384 then sdL d.toList else [] := ⟨_, rfl⟩
  have HEX : Hid ((E = if (sdL d.toList).length ≤ 16384 then 0 else 5) ∧ X = if (sdL d.toList).length ≤ 16384 then sdL d.toList else []) := ⟨hE, hX⟩
  rw [← hE, ← hX]
  clear h ht hn hl hb hr hE hX
  go_enter Tryz.func37, Tryz.ntmps37
  go_wp2_with fail
  refine ha.mono ?_
  rintro e w1 ⟨rfl, b1⟩
  have HB1 : Hid (Below w.heap.size w w1) := b1
  have hri := HRI.out w1 b1
  clear ha b1
  go_wp2_with fail
  refine hri.mono ?_
  rintro e w2 ⟨rfl, b2⟩
  have HB2 : Hid (Below w.heap.size w w2) := HB1.out.trans (b2.mono HB1.out.size)
  clear hri b2
  go_wp2_with fail
  go_loopw [22, 4, 6] (fun s22 s4 s6 wr => ∃ k L : Nat, s22 = .int .i64 (k : Int) ∧ k ≤ n ∧ Hid (L = (sdL (d.toList.take k)).length) ∧ Hid (wr.ownsRow w.heap.size 5 1 s4 L ((sdL (d.toList.take k)).map (Value.int .u8))) ∧ Hid (Below w.heap.size w wr)) (fun s22 _ _ _ => n - (intOf s22).toNat)
  case atStart => exact ⟨0, 0, rfl, Nat.zero_le _, rfl, World.ownsRow_nil _ _ _ _, HB2⟩
  case round =>
    obtain ⟨k, L, rfl, hkn, HLN, HO, HB⟩ := hrel
    by_cases hlt : k < n
    · have hq : (k : Int) < (n : Int) := by omega
      have d3 : decide ((k : Int) < (n : Int)) = true := by simp; omega
      have hwk : IntKind.i64.wrap ((k : Int) + 1) = (k : Int) + 1 := by have := HN.out; rw [IntKind.wrap_i64]; omega
      obtain ⟨b, off, rfl, hld0⟩ := HP.out (by omega)
      have hld := hld0 wr HB.out k hlt
      have hok := HOK.out k hlt
      obtain ⟨x, hx⟩ : ∃ x, d[k]! = x := ⟨_, rfl⟩
      rw [hx] at hld hok
      have HX : Hid (d[k]! = x ∧ okE x ∧ eB x = true) := ⟨hx, hok⟩
      have HLT : Hid (k < n) := hlt
      have HNB : Hid (Below wr.heap.size wr (wr.alloc (Obj.cells (vals (ef 0 ⟨#[]⟩ z20) 22).toArray 79))) := new_below _ _
      have HLL : Hid (L ≤ 146 * 512) := by
        show L ≤ _
        rw [HLN.out]
        have h1 := sdL_len (d.toList.take k) (HALL.out k)
        have h2 : (d.toList.take k).length ≤ 512 := by rw [List.length_take]; have := HN.out; omega
        omega
      have HTK : Hid (sdL (d.toList.take (k + 1)) = sdL (d.toList.take k) ++ sd1 x) := by
        show _ = _
        have hk2 : k < d.toList.length := by have := HN.out; simp; omega
        have hk3 : k < d.size := by have := HN.out; omega
        rw [List.take_succ_eq_append_getElem hk2, sdL_snoc]
        rw [getElem!_pos d k hk3] at hx
        rw [show d.toList[k] = x by rw [← hx]; simp]
      clear hld0 hx hok hlt hkn
      go_wp2_with (first
        | (refine wpList_ldv rfl 79 _ rfl ⟨b, off + k * 22, none⟩ rfl (eV x) hld ?_; clear hld)
        | (refine wpList_st rfl 79 _ _ rfl wr.heap.size rfl (ecl x) rfl (rowIs_vals _ _ _ _) size79 (ecl_one x) ?_; intro w3 r3 f3; have R3 : Hid (w3.rowIs wr.heap.size 79 22 (ecl x)) := r3; have F3 : Hid (Below wr.heap.size wr w3) := HNB.out.trans (f3.below _ HNB.out.size (fun i hi e => by omega)); clear r3 f3))
      have HO3 : Hid (w3.ownsRow w.heap.size 5 1 u4 L ((sdL (d.toList.take k)).map (Value.int .u8))) := own_keep HO.out F3.out
      have HB3 : Hid (Below w.heap.size w w3) := HB.out.trans (F3.out.mono HB.out.size)
      have HNE : Hid (∀ i, u4.ownBlock = some i → i ≠ wr.heap.size) := own_ent HO3.out R3.out
      have HSC : Hid (∀ V, Fr (fun i => u4.ownBlock = some i) w3 V → V.rowIs wr.heap.size 79 22 (ecl x)) := fun V hV => rowIs_fr R3.out hV (fun e => HNE.out _ e rfl)
      have HDr : Hid (Below w3.heap.size w3 w3.drew) := (Below.refl _ _).drew
      refine wp_region_noPanic ?_
      refine wp_region_held_drew (S := fun V => Fr (fun i => u4.ownBlock = some i) w3 V) (by kernel_rfl) (Fr.refl _ _).drew (fun hHeld => ?_)
      refine wpAnyH_take (i := 0) (oi := ⟨some 26, _, _, _, _, _⟩) (v := ?_) rfl (by kernel_rfl) (by kernel_rfl) (by kernel_rfl) (fun _ _ _ h => h) (Or.inl ⟨by rfl, ?_⟩) hHeld ?_
      rotate_left
      · (intro w' hSw; go_simp; try with_reducible rfl)
      try simp only [Act.put, List.setIfInBounds_toArray, List.set_cons_zero, List.set_cons_succ]
      refine wpAnyH_take (i := 1) (oi := ⟨some 27, _, _, _, _, _⟩) (v := ?_) rfl (by kernel_rfl) (by kernel_rfl) (by kernel_rfl) (fun _ _ _ h => h) (Or.inl ⟨by rfl, ?_⟩) hHeld ?_
      rotate_left
      · (intro w' hSw; go_simp; try with_reducible rfl)
      try simp only [Act.put, List.setIfInBounds_toArray, List.set_cons_zero, List.set_cons_succ]
      refine wpAnyH_take (i := 2) (oi := ⟨some 28, _, _, _, _, _⟩) (v := .int .i64 x.m) rfl (by kernel_rfl) (by kernel_rfl) (by kernel_rfl) (fun _ _ _ h => h) (Or.inl ⟨by rfl, ?_⟩) hHeld ?_
      · (intro w' hSw; have qq : w'.cell? ⟨wr.heap.size, 0, none⟩ = some (.int .i64 x.m) := (HSC.out w' hSw).cell (i := 0) (by omega); go_simp; try with_reducible rfl)
      try simp only [Act.put, List.setIfInBounds_toArray, List.set_cons_zero, List.set_cons_succ]
      refine wpAnyH_take (i := 5) (oi := ⟨some 31, _, _, _, _, _⟩) (v := ?_) rfl (by kernel_rfl) (by kernel_rfl) (by kernel_rfl) (fun _ _ _ h => h) (Or.inl ⟨by rfl, ?_⟩) hHeld ?_
      rotate_left
      · (intro w' hSw; go_simp; try with_reducible rfl)
      try simp only [Act.put, List.setIfInBounds_toArray, List.set_cons_zero, List.set_cons_succ]
      refine wpAnyH_take (i := 6) (oi := ⟨some 32, _, _, _, _, _⟩) (v := sv x.nm) rfl (by kernel_rfl) (by kernel_rfl) (by kernel_rfl) (fun _ _ _ h => h) (Or.inl ⟨by rfl, ?_⟩) hHeld ?_
      · (intro w' hSw; have qq : w'.cell? ⟨wr.heap.size, 1, none⟩ = some (sv x.nm) := (HSC.out w' hSw).cell (i := 1) (by omega); go_simp; try with_reducible rfl)
      try simp only [Act.put, List.setIfInBounds_toArray, List.set_cons_zero, List.set_cons_succ]
      refine wpAnyH_ready (rs := [3]) (by kernel_rfl) (by simp) ?_
      refine AllReadyH.cons (o := ⟨some 29, _, _, _, _, _⟩) rfl (fun K hK => ?_) AllReadyH.nil
      refine step_cl1 (C := fun v w' => v = sv (oct x.m) ∧ Below w3.drew.heap.size w3.drew w') (by rfl) 65 c65 _ _ rfl (.int .i64 x.m) rfl ((octal_any x.m HX.out.2.1.lo HX.out.2.1.hi w3.drew (HT.out _ (HB3.out.trans (HDr.out.mono HB3.out.size))).db).mono (fun e w' ⟨g1, g2⟩ => ⟨_, g1, rfl, g2⟩)) ?_
      rintro v' w4 ⟨rfl, b4⟩
      have HC4 : Hid (Below w3.heap.size w3 w4) := HDr.out.trans (b4.mono HDr.out.size)
      refine hK.out _ _ (Fr.ofBelow HC4.out) (fun hHeld => ?_)
      clear hK K b4
      try simp only [Act.put, List.setIfInBounds_toArray, List.set_cons_zero, List.set_cons_succ]
      have hon : (oct x.m).length ≤ 24 := oct_len x.m
      have hnn : x.nm.length ≤ 100000 := HX.out.2.1.nm
      refine wpAnyH_take (i := 4) (oi := ⟨some 30, _, _, _, _, _⟩) (v := sv (oct x.m ++ [32])) rfl (by kernel_rfl) (by kernel_rfl) (by kernel_rfl) (fun _ _ _ h => h) (y_add (by rfl) _ _ _ rfl _ _ rfl rfl (by simp; omega)) hHeld ?_
      try simp only [Act.put, List.setIfInBounds_toArray, List.set_cons_zero, List.set_cons_succ]
      refine wpAnyH_take (i := 7) (oi := ⟨some 33, _, _, _, _, _⟩) (v := sv (oct x.m ++ [32] ++ x.nm)) rfl (by kernel_rfl) (by kernel_rfl) (by kernel_rfl) (fun _ _ _ h => h) (y_add (by rfl) _ _ _ rfl _ _ rfl rfl (by simp; omega)) hHeld ?_
      try simp only [Act.put, List.setIfInBounds_toArray, List.set_cons_zero, List.set_cons_succ]
      refine wpAnyH_take (i := 8) (oi := ⟨some 34, _, _, _, _, _⟩) (v := sv (oct x.m ++ [32] ++ x.nm ++ [0])) rfl (by kernel_rfl) (by kernel_rfl) (by kernel_rfl) (fun _ _ _ h => h) (y_add (by rfl) _ _ _ rfl _ _ rfl rfl (by simp; omega)) hHeld ?_
      try simp only [Act.put, List.setIfInBounds_toArray, List.set_cons_zero, List.set_cons_succ]
      have HO4 : Hid (w4.ownsRow w.heap.size 5 1 u4 L ((sdL (d.toList.take k)).map (Value.int .u8))) := own_keep HO3.out HC4.out
      have HB4 : Hid (Below w.heap.size w w4) := HB3.out.trans (HC4.out.mono HB3.out.size)
      refine wpAnyH_ready (rs := [9]) (by kernel_rfl) (by simp) ?_
      refine AllReadyH.cons (o := ⟨some 35, _, _, _, _, _⟩) rfl (fun K hK => ?_) AllReadyH.nil
      refine step_appS (by rfl) _ _ rfl w.heap.size L u4 (sdL (d.toList.take k)) (hd x) rfl rfl HO4.out (by have := HLL.out; have := hd_len HX.out.2.2; omega) HB4.out.size ?_
      intro v5 w5 o5 g5
      have HO5 : Hid (w5.ownsRow w.heap.size 5 1 v5 (L + (hd x).length) ((sdL (d.toList.take k) ++ tn (hd x)).map (Value.int .u8))) := o5
      have HF5 : Hid (Fr (fun i => u4.ownBlock = some i) w3 w5) := (Fr.ofBelow HC4.out).trans (fr_grown g5) (fun _ _ h => h)
      have HB5 : Hid (Below w.heap.size w w5) := HB4.out.grown g5 HB4.out.size (fun j hj => (HO4.out.lt j hj).1)
      refine hK.out _ _ HF5.out (fun hHeld => ?_)
      clear hK K o5 g5 hon hnn
      try simp only [Act.put, List.setIfInBounds_toArray, List.set_cons_zero, List.set_cons_succ]
      refine wpAnyH_take (i := 10) (oi := ⟨some 4, _, _, _, _, _⟩) (v := ?_) rfl (by kernel_rfl) (by kernel_rfl) (by kernel_rfl) (fun _ _ _ h => h) (Or.inl ⟨by rfl, ?_⟩) hHeld ?_
      rotate_left
      · (intro w' hSw; go_simp; try with_reducible rfl)
      try simp only [Act.put, List.setIfInBounds_toArray, List.set_cons_zero, List.set_cons_succ]
      refine wpAnyH_done (by kernel_rfl) ?_ _
      refine NoPanic.normal ?_
      clear hHeld
      have hhl : 0 < (hd x).length := by unfold hd; simp; omega
      obtain ⟨g, cap, hve⟩ := own_some HO5.out (by omega)
      obtain ⟨L2, hL2⟩ : ∃ L2, L2 = L + (hd x).length := ⟨_, rfl⟩
      have HL2 : Hid (L2 = L + (hd x).length) := hL2
      rw [← hL2] at hve
      have HO6 : Hid (w5.ownsRow w.heap.size 5 1 (.slice (some ⟨g, 0, none⟩) L2 cap) L2 ((sdL (d.toList.take k) ++ tn (hd x)).map (Value.int .u8))) := by
        have h := HO5.out
        rw [hve, ← hL2] at h
        exact h
      subst hve
      have HRI5 : Hid (Rd w5 (some ⟨wr.heap.size, 2, none⟩) 20 20 x.id) := rd_id (HSC.out w5 HF5.out) HX.out.2.1.id
      have hsl := run_sl27 wr.heap.size
      have HLIM : Hid (L2 + 20 ≤ 140737488355328) := by
        show _ ≤ _
        have h1 := HLL.out
        have h2 := hd_len HX.out.2.2
        omega
      clear hL2 hhl HSC HNE
      go_wp2_with (refine wpList_append_rd rfl _ _ rfl w.heap.size g L2 cap _ rfl HO6.out (some ⟨wr.heap.size, 2, none⟩) 20 20 x.id rfl HRI5.out HLIM.out HB5.out.size ?_; intro g7 cap7 w7 o7 gr7; have HO7 : Hid (w7.ownsRow w.heap.size 5 1 (.slice (some ⟨g7, 0, none⟩) (L2 + 20) cap7) (L2 + 20) ((sdL (d.toList.take (k + 1))).map (Value.int .u8))) := (by show World.ownsRow _ _ _ _ _ _ _; rw [HTK.out]; unfold sd1; rw [← List.append_assoc]; exact o7); have HB7 : Hid (Below w.heap.size w w7) := HB5.out.grown gr7 HB5.out.size (fun j hj => (HO6.out.lt j hj).1); clear o7 gr7)
      exact ⟨⟨k + 1, L2 + 20, by simp, HLT.out, (by show _ = _; rw [HTK.out, List.length_append, ← HLN.out, HL2.out]; unfold sd1; rw [List.length_append, tn_len, HX.out.2.1.id.1]; omega), HO7, HB7⟩, by simp [intOf]; have := HLT.out; omega⟩
    · obtain rfl : k = n := by omega
      have hq : ¬ (k : Int) < (k : Int) := by omega
      have d3 : decide ((k : Int) < (k : Int)) = false := by simp
      have hft : d.toList.take k = d.toList := List.take_of_length_le (by have := HN.out; simp; omega)
      have HIDS : Hid (∀ e ∈ d.toList, IsId e.id) := fun e he => by
        have h := HALL.out k e
        rw [hft] at h
        exact (h he).2
      have hO := HO.out
      have hLN := HLN.out
      rw [hft] at hO hLN
      obtain ⟨ao2, c2, rfl, rd2, _⟩ := own_rd hO (sdL_byt _ HIDS.out)
      have HRD : Hid (Rd wr ao2 L c2 (sdL d.toList) ∧ L = (sdL d.toList).length) := ⟨rd2, hLN⟩
      clear rd2 hO hLN hft
      by_cases hle : L ≤ 16384
      · have hbd := bounded_ok ao2 L c2 wr hle
        have HEE : Hid (E = 0 ∧ X = sdL d.toList) := by
          have h := HEX.out
          rw [← HRD.out.2, if_pos hle, if_pos hle] at h
          exact h
        clear hle
        go_wp2_with fail
        refine hbd.mono ?_
        rintro e w8 ⟨rfl, hw8⟩
        subst w8
        clear hbd
        go_wp2_with fail
        go_ret2
        rw [HEE.out.1, HEE.out.2]
        exact ⟨_, _, _, rfl, HRD.out.1, HB.out⟩
      · have hbd := bounded_far ao2 L c2 wr (by omega)
        have HEE : Hid (E = 5 ∧ X = []) := by
          have h := HEX.out
          rw [← HRD.out.2, if_neg hle, if_neg hle] at h
          exact h
        clear hle
        go_wp2_with fail
        refine hbd.mono ?_
        rintro e w8 ⟨rfl, hw8⟩
        subst w8
        clear hbd
        go_wp2_with fail
        go_ret2
        rw [HEE.out.1, HEE.out.2]
        exact ⟨_, _, _, rfl, Rd.nil _, HB.out⟩

theorem encTree_any (v : Value) (d : Array En) (w : World) (h : Es w v d) (ht : Ts w) (_hsz : d.size < 100000) :
    Calls Tryz.prog 37 #[v] w fun e w' => ∃ ao n c, e = .returned (.tuple #[.slice ao n c, .int .i64 (tE d)]) ∧ Rd w' ao n c (tX d) ∧ Below w.heap.size w w' := by
  obtain ⟨ao, c, rfl, _⟩ := h.sh
  unfold tX tE
  by_cases h1 : d.size ≤ 512
  · by_cases h2 : d.toList.all eB = true
    · rw [if_pos ⟨h1, h2⟩]
      by_cases h3 : riB d = true
      · rw [if_pos h3]
        refine (encTree_go ao d.size c d w h ht rfl h1 h2 h3).mono ?_
        rintro e w' ⟨a, n, q, g1, g2, g3⟩
        refine ⟨a, n, q, g1, ?_, g3⟩
        by_cases hl : (sdL d.toList).length ≤ 16384
        · rw [if_pos hl, if_pos rfl]; rw [if_pos hl] at g2; exact g2
        · rw [if_neg hl, if_neg (by decide)]; rw [if_neg hl] at g2; exact g2
      · rw [if_neg h3, if_neg (by decide)]
        exact (encTree_form ao d.size c d w h ht rfl h1 h2 (by simpa using h3)).mono (fun e w' ⟨g1, g2⟩ => ⟨none, 0, 0, g1, Rd.nil _, g2⟩)
    · rw [if_neg (fun h => h2 h.2), if_neg (by decide)]
      exact (encTree_no ao d.size c d w h ht rfl h1 (by simpa using h2)).mono (fun e w' ⟨g1, g2⟩ => ⟨none, 0, 0, g1, Rd.nil _, g2⟩)
  · rw [if_neg (fun h => h1 h.1), if_neg (by decide)]
    exact (encTree_long ao d.size c w (by omega)).mono (fun e w' ⟨g1, g2⟩ => ⟨none, 0, 0, g1, Rd.nil _, g2⟩)

end Go.Proofs.YtojgablpjdlegaaGreatDoor

/- An entry read, whatever the bytes. -/
namespace Go.Proofs.YtojgablpjdlegaaGreatDoor
open Go.RowKit Go.Shelf

theorem Ts.below {w w' : World} (h : Ts w) (hb : Below 10 w w') : Ts w' :=
  ⟨h.gs.below hb, fun k hk => by rw [hb.cell (by simp)]; exact h.md k hk, by rw [hb.cell (by simp)]; exact h.db⟩

theorem Ts.fr {w w' : World} {P : Nat → Prop} (h : Ts w) (hf : Fr P w w') (hP : ∀ i, i < 10 → ¬ P i) : Ts w' := h.below (hf.below 10 h.gs.big hP)

/-- The name that some bytes are. -/
def idO (p : List UInt8) : List Int := if p.length = 20 then tn p else z20

/-- An entry, what is left, the fault. -/
def ent1 (l : List UInt8) (e : Int) : En × List UInt8 × Int :=
  (⟨mdo (cu (Lib.cut l [32])).1, (cu (Lib.cut (cu (Lib.cut l [32])).2 [0])).1, idO (cu (szd 20 (cu (Lib.cut (cu (Lib.cut l [32])).2 [0])).2)).1⟩,
    (cu (szd 20 (cu (Lib.cut (cu (Lib.cut l [32])).2 [0])).2)).2,
    nd (szd 20 (cu (Lib.cut (cu (Lib.cut l [32])).2 [0])).2).2.2 (nd (Lib.cut (cu (Lib.cut l [32])).2 [0]).2.2 (nd (Lib.cut l [32]).2.2 e 2) 2) 2)

theorem cu_len2 (x : List UInt8 × List UInt8 × Bool) : (cu x).1.length ≤ x.1.length ∧ (cu x).2.length ≤ x.2.1.length := by
  unfold cu
  split <;> simp

theorem szd_len (l : List UInt8) : (cu (szd 20 l)).1.length = 20 ∨ (cu (szd 20 l)).1 = [] := by
  unfold cu szd
  by_cases h : l.length < 20
  · rw [if_pos h]
    exact .inr rfl
  · rw [if_neg h]
    exact .inl (by simp; omega)

theorem id_cells {w : World} {b : Nat} {m : Int} {s : ByteArray} (h : w.rowIs b 79 22 (ef m s z20)) (p : List UInt8) (hp : p.length = 20 ∨ p = []) :
    (w.setCells b 2 (p.map fun x => Value.int .u8 (x.toNat : Int))).rowIs b 79 22 (ef m s (idO p)) ∧ Fr (fun k => k = b) w (w.setCells b 2 (p.map fun x => Value.int .u8 (x.toNat : Int))) := by
  refine ⟨?_, Fr.setCells (P := fun k => k = b) rfl _ _ _ _ (Fr.refl _ _)⟩
  rcases hp with hp | rfl
  · refine (rowIs_setCells _ 2 w _ h).congr (fun j hj => ?_)
    rw [List.length_map, hp]
    unfold ef idO
    rw [if_pos hp]
    by_cases h2 : 2 ≤ j ∧ j < 2 + 20
    · have hj2 : j - 2 < p.length := by omega
      rw [if_pos h2, if_neg (by omega), if_neg (by omega), List.getElem?_map, List.getElem?_eq_getElem hj2]
      unfold cl bt tn
      rw [List.getD, List.getElem?_map, List.getElem?_eq_getElem hj2]
      rfl
    · rw [if_neg h2]
      by_cases h0 : j = 0
      · rw [if_pos h0, if_pos h0]
      · rw [if_neg h0, if_neg h0, if_pos (by omega), if_pos (by omega)]
  · exact h

theorem fr_low {R : Nat} {w w' : World} (h : Fr (fun i => i = R ∨ w.heap.size ≤ i) w w') : Fr (fun i => i = R) w w' := ⟨h.os, h.tape, h.output, h.size, fun k hk hn => h.block k hk (fun e => by rcases e with e | e; exact hn e; omega)⟩

theorem tstep_call2 {w : World} {ops : Array Oper} {o : Oper} {a : Act} {K : Act → World → Prop} {Q : Exit → Act → World → Prop} {E : Prop} {C : Value → World → Prop} (hw : Region.wanted o (yielded ops a.tmps) = true) (f : FuncId) (hf : ∀ vs w, (callFunc f vs).run Tryz.prog w = .ok (.enter f vs) w) (x y : Operand) (ts : Array TypeId) (ho : o.op = .call { callee := .value (.func f), args := #[x, y], argTypes := ts }) (u u' : Value) (hx : a.eval x = u) (hy : a.eval y = u')
    (hc : Calls Tryz.prog f #[u, u'] w (fun e w' => ∃ v, e = .returned v ∧ C v w')) (hk : ∀ v w', C v w' → K (a.put o.dst v) w') : if Region.wanted o (yielded ops a.tmps) = true then Oper.wp Tryz.prog o a w K Q else E := by
  rw [if_pos hw]
  have hr : (resolve a.eval { callee := .value (.func f), args := #[x, y], argTypes := ts } o.type >>= fun d => invoke d.target d.args).run Tryz.prog w = .ok (.enter f #[u, u']) w := by
    rw [← hf #[u, u'] w, ← hx, ← hy]
    simp [resolve, Act.eval, invoke, Deferred.ofValue]
  unfold Oper.wp execOp
  simp only [ho, hr]
  refine hc.mono ?_
  rintro e w' ⟨v, rfl, h⟩
  exact hk v w' h

theorem c151 (vs : Array Value) (w : World) : (callFunc 151 vs).run Tryz.prog w = .ok (.enter 151 vs) w := by simp [go_sem]
theorem c181 (vs : Array Value) (w : World) : (callFunc 181 vs).run Tryz.prog w = .ok (.enter 181 vs) w := by simp [go_sem]

set_option maxRecDepth 100000 in
set_option maxHeartbeats 8000000 in
theorem entry_any (R : Nat) (l : List UInt8) (e : Int) (w : World) (ht : Ts w) (hR : 9 < R) (h : w.rowIs R 150 2 (rf l e)) (hs : l.length ≤ 50000) :
    Calls Tryz.prog 155 #[.pointer (some ⟨R, 0, none⟩)] w fun ex w' => ex = .returned (eV (ent1 l e).1) ∧ w'.rowIs R 150 2 (rf (ent1 l e).2.1 (ent1 l e).2.2) ∧ Fr (fun i => i = R) w w' := by
  have hz := zero79
  obtain ⟨x1, hx1⟩ : ∃ x1, x1 = Lib.cut l [32] := ⟨_, rfl⟩
  obtain ⟨p1, hp1⟩ : ∃ p1, p1 = (cu x1).1 := ⟨_, rfl⟩
  obtain ⟨l1, hl1⟩ : ∃ l1, l1 = (cu x1).2 := ⟨_, rfl⟩
  obtain ⟨e1, he1⟩ : ∃ e1, e1 = nd x1.2.2 e 2 := ⟨_, rfl⟩
  obtain ⟨x2, hx2⟩ : ∃ x2, x2 = Lib.cut l1 [0] := ⟨_, rfl⟩
  obtain ⟨p2, hp2⟩ : ∃ p2, p2 = (cu x2).1 := ⟨_, rfl⟩
  obtain ⟨l2, hl2⟩ : ∃ l2, l2 = (cu x2).2 := ⟨_, rfl⟩
  obtain ⟨e2, he2⟩ : ∃ e2, e2 = nd x2.2.2 e1 2 := ⟨_, rfl⟩
  obtain ⟨x3, hx3⟩ : ∃ x3, x3 = szd 20 l2 := ⟨_, rfl⟩
  obtain ⟨p3, hp3⟩ : ∃ p3, p3 = (cu x3).1 := ⟨_, rfl⟩
  obtain ⟨l3, hl3⟩ : ∃ l3, l3 = (cu x3).2 := ⟨_, rfl⟩
  obtain ⟨e3, he3⟩ : ∃ e3, e3 = nd x3.2.2 e2 2 := ⟨_, rfl⟩
  have HENT : Hid (ent1 l e = (⟨mdo p1, p2, idO p3⟩, l3, e3)) := by
    show _ = _
    unfold ent1
    rw [← hx1, ← hp1, ← hl1, ← he1, ← hx2, ← hp2, ← hl2, ← he2, ← hx3, ← hp3, ← hl3, ← he3]
  have hlen1 : x1.1.length ≤ l.length ∧ x1.2.1.length ≤ l.length := by rw [hx1]; exact cut_len1 l [32]
  have hll1 : l1.length ≤ 50000 := by rw [hl1]; have := (cu_len2 x1).2; omega
  have hlen2 : x2.1.length ≤ l1.length ∧ x2.2.1.length ≤ l1.length := by rw [hx2]; exact cut_len1 l1 [0]
  have hll2 : l2.length ≤ 50000 := by rw [hl2]; have := (cu_len2 x2).2; omega
  have HP3 : Hid (p3.length = 20 ∨ p3 = []) := by
    show _ ∨ _
    rw [hp3, hx3]
    exact szd_len l2
  obtain ⟨W, hW⟩ : ∃ W, W = (w.alloc (Obj.cells (vals (ef 0 ⟨#[]⟩ z20) 22).toArray 79)).alloc (Obj.cells (vals (ef 0 ⟨#[]⟩ z20) 22).toArray 79) := ⟨_, rfl⟩
  have b0 := new_below w (Obj.cells (vals (ef 0 ⟨#[]⟩ z20) 22).toArray 79)
  have bW : Below w.heap.size w W := by rw [hW]; exact b0.alloc b0.size _
  have hRw : R < w.heap.size := by
    have := h.cell (i := 0) (by omega)
    exact World.block_lt_of_cell? w _ this
  have r2 : W.rowIs w.heap.size 79 22 (ef 0 ⟨#[]⟩ z20) := by rw [hW]; exact rowIs_fr (P := fun _ => False) (rowIs_vals w _ 22 79) (Fr.ofBelow (new_below _ _)) (fun h => h)
  have r3 : W.rowIs (w.heap.size + 1) 79 22 (ef 0 ⟨#[]⟩ z20) := by rw [hW]; have := rowIs_vals (w.alloc (Obj.cells (vals (ef 0 ⟨#[]⟩ z20) 22).toArray 79)) (ef 0 ⟨#[]⟩ z20) 22 79; simpa using this
  have rR : W.rowIs R 150 2 (rf l e) := rowIs_fr (P := fun _ => False) h (Fr.ofBelow bW) (fun h => h)
  have HW : Hid (W = (w.alloc (Obj.cells (vals (ef 0 ⟨#[]⟩ z20) 22).toArray 79)).alloc (Obj.cells (vals (ef 0 ⟨#[]⟩ z20) 22).toArray 79)) := hW
  have HWS : Hid (W.heap.size = w.heap.size + 2 ∧ R < w.heap.size ∧ 9 < R) := ⟨by rw [hW]; simp, hRw, hR⟩
  have HFW : Hid (Fr (fun i => i = R ∨ w.heap.size ≤ i) w W) := Fr.ofBelow bW
  have HTW : Hid (Ts W) := ht.keep bW
  -- the first cut
  have HC1 : Hid (∀ V : World, W.alloc (.cells #[sv [32]] 9) = V → Calls Tryz.prog 151 #[.pointer (some ⟨R, 0, none⟩), .func (.func 203) #[] #[.pointer (some ⟨W.heap.size, 0, none⟩)]] V fun ex w' => ex = .returned (sv p1) ∧ w'.rowIs R 150 2 (rf l1 e1) ∧ Fr (fun i => i = R) V w') := fun V hV => by
    have bV : Below W.heap.size W V := by rw [← hV]; exact new_below _ _
    have hp : V.cell? ⟨W.heap.size, 0, none⟩ = some (sv [32]) := by rw [← hV]; simp [go_sem]
    have hu := until1_any l [32] ⟨W.heap.size, 0, none⟩ V ((ht.keep bW).gs.keep bV) hp (by omega)
    rw [← hx1] at hu
    have := cutU_any R l e x1 _ V (rowIs_fr (P := fun _ => False) rR (Fr.ofBelow bV) (fun h => h)) hu
    rw [← hp1, ← hl1, ← he1] at this
    exact this
  have HC2 : Hid (∀ V0 V : World, Ts V0 → V0.rowIs R 150 2 (rf l1 e1) → V0.alloc (.cells #[sv [0]] 9) = V → Calls Tryz.prog 151 #[.pointer (some ⟨R, 0, none⟩), .func (.func 203) #[] #[.pointer (some ⟨V0.heap.size, 0, none⟩)]] V fun ex w' => ex = .returned (sv p2) ∧ w'.rowIs R 150 2 (rf l2 e2) ∧ Fr (fun i => i = R) V w') := fun V0 V hT hr hV => by
    have bV : Below V0.heap.size V0 V := by rw [← hV]; exact new_below _ _
    have hp : V.cell? ⟨V0.heap.size, 0, none⟩ = some (sv [0]) := by rw [← hV]; simp [go_sem]
    have hu := until1_any l1 [0] ⟨V0.heap.size, 0, none⟩ V (hT.gs.keep bV) hp (by omega)
    rw [← hx2] at hu
    have := cutU_any R l1 e1 x2 _ V (rowIs_fr (P := fun _ => False) hr (Fr.ofBelow bV) (fun h => h)) hu
    rw [← hp2, ← hl2, ← he2] at this
    exact this
  have HC3 : Hid (∀ V0 V : World, V0.rowIs R 150 2 (rf l2 e2) → V0.alloc (.cells #[.int .i64 20] 3) = V → Calls Tryz.prog 151 #[.pointer (some ⟨R, 0, none⟩), .func (.func 205) #[] #[.pointer (some ⟨V0.heap.size, 0, none⟩)]] V fun ex w' => ex = .returned (sv p3) ∧ w'.rowIs R 150 2 (rf l3 e3) ∧ Fr (fun i => i = R) V w') := fun V0 V hr hV => by
    have bV : Below V0.heap.size V0 V := by rw [← hV]; exact new_below _ _
    have hp : V.cell? ⟨V0.heap.size, 0, none⟩ = some (.int .i64 ((20 : Nat) : Int)) := by rw [← hV]; simp [go_sem]
    have hu := sized1_any 20 l2 ⟨V0.heap.size, 0, none⟩ V hp
    rw [← hx3] at hu
    have := cutS_any R l2 e2 x3 _ V (rowIs_fr (P := fun _ => False) hr (Fr.ofBelow bV) (fun h => h)) hu
    rw [← hp3, ← hl3, ← he3] at this
    exact this
  have HU1 := until_any [32] W
  have HR3 : Hid (W.rowIs (w.heap.size + 1) 79 22 (ef 0 ⟨#[]⟩ z20)) := r3
  have HR2 : Hid (W.rowIs w.heap.size 79 22 (ef 0 ⟨#[]⟩ z20)) := r2
  rw [HENT.out]
  clear hx1 hp1 hl1 he1 hx2 hp2 hl2 he2 hx3 hp3 hl3 he3 hlen1 hll1 hlen2 hll2 b0 bW hRw r2 r3 rR hW h hs hR ht
  go_enter Tryz.func155, Tryz.ntmps155
  go_wp2_with fail
  rw [← HW.out]
  refine HU1.mono ?_
  rintro ex w1 ⟨rfl, hw1⟩
  have hc1 := HC1.out w1 hw1.symm
  have F1 : Hid (Fr (fun i => i = R ∨ w.heap.size ≤ i) w w1) := by rw [hw1]; exact HFW.out.trans (P' := fun _ => False) (Fr.ofBelow (new_below _ _)) (fun _ _ h => h.elim)
  have B1 : Hid (Below W.heap.size W w1) := by show Below _ _ _; rw [hw1]; exact new_below _ _
  clear HU1 hw1
  go_wp2_with fail
  refine hc1.mono ?_
  rintro ex w2 ⟨rfl, q2, f2⟩
  have F2 : Hid (Fr (fun i => i = R ∨ w.heap.size ≤ i) w w2) := F1.out.trans f2 (fun _ _ h => .inl h)
  have RR2 : Hid (w2.rowIs R 150 2 (rf l1 e1)) := q2
  have T2 : Hid (Ts w2) := (HTW.out.keep B1.out).fr f2 (fun i hi e => by have := HWS.out; omega)
  have E2 : Hid (w2.rowIs (w.heap.size + 1) 79 22 (ef 0 ⟨#[]⟩ z20) ∧ w2.rowIs w.heap.size 79 22 (ef 0 ⟨#[]⟩ z20)) := ⟨rowIs_fr (rowIs_fr (P := fun _ => False) HR3.out (Fr.ofBelow B1.out) (fun h => h)) f2 (by have := HWS.out; omega), rowIs_fr (rowIs_fr (P := fun _ => False) HR2.out (Fr.ofBelow B1.out) (fun h => h)) f2 (by have := HWS.out; omega)⟩
  have hmo := modeOf_any p1 w2 T2.out
  clear hc1 q2 f2
  go_wp2_with fail
  refine hmo.mono ?_
  rintro ex w3 ⟨rfl, b3⟩
  have F3 : Hid (Fr (fun i => i = R ∨ w.heap.size ≤ i) w w3) := F2.out.trans (P' := fun _ => False) (Fr.ofBelow b3) (fun _ _ h => h.elim)
  have RR3 : Hid (w3.rowIs R 150 2 (rf l1 e1)) := rowIs_fr (P := fun _ => False) RR2.out (Fr.ofBelow b3) (fun h => h)
  have T3 : Hid (Ts w3) := T2.out.keep b3
  have E3 : Hid (w3.rowIs (w.heap.size + 1) 79 22 (ef 0 ⟨#[]⟩ z20) ∧ w3.rowIs w.heap.size 79 22 (ef 0 ⟨#[]⟩ z20)) := ⟨rowIs_fr (P := fun _ => False) E2.out.1 (Fr.ofBelow b3) (fun h => h), rowIs_fr (P := fun _ => False) E2.out.2 (Fr.ofBelow b3) (fun h => h)⟩
  have k0 := E3.out.1.cell (i := 0) (by omega)
  have z0 := World.rowIs.frozen E3.out.1 0
  obtain ⟨V4, hV4⟩ : ∃ V4, V4 = w3.setCell ⟨w.heap.size + 1, 0, none⟩ (.int .i64 (mdo p1)) := ⟨_, rfl⟩
  have HV4 : Hid (V4 = w3.setCell ⟨w.heap.size + 1, 0, none⟩ (.int .i64 (mdo p1))) := hV4
  have g4 : V4.rowIs (w.heap.size + 1) 79 22 (ef (mdo p1) ⟨#[]⟩ z20) := by
    rw [hV4]
    refine set_row E3.out.1 0 _ (fun j hj => ?_)
    unfold ef
    by_cases h0 : j = 0
    · rw [if_pos h0, if_pos h0]
    · rw [if_neg h0, if_neg h0, if_neg h0]
  have f4 : Fr (fun k => k = w.heap.size + 1) w3 V4 := by rw [hV4]; exact set_fr _ _ _ _
  have F4 : Hid (Fr (fun i => i = R ∨ w.heap.size ≤ i) w V4) := F3.out.trans f4 (fun i _ h => .inr (by omega))
  have RR4 : Hid (V4.rowIs R 150 2 (rf l1 e1)) := rowIs_fr RR3.out f4 (by have := HWS.out; omega)
  have T4 : Hid (Ts V4) := T3.out.fr f4 (fun i hi e => by have := HWS.out; omega)
  have E4 : Hid (V4.rowIs (w.heap.size + 1) 79 22 (ef (mdo p1) ⟨#[]⟩ z20) ∧ V4.rowIs w.heap.size 79 22 (ef 0 ⟨#[]⟩ z20)) := ⟨g4, rowIs_fr E3.out.2 f4 (by omega)⟩
  have HU2 := until_any [0] V4
  clear hmo b3 hV4 g4 f4
  go_wp2_with fail
  rw [← HV4.out]
  refine HU2.mono ?_
  rintro ex w5 ⟨rfl, hw5⟩
  have hc2 := HC2.out V4 w5 T4.out RR4.out hw5.symm
  have B5 : Hid (Below V4.heap.size V4 w5) := by show Below _ _ _; rw [hw5]; exact new_below _ _
  have F5 : Hid (Fr (fun i => i = R ∨ w.heap.size ≤ i) w w5) := F4.out.trans (P' := fun _ => False) (Fr.ofBelow B5.out) (fun _ _ h => h.elim)
  clear HU2 hw5
  go_wp2_with fail
  refine hc2.mono ?_
  rintro ex w6 ⟨rfl, q6, f6⟩
  have F6 : Hid (Fr (fun i => i = R ∨ w.heap.size ≤ i) w w6) := F5.out.trans f6 (fun _ _ h => .inl h)
  have RR6 : Hid (w6.rowIs R 150 2 (rf l2 e2)) := q6
  have E6 : Hid (w6.rowIs (w.heap.size + 1) 79 22 (ef (mdo p1) ⟨#[]⟩ z20) ∧ w6.rowIs w.heap.size 79 22 (ef 0 ⟨#[]⟩ z20)) := ⟨rowIs_fr (rowIs_fr (P := fun _ => False) E4.out.1 (Fr.ofBelow B5.out) (fun h => h)) f6 (by have := HWS.out; omega), rowIs_fr (rowIs_fr (P := fun _ => False) E4.out.2 (Fr.ofBelow B5.out) (fun h => h)) f6 (by have := HWS.out; omega)⟩
  have k1 := E6.out.1.cell (i := 1) (by omega)
  have z1 := World.rowIs.frozen E6.out.1 1
  obtain ⟨V7, hV7⟩ : ∃ V7, V7 = w6.setCell ⟨w.heap.size + 1, 1, none⟩ (sv p2) := ⟨_, rfl⟩
  have HV7 : Hid (V7 = w6.setCell ⟨w.heap.size + 1, 1, none⟩ (sv p2)) := hV7
  have g7 : V7.rowIs (w.heap.size + 1) 79 22 (ef (mdo p1) ⟨p2.toArray⟩ z20) := by
    rw [hV7]
    refine set_row E6.out.1 1 _ (fun j hj => ?_)
    unfold ef
    by_cases h0 : j = 0
    · rw [if_pos h0, if_neg (by omega), if_pos h0]
    · by_cases h1 : j = 1
      · rw [if_neg h0, if_pos h1, if_pos h1]
      · rw [if_neg h0, if_neg h1, if_neg h1, if_neg h0, if_neg h1]
  have f7 : Fr (fun k => k = w.heap.size + 1) w6 V7 := by rw [hV7]; exact set_fr _ _ _ _
  have F7 : Hid (Fr (fun i => i = R ∨ w.heap.size ≤ i) w V7) := F6.out.trans f7 (fun i _ h => .inr (by omega))
  have RR7 : Hid (V7.rowIs R 150 2 (rf l2 e2)) := rowIs_fr RR6.out f7 (by have := HWS.out; omega)
  have E7 : Hid (V7.rowIs (w.heap.size + 1) 79 22 (ef (mdo p1) ⟨p2.toArray⟩ z20) ∧ V7.rowIs w.heap.size 79 22 (ef 0 ⟨#[]⟩ z20)) := ⟨g7, rowIs_fr E6.out.2 f7 (by omega)⟩
  clear hc2 q6 f6 hV7 g7 f7 k0 z0
  go_wp2_with fail
  rw [← HV7.out]
  refine wp_region_noPanic ?_
  refine wp_region_held_drew (S := fun _ => True) (by kernel_rfl) trivial (fun hHeld => ?_)
  refine wpAnyH_take (i := 0) (oi := ⟨some 13, _, _, _, _, _⟩) (v := ?_) rfl (by kernel_rfl) (by kernel_rfl) (by kernel_rfl) (fun _ _ _ h => h) (Or.inl ⟨by rfl, ?_⟩) hHeld ?_
  rotate_left
  · (intro w' hSw; go_simp; try with_reducible rfl)
  try simp only [Act.put, List.setIfInBounds_toArray, List.set_cons_zero, List.set_cons_succ]
  refine wpAnyH_take (i := 1) (oi := ⟨some 14, _, _, _, _, _⟩) (v := .slice (some ⟨w.heap.size + 1, 2, none⟩) 20 20) rfl (by kernel_rfl) (by kernel_rfl) (by kernel_rfl) (fun _ _ _ h => h) (Or.inl ⟨by rfl, ?_⟩) hHeld ?_
  · (intro w' hSw; have qq := run_sl27 (w.heap.size + 1) w'; go_simp; try with_reducible rfl)
  try simp only [Act.put, List.setIfInBounds_toArray, List.set_cons_zero, List.set_cons_succ]
  refine wpAnyH_take (i := 2) (oi := ⟨some 15, _, _, _, _, _⟩) (v := ?_) rfl (by kernel_rfl) (by kernel_rfl) (by kernel_rfl) (fun _ _ _ h => h) (Or.inl ⟨by rfl, ?_⟩) hHeld ?_
  rotate_left
  · (intro w' hSw; go_simp; try with_reducible rfl)
  try simp only [Act.put, List.setIfInBounds_toArray, List.set_cons_zero, List.set_cons_succ]
  have D7 : Below V7.heap.size V7 V7.drew := (Below.refl _ _).drew
  have RR8 : Hid (V7.drew.rowIs R 150 2 (rf l2 e2)) := rowIs_fr (P := fun _ => False) RR7.out (Fr.ofBelow D7) (fun h => h)
  have E8 : Hid (V7.drew.rowIs (w.heap.size + 1) 79 22 (ef (mdo p1) ⟨p2.toArray⟩ z20) ∧ V7.drew.rowIs w.heap.size 79 22 (ef 0 ⟨#[]⟩ z20)) := ⟨rowIs_fr (P := fun _ => False) E7.out.1 (Fr.ofBelow D7) (fun h => h), rowIs_fr (P := fun _ => False) E7.out.2 (Fr.ofBelow D7) (fun h => h)⟩
  have F8 : Hid (Fr (fun i => i = R ∨ w.heap.size ≤ i) w V7.drew) := F7.out.trans (P' := fun _ => False) (Fr.ofBelow D7) (fun _ _ h => h.elim)
  clear D7
  refine wpAnyH_ready (rs := [3]) (by kernel_rfl) (by simp) ?_
  refine AllReadyH.cons (o := ⟨some 16, _, _, _, _, _⟩) rfl (fun K hK => ?_) AllReadyH.nil
  refine step_cl1 (C := fun v w' => v = .func (.func 205) #[] #[.pointer (some ⟨V7.drew.heap.size, 0, none⟩)] ∧ w' = V7.drew.alloc (.cells #[.int .i64 ((20 : Nat) : Int)] 3)) (by rfl) 181 c181 _ _ rfl (.int .i64 ((20 : Nat) : Int)) rfl ((sized_any 20 V7.drew).mono (fun e w' ⟨g1, g2⟩ => ⟨_, g1, rfl, g2⟩)) ?_
  rintro v' w9 ⟨rfl, hw9⟩
  have B9 : Hid (Below V7.drew.heap.size V7.drew w9) := by show Below _ _ _; rw [hw9]; exact new_below _ _
  have hc3 := HC3.out V7.drew w9 RR8.out hw9.symm
  have F9 : Hid (Fr (fun i => i = R ∨ w.heap.size ≤ i) w w9) := F8.out.trans (P' := fun _ => False) (Fr.ofBelow B9.out) (fun _ _ h => h.elim)
  have E9 : Hid (w9.rowIs (w.heap.size + 1) 79 22 (ef (mdo p1) ⟨p2.toArray⟩ z20) ∧ w9.rowIs w.heap.size 79 22 (ef 0 ⟨#[]⟩ z20)) := ⟨rowIs_fr (P := fun _ => False) E8.out.1 (Fr.ofBelow B9.out) (fun h => h), rowIs_fr (P := fun _ => False) E8.out.2 (Fr.ofBelow B9.out) (fun h => h)⟩
  refine hK.out _ _ trivial (fun hHeld => ?_)
  clear hK K hw9
  try simp only [Act.put, List.setIfInBounds_toArray, List.set_cons_zero, List.set_cons_succ]
  refine wpAnyH_ready (rs := [4]) (by kernel_rfl) (by simp) ?_
  refine AllReadyH.cons (o := ⟨some 17, _, _, _, _, _⟩) rfl (fun K hK => ?_) AllReadyH.nil
  refine tstep_call2 (C := fun v w' => v = sv p3 ∧ w'.rowIs R 150 2 (rf l3 e3) ∧ Fr (fun i => i = R) w9 w') (by rfl) 151 c151 _ _ _ rfl (.pointer (some ⟨R, 0, none⟩)) (.func (.func 205) #[] #[.pointer (some ⟨V7.drew.heap.size, 0, none⟩)]) rfl rfl (hc3.mono (fun e w' ⟨g1, g2, g3⟩ => ⟨_, g1, rfl, g2, g3⟩)) ?_
  rintro v' w10 ⟨rfl, q10, f10⟩
  have F10 : Hid (Fr (fun i => i = R ∨ w.heap.size ≤ i) w w10) := F9.out.trans f10 (fun _ _ h => .inl h)
  have RR10 : Hid (w10.rowIs R 150 2 (rf l3 e3)) := q10
  have E10 : Hid (w10.rowIs (w.heap.size + 1) 79 22 (ef (mdo p1) ⟨p2.toArray⟩ z20) ∧ w10.rowIs w.heap.size 79 22 (ef 0 ⟨#[]⟩ z20)) := ⟨rowIs_fr E9.out.1 f10 (by have := HWS.out; omega), rowIs_fr E9.out.2 f10 (by have := HWS.out; omega)⟩
  refine hK.out _ _ trivial (fun hHeld => ?_)
  clear hK K q10 f10 hc3
  try simp only [Act.put, List.setIfInBounds_toArray, List.set_cons_zero, List.set_cons_succ]
  have hp20 : p3.length ≤ 20 := by
    rcases HP3.out with h | h
    · omega
    · rw [h]; simp
  obtain ⟨g11, f11⟩ := id_cells E10.out.1 p3 HP3.out
  refine wpAnyH_ready (rs := [5]) (by kernel_rfl) (by simp) ?_
  refine AllReadyH.cons (o := ⟨some 18, _, _, _, _, _⟩) rfl (fun K hK => ?_) AllReadyH.nil
  refine step_copy_string (by rfl) _ _ 22 9 rfl 5 Tryz.underlying22 (fun w => by simp [go_sem]) (w.heap.size + 1) 2 20 20 rfl ⟨p3.toArray⟩ rfl (by rw [size_sv]; exact hp20) (fun j hj => by rw [size_sv] at hj; rw [E10.out.1.cell (i := 2 + j) (by omega)]; rfl) (fun j hj => World.rowIs.frozen E10.out.1 (2 + j)) ?_
  have hpe : (ByteArray.mk p3.toArray).data.toList = p3 := by simp
  rw [hpe]
  obtain ⟨V11, hV11⟩ : ∃ V11, V11 = w10.setCells (w.heap.size + 1) 2 (p3.map fun x => Value.int .u8 (x.toNat : Int)) := ⟨_, rfl⟩
  rw [← hV11] at g11 f11 ⊢
  have F11 : Hid (Fr (fun i => i = R ∨ w.heap.size ≤ i) w V11) := F10.out.trans f11 (fun i _ h => .inr (by omega))
  have RR11 : Hid (V11.rowIs R 150 2 (rf l3 e3)) := rowIs_fr RR10.out f11 (by have := HWS.out; omega)
  have E11 : Hid (V11.rowIs (w.heap.size + 1) 79 22 (ecl ⟨mdo p1, p2, idO p3⟩) ∧ V11.rowIs w.heap.size 79 22 (ef 0 ⟨#[]⟩ z20)) := ⟨g11, rowIs_fr E10.out.2 f11 (by omega)⟩
  refine hK.out _ _ trivial (fun hHeld => ?_)
  clear hK K hV11 g11 f11 hpe hp20
  refine wpAnyH_done (by kernel_rfl) ?_ _
  refine NoPanic.normal ?_
  clear hHeld
  go_wp2_with (first
    | (refine wpList_ld0 rfl 79 _ rfl (w.heap.size + 1) rfl _ E11.out.1 22 (Nat.le_refl _) Tryz.underlying79 rfl size79 ?_)
    | (refine wpList_st rfl 79 _ _ rfl w.heap.size rfl (ecl ⟨mdo p1, p2, idO p3⟩) rfl E11.out.2 size79 (ecl_one _) ?_; intro w12 r12 f12))
  refine bodyPost_ret (results_row (fn := Tryz.f155) (p := 2) (ty := 79) (by kernel_rfl) _ (by rfl) r12 Tryz.underlying79 rfl size79) rfl ⟨rfl, ?_, ?_⟩
  · exact rowIs_fr RR11.out f12 (by have := HWS.out; omega)
  · exact fr_low (F11.out.trans f12 (fun i _ h => .inr (by omega)))

end Go.Proofs.YtojgablpjdlegaaGreatDoor
