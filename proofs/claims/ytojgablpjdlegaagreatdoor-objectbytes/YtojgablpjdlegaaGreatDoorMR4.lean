/- Rtd, Rte, Rch, Rck. -/
import Derived.Test.YtojgablpjdlegaaGreatDoorMR3
import Derived.Test.YtojgablpjdlegaaGreatDoorMR1
import Derived.Test.YtojgablpjdlegaaGreatDoorMR2
/- The document's DecodeTree, whatever the bytes. -/
namespace Go.Proofs.YtojgablpjdlegaaGreatDoor
open Go.RowKit Go.Shelf

def eS (xs : List Int) (p : Nat) : Nat := sp xs p
def eZ (xs : List Int) (p : Nat) : Nat := nx 0 xs (eS xs p + 1)
def eM (xs : List Int) (p : Nat) : Int := mof (tb ((xs.drop p).take (eS xs p - p))) 5
def eN (xs : List Int) (p : Nat) : List UInt8 := tb ((xs.drop (eS xs p + 1)).take (eZ xs p - (eS xs p + 1)))
/-- An entry stands at a place. -/
def gat (xs : List Int) (p : Nat) : Prop := gE xs xs.length (eS xs p) (eZ xs p) (eM xs p) (eN xs p)
/-- The entry that stands at a place. -/
def eat (xs : List Int) (p : Nat) : En := ⟨eM xs p, eN xs p, (xs.drop (eZ xs p + 1)).take 20⟩

/-- The entries from a place on; do they go to the end? -/
inductive Rts (xs : List Int) : Nat → List En → Bool → Prop
  | stop (p : Nat) (h : xs.length ≤ p) : Rts xs p [] true
  | bad (p : Nat) (h : p < xs.length) (hb : ¬ gat xs p) : Rts xs p [] false
  | more (p : Nat) (es : List En) (b : Bool) (h : p < xs.length) (hg : gat xs p) (t : Rts xs (eZ xs p + 21) es b) : Rts xs p (eat xs p :: es) b

theorem eZ_gt (xs : List Int) (p : Nat) : p < eZ xs p := by
  have h1 := nx_ge 0 xs (eS xs p + 1)
  have h2 : p ≤ eS xs p := by have := nx_ge 32 xs p; unfold eS sp; omega
  unfold eZ
  omega

theorem rts_ex (xs : List Int) : ∀ (m p : Nat), xs.length - p ≤ m → ∃ es b, Rts xs p es b
  | m, p, hm => by
    by_cases hp : xs.length ≤ p
    · exact ⟨_, _, .stop p hp⟩
    · by_cases hg : gat xs p
      · have := eZ_gt xs p
        match m with
        | 0 => omega
        | m + 1 =>
          obtain ⟨es, b, t⟩ := rts_ex xs m (eZ xs p + 21) (by omega)
          exact ⟨_, _, .more p es b (by omega) hg t⟩
      · exact ⟨_, _, .bad p (by omega) hg⟩

theorem rts_at {xs : List Int} {p : Nat} {es : List En} {b : Bool} (h : Rts xs p es b) :
    (xs.length ≤ p ∧ es = [] ∧ b = true) ∨ (p < xs.length ∧ ¬ gat xs p ∧ es = [] ∧ b = false) ∨ (p < xs.length ∧ gat xs p ∧ ∃ es', es = eat xs p :: es' ∧ Rts xs (eZ xs p + 21) es' b) := by
  cases h with
  | stop p h => exact .inl ⟨h, rfl, rfl⟩
  | bad p h hb => exact .inr (.inl ⟨h, hb, rfl, rfl⟩)
  | more p es b h hg t => exact .inr (.inr ⟨h, hg, es, rfl, t⟩)

theorem Rts.len {xs : List Int} {p : Nat} {es : List En} {b : Bool} (h : Rts xs p es b) : p ≤ xs.length → es.length ≤ xs.length - p := by
  induction h with
  | stop p h => intro _; simp
  | bad p h hb => intro _; simp
  | more p es b h hg t ih =>
    intro _
    have h1 := eZ_gt xs p
    have h2 : eZ xs p + 21 ≤ xs.length := hg.2.2.2.1
    have := ih h2
    simp
    omega

theorem mof_range (dg : List UInt8) : ∀ k, -9223372036854775808 ≤ mof dg k ∧ mof dg k ≤ 9223372036854775807
  | 0 => by unfold mof; omega
  | k + 1 => by
    unfold mof
    split
    · unfold mdv
      repeat' split
      all_goals omega
    · exact mof_range dg k

theorem eat_ok (xs : List Int) (p : Nat) (hb : ∀ b ∈ xs, 0 ≤ b ∧ b < 256) (hg : gat xs p) : okE (eat xs p) := by
  have h1 := mof_range (tb ((xs.drop p).take (eS xs p - p))) 5
  have h2 := nm_len hg.2.2.2.2
  have h3 := hg.2.2.2.1
  refine ⟨h1.1, h1.2, by show (eN xs p).length ≤ _; omega, ?_, fun b hb' => hb b (List.mem_of_mem_drop (List.mem_of_mem_take hb'))⟩
  show ((xs.drop (eZ xs p + 1)).take 20).length = 20
  rw [List.length_take, List.length_drop]
  omega

theorem wpList_bs42 {ops : Array Oper} {rest : List Oper} {op : Oper} {a : Act} {w : World} {Q : Exit → Act → World → Prop} (hgd : op.guard = none) (y : Operand) (ho : op.op = .buildSlice 42 1 #[(0, y)]) (x : En) (hy : a.eval y = eV x)
    (hk : ∀ w', w' = w.alloc (.cells (vals (ecl x) 22).toArray 66) → wpList Tryz.prog ops Q rest (a.put op.dst (.slice (some ⟨w.heap.size, 0, none⟩) 1 1)) w') : wpList Tryz.prog ops Q (op :: rest) a w := by
  refine wpList_plain hgd fun K hK => ?_
  have h := run_bs42 x w
  unfold Oper.wp
  simp only [execOp, ho, List.map_toArray, List.map_cons, List.map_nil, hy, Sem.run_bind, h, Result.andThen_ok, Sem.run_pure]
  exact hK _ _ (hk _ rfl)

theorem wpList_appX {ops : Array Oper} {rest : List Oper} {o : Oper} {a : Act} {w w0 : World} {Q : Exit → Act → World → Prop} (hgd : o.guard = none) (s y : Operand)
    (ho : o.op = .call { callee := .builtin .append, args := #[s, y], argTypes := #[42, 42] }) (B : Nat) (v : Value) (d : Array En) (x : En) (hx : okE x) (hs : a.eval s = v) (hy : a.eval y = .slice (some ⟨w0.heap.size, 0, none⟩) 1 1)
    (hw : w = w0.alloc (.cells (vals (ecl x) 22).toArray 66)) (h : Dx B w0 v d) (hlim : d.size < 100000) (hB : B ≤ w0.heap.size)
    (hk : ∀ v' w', Dx B w' v' (d.push x) → Below B w0 w' → wpList Tryz.prog ops Q rest (a.put o.dst v') w') : wpList Tryz.prog ops Q (o :: rest) a w := by
  obtain ⟨i0, hi, hz0, hz1, hz2⟩ := info_parts Tryz.info66e
  have hb : Below w0.heap.size w0 w := by rw [hw]; exact new_below _ _
  have h' := h.keep hb
  have hX : w.rowIs w0.heap.size 66 22 (ecl x) := by rw [hw]; exact rowIs_vals _ _ _ _
  refine wpList_append_own w hgd s y 42 ho B 66 i0 (env 0 ⟨#[]⟩ z20) 22 48 Tryz.underlying42 hi hz0 hz1 hz2 rfl (by decide) v d.size (fle d.toList) hs h'.own ⟨w0.heap.size, 0, none⟩ 1 1 (vals (ecl x) 22) hy (by rw [vals_len]) (fun j u hu => ?_) (fun u hu => ?_) (by unfold maxLen; omega) (by omega) (by have := hb.size; omega) ?_
  · have hj : j < 22 := by
      have := (List.getElem?_eq_some_iff.1 hu).1
      rwa [vals_len] at this
    rw [vals_get _ _ _ hj] at hu
    cases hu
    rw [Addr.add_lit, Nat.zero_add]
    exact hX.cell (i := j) hj
  · unfold vals at hu
    obtain ⟨j, _, rfl⟩ := List.mem_map.1 hu
    exact ecl_one x j
  · intro v' w' g1 g2 _
    refine hk v' w' ⟨by rw [Array.size_push, Array.toList_push, fle_snoc]; exact g1, fun i hi => ?_⟩ ?_
    · rw [Array.size_push] at hi
      by_cases e : i = d.size
      · subst e
        rw [getElem!_pos _ _ (by simp)]
        simpa using hx
      · have hi2 : i < d.size := by omega
        have := h.ok i hi2
        rw [getElem!_pos d i hi2] at this
        rw [getElem!_pos _ _ (by simp; omega), Array.getElem_push_lt hi2]
        exact this
    · exact (hb.mono hB).trans ((Below.refl _ w).grown g2 (by have := hb.size; omega) (fun k hk => (h'.own.lt k hk).1))

theorem Dx.es2 {B : Nat} {w : World} {v : Value} {d : Array En} (h : Dx B w v d) : Es w v d := by
  rcases h.own.2 with ⟨rfl, e⟩ | ⟨g, cap, cur, rfl, hb, hh, hle, hmx, hsz, htk⟩
  · exact ⟨⟨none, 0, by rw [e], by omega, fun _ => ⟨e, rfl⟩, fun ad had => by cases had⟩, h.ok⟩
  · refine ⟨⟨_, cap, rfl, hle, (fun e => by cases e), fun ad had i hi j hj => ?_⟩, h.ok⟩
    cases had
    have := h.own.cells (g := g) rfl (i * 22 + j) (ecl d[i]! j) (by rw [fle_get d.toList i j (by simpa using hi) hj, bangE d i hi])
    exact this

/-- Which fault it has. -/
noncomputable def tc (es : List En) (b : Bool) : Int := if b = true ∧ riB es.toArray = true then (if es.length ≤ 512 then 0 else 5) else 2

set_option maxRecDepth 100000 in
theorem rdecT_far (ao : Option Addr) (n c : Nat) (w : World) (hn : 16384 < n) :
    Calls Tryz.prog 22 #[.slice ao n c] w fun e w' => e = .returned (.tuple #[nlv, .int .i64 5]) ∧ Below w.heap.size w w' := by
  have d1 : decide ((16384 : Int) < n) = true := by simp; omega
  have d2 : decide (16384 < n) = true := by simp; omega
  clear hn
  go_enter Tryz.func22, Tryz.ntmps22
  go_wp2_with fail
  go_ret2
  exact ⟨rfl, Below.refl _ _⟩

set_option maxRecDepth 100000 in
set_option maxHeartbeats 8000000 in
theorem rdecT_any (ao : Option Addr) (n c : Nat) (xs : List Int) (w : World) (hr : Rd w ao n c xs) (hn : n ≤ 16384) (es : List En) (kb : Bool) (hR : Rts xs 0 es kb) :
    Calls Tryz.prog 22 #[.slice ao n c] w fun e w' => ∃ v, e = .returned (.tuple #[v, .int .i64 (tc es kb)]) ∧ (tc es kb = 0 → Dx w.heap.size w' v es.toArray) ∧ (tc es kb ≠ 0 → v = nlv) ∧ Below w.heap.size w w' := by
  have hz := zero66
  have d1 : decide ((16384 : Int) < n) = false := by simp; omega
  have d2 : decide (16384 < n) = false := by simp; omega
  have hlen := hr.len
  have HRD : Hid (∀ V : World, Below w.heap.size w V → Rd V ao n c xs) := fun V hV => hr.keep hV
  have HNN : Hid (xs.length = n ∧ n ≤ 16384) := ⟨hlen, hn⟩
  have HBY : Hid (∀ b ∈ xs, 0 ≤ b ∧ b < 256) := hr.byt
  have HRT : Hid (Rts xs 0 es kb) := hR
  obtain ⟨TC, hTC⟩ : ∃ t, t = tc es kb := ⟨_, rfl⟩
  have HTC : Hid (TC = tc es kb) := hTC
  rw [← hTC]
  clear hr hn hlen hR hTC
  go_enter Tryz.func22, Tryz.ntmps22
  go_wp2_with fail
  go_loopw [4, 5] (fun s4 s5 wr => ∃ (p : Nat) (d : Array En) (rest : List En), s5 = .int .i64 (p : Int) ∧ p ≤ n ∧ Hid (Dx w.heap.size wr s4 d) ∧ Hid (d.toList ++ rest = es) ∧ Hid (Rts xs p rest kb) ∧ Hid (Below w.heap.size w wr)) (fun _ s5 _ => n - (intOf s5).toNat)
  case atStart => exact ⟨0, #[], es, rfl, Nat.zero_le _, dx_nil _ _, by show _ = _; simp, HRT, Below.refl _ _⟩
  case round =>
    obtain ⟨p, d, rest, rfl, hpn, HD, HE, HR, HB⟩ := hrel
    have HPN : Hid (p ≤ n) := hpn
    obtain ⟨da, dc, hu4⟩ := HD.out.shape
    obtain ⟨dn, hdn⟩ : ∃ dn, dn = d.size := ⟨_, rfl⟩
    rw [← hdn] at hu4
    subst hu4
    have HDN : Hid (dn = d.size ∧ d.size ≤ 16384) := ⟨hdn, by
      have h1 := congrArg List.length HE.out
      have h2 := HRT.out.len (by omega)
      have := HNN.out
      simp at h1
      omega⟩
    clear hpn hdn
    by_cases hlt : p < n
    · have hq : (p : Int) < (n : Int) := by omega
      have e1 : decide ((p : Int) < (n : Int)) = true := by simp; omega
      have hen := rentry_any ao n c xs p wr (HRD.out wr HB.out) HNN.out.2 HPN.out (eS xs p) (eZ xs p) _ (eN xs p) (eM xs p) rfl rfl rfl rfl rfl
      have hgn : gE xs n (eS xs p) (eZ xs p) (eM xs p) (eN xs p) ↔ gat xs p := by unfold gat; rw [HNN.out.1]
      rw [hgn] at hen
      have HLT : Hid (p < n) := hlt
      clear hgn hlt
      go_wp2_with fail
      refine hen.mono ?_
      rintro e w1 ⟨x, r, rfl, hy, hno, b1⟩
      have HB1 : Hid (Below w.heap.size w w1) := HB.out.trans (b1.mono HB.out.size)
      have HD1 : Hid (Dx w.heap.size w1 (.slice da dn dc) d) := HD.out.keep b1
      have HY : Hid (gat xs p → x = eat xs p ∧ r = (eZ xs p : Int) + 21) := hy
      have HNO : Hid (¬ gat xs p → r = -1) := hno
      have r1 := rowIs_vals w1 (ef 0 ⟨#[]⟩ z20) 22 66
      clear hen b1 hy hno
      by_cases hg : gat xs p
      · obtain ⟨hx, hrr⟩ := HY.out hg
        subst hrr
        have HX : Hid (x = eat xs p) := hx
        have HST : Hid (∃ es', rest = eat xs p :: es' ∧ Rts xs (eZ xs p + 21) es' kb) := by
          rcases rts_at HR.out with ⟨h0, _⟩ | ⟨_, h0, _⟩ | ⟨_, _, es', h1, h2⟩
          · have := HLT.out; have := HNN.out; omega
          · exact absurd hg h0
          · exact ⟨es', h1, h2⟩
        have HOK : Hid (okE x) := by show okE x; rw [hx]; exact eat_ok xs p HBY.out hg
        have HZN : Hid (eZ xs p + 21 ≤ n ∧ p < eZ xs p) := ⟨by have := hg.2.2.2.1; have := HNN.out; omega, eZ_gt xs p⟩
        obtain ⟨q, hq2⟩ : ∃ q : Nat, q = eZ xs p + 21 := ⟨_, rfl⟩
        have HQ : Hid (q = eZ xs p + 21) := hq2
        have hcast : (eZ xs p : Int) + 21 = (q : Int) := by omega
        rw [hcast]
        have e2 : decide ((q : Int) < 0) = false := by simp
        clear hx hq2 hcast hg
        go_wp2_with (first
          | (refine wpList_st rfl 66 _ _ rfl w1.heap.size rfl (ecl x) rfl r1 (by kernel_rfl) (ecl_one x) ?_; intro w2 r2 f2; have HB12 : Hid (Below w1.heap.size w1 w2) := new_fr f2; have HB2 : Hid (Below w.heap.size w w2) := HB1.out.trans (HB12.out.mono HB1.out.size); have HD2 : Hid (Dx w.heap.size w2 (.slice da dn dc) d) := HD1.out.keep HB12.out; have hl66 : (loadVar 66 ⟨w1.heap.size, 0, none⟩).run Tryz.prog w2 = .ok (eV x) w2 := load_all (P := Tryz.prog) 66 _ r2 Tryz.underlying66 rfl (by kernel_rfl); clear f2 r2)
          | (refine wpList_ldv rfl 66 _ rfl ⟨w1.heap.size, 0, none⟩ rfl (eV x) hl66 ?_; clear hl66)
          | (refine wpList_bs42 rfl _ rfl x rfl ?_; intro w3 hw3; have HW3 : Hid _ := hw3; clear hw3)
          | (refine wpList_appX (w0 := w2) rfl _ _ rfl w.heap.size _ d x HOK.out rfl rfl HW3.out HD2.out (by have := HDN.out; omega) HB2.out.size ?_; intro v4 w4 g1 g2; have HD4 : Hid (Dx w.heap.size w4 v4 (d.push x)) := g1; have HB4 : Hid (Below w.heap.size w w4) := HB2.out.trans g2; clear g1 g2))
        obtain ⟨es', he1, he2⟩ := HST.out
        refine ⟨⟨q, d.push x, es', rfl, by have := HQ.out; have := HZN.out; omega, HD4, ?_, by rw [HQ.out]; exact he2, HB4⟩, by simp [intOf]; have := HQ.out; have := HZN.out; omega⟩
        show _ = _
        rw [← HE.out, he1, HX.out]
        simp
      · have hr1 := HNO.out hg
        subst hr1
        have hkb : rest = [] ∧ kb = false := by
          rcases rts_at HR.out with ⟨h0, _⟩ | ⟨_, _, h1, h2⟩ | ⟨_, h0, _⟩
          · have := HLT.out; have := HNN.out; omega
          · exact ⟨h1, h2⟩
          · exact absurd h0 hg
        have htc : TC = 2 := by
          rw [HTC.out]
          unfold tc
          rw [hkb.2, if_neg (by simp)]
        subst htc
        clear hg
        go_wp2_with (refine wpList_st rfl 66 _ _ rfl w1.heap.size rfl (ecl x) rfl r1 (by kernel_rfl) (ecl_one x) ?_; intro w2 r2 f2; have HB12 : Hid (Below w1.heap.size w1 w2) := new_fr f2; have HB2 : Hid (Below w.heap.size w w2) := HB1.out.trans (HB12.out.mono HB1.out.size); clear f2 r2)
        go_ret2
        exact ⟨nlv, rfl, fun h => absurd h (by decide), fun _ => rfl, HB2.out⟩
    · have hpn2 : p = n := by have := HPN.out; omega
      subst hpn2
      have hq : ¬ (p : Int) < (p : Int) := by omega
      have e1 : decide ((p : Int) < (p : Int)) = false := by simp
      have hst : rest = [] ∧ kb = true := by
        rcases rts_at HR.out with ⟨_, h1, h2⟩ | ⟨h0, _⟩ | ⟨h0, _⟩
        · exact ⟨h1, h2⟩
        · have := HNN.out; omega
        · have := HNN.out; omega
      have HDE : Hid (d.toList = es ∧ kb = true) := ⟨by rw [← HE.out, hst.1]; simp, hst.2⟩
      have hri := rising_any (.slice da dn dc) d wr HD.out.es2 (by have := HDN.out; omega)
      obtain ⟨rb, hrb⟩ : ∃ rb, riB d = rb := ⟨_, rfl⟩
      have HRB : Hid (riB d = rb) := hrb
      rw [hrb] at hri
      clear hlt hst hrb
      go_wp2_with fail
      refine hri.mono ?_
      rintro e w2 ⟨rfl, b2⟩
      have HB2 : Hid (Below w.heap.size w w2) := HB.out.trans (b2.mono HB.out.size)
      have HD2 : Hid (Dx w.heap.size w2 (.slice da dn dc) d) := HD.out.keep b2
      have hde : es.toArray = d := by rw [← HDE.out.1]
      have HES : Hid (es.toArray = d) := hde
      clear hri b2 hde
      cases rb with
      | false =>
        have htc : TC = 2 := by
          rw [HTC.out]
          unfold tc
          rw [HES.out, HRB.out, if_neg (by simp)]
        subst htc
        go_wp2_with fail
        go_ret2
        exact ⟨nlv, rfl, fun h => absurd h (by decide), fun _ => rfl, HB2.out⟩
      | true =>
        have hln : es.length = dn := by rw [← HDE.out.1, HDN.out.1]; simp
        by_cases h512 : 512 < dn
        · have g1 : decide ((512 : Int) < (dn : Int)) = true := by simp; omega
          have g2 : decide (512 < dn) = true := by simp; omega
          have htc : TC = 5 := by
            rw [HTC.out]
            unfold tc
            rw [HES.out, HRB.out, HDE.out.2, if_pos ⟨rfl, rfl⟩, if_neg (by omega)]
          subst htc
          clear h512 hln
          go_wp2_with fail
          go_ret2
          exact ⟨nlv, rfl, fun h => absurd h (by decide), fun _ => rfl, HB2.out⟩
        · have g1 : decide ((512 : Int) < (dn : Int)) = false := by simp; omega
          have g2 : decide (512 < dn) = false := by simp; omega
          have htc : TC = 0 := by
            rw [HTC.out]
            unfold tc
            rw [HES.out, HRB.out, HDE.out.2, if_pos ⟨rfl, rfl⟩, if_pos (by omega)]
          subst htc
          clear h512 hln
          go_wp2_with fail
          go_ret2
          exact ⟨_, rfl, by rw [HES.out]; exact HD2.out, HB2.out⟩

end Go.Proofs.YtojgablpjdlegaaGreatDoor

/- The document's entries where entries were written, and back; what was read as a tree is what is written of it. -/
namespace Go.Proofs.YtojgablpjdlegaaGreatDoor
open Go.RowKit Go.Shelf

theorem mof_oct (m : Int) (h : isM m = true) : mof (oct m) 5 = m := by
  have hc : m = 16384 ∨ m = 33188 ∨ m = 33261 ∨ m = 40960 ∨ m = 57344 := by
    unfold isM at h
    simp only [Bool.or_eq_true, beq_iff_eq] at h
    omega
  rcases hc with rfl | rfl | rfl | rfl | rfl
  · rw [oct_16384]; decide +kernel
  · rw [oct_33188]; decide +kernel
  · rw [oct_33261]; decide +kernel
  · rw [oct_40960]; decide +kernel
  · rw [oct_57344]; decide +kernel

theorem mof_inv (dg : List UInt8) : ∀ k, k ≤ 5 → mof dg k ≠ 0 → isM (mof dg k) = true ∧ oct (mof dg k) = dg
  | 0, _, h => absurd rfl h
  | k + 1, hk, h => by
    unfold mof at h ⊢
    split
    · rename_i he
      have hi : isM (mdv k) = true := by
        rcases (by omega : k = 0 ∨ k = 1 ∨ k = 2 ∨ k = 3 ∨ k = 4) with rfl | rfl | rfl | rfl | rfl <;> rfl
      refine ⟨hi, ?_⟩
      unfold mdt at he
      rwa [if_pos hi] at he
    · rename_i he
      rw [if_neg he] at h
      exact mof_inv dg k (by omega) h

theorem oct_short (m : Int) (h : isM m = true) : (oct m).length ≤ 6 := by
  have hc : m = 16384 ∨ m = 33188 ∨ m = 33261 ∨ m = 40960 ∨ m = 57344 := by
    unfold isM at h
    simp only [Bool.or_eq_true, beq_iff_eq] at h
    omega
  rcases hc with rfl | rfl | rfl | rfl | rfl
  · rw [oct_16384]; decide
  · rw [oct_33188]; decide
  · rw [oct_33261]; decide
  · rw [oct_40960]; decide
  · rw [oct_57344]; decide

theorem tn_not (l : List UInt8) (z : UInt8) (h : ∀ b ∈ l, b ≠ z) : ∀ x ∈ tn l, x ≠ (z.toNat : Int) := by
  intro x hx
  unfold tn at hx
  obtain ⟨b, hb, rfl⟩ := List.mem_map.1 hx
  intro e
  apply h b hb
  have : b.toNat = z.toNat := by exact_mod_cast e
  exact UInt8.toNat_inj.1 this

theorem tw_nx (z : Int) (xs a r : List Int) (p : Nat) (h : xs.drop p = a ++ z :: r) (ha : ∀ x ∈ a, x ≠ z) : nx z xs p = p + a.length := by
  unfold nx
  rw [h, tw_pre z a r ha]

/-- Where an entry was written the document finds it. -/
theorem gat_sd (xs : List Int) (p : Nat) (e : En) (rest : List Int) (hb : eB e = true) (hi : IsId e.id) (h : xs.drop p = sd1 e ++ rest) :
    gat xs p ∧ eat xs p = e ∧ xs.drop (eZ xs p + 21) = rest ∧ eZ xs p + 21 ≤ xs.length := by
  unfold eB at hb
  rw [Bool.and_eq_true] at hb
  obtain ⟨_, _, h3⟩ := isM_range e.m hb.1
  have h6 := oct_short e.m hb.1
  have hd1 : xs.drop p = tn (oct e.m) ++ 32 :: (tn e.nm ++ 0 :: (e.id ++ rest)) := by
    rw [h]
    unfold sd1 hd
    simp only [tn_app]
    simp [tn]
  have hlen := congrArg List.length hd1
  simp only [List.length_drop, List.length_append, List.length_cons, tn_len, hi.1] at hlen
  have hp : p < xs.length := by omega
  have hnx : nx 32 xs p = p + (oct e.m).length := by
    have := tw_nx 32 xs (tn (oct e.m)) _ p hd1 (tn_not (oct e.m) 32 (oct_no e.m h3 32 (by decide)))
    rwa [tn_len] at this
  have hS : eS xs p = p + (oct e.m).length := by unfold eS sp; omega
  have hdS : xs.drop (eS xs p) = 32 :: (tn e.nm ++ 0 :: (e.id ++ rest)) := by
    have : xs.drop (eS xs p) = (xs.drop p).drop (oct e.m).length := by rw [List.drop_drop, hS]
    rw [this, hd1]
    exact List.drop_left' (by rw [tn_len])
  have hdS1 : xs.drop (eS xs p + 1) = tn e.nm ++ 0 :: (e.id ++ rest) := by
    have : xs.drop (eS xs p + 1) = (xs.drop (eS xs p)).drop 1 := by rw [List.drop_drop]
    rw [this, hdS]
    rfl
  have hZ : eZ xs p = eS xs p + 1 + e.nm.length := by
    have := tw_nx 0 xs (tn e.nm) _ (eS xs p + 1) hdS1 (tn_not e.nm 0 (nm_no0 e.nm hb.2))
    unfold eZ
    rwa [tn_len] at this
  have hdZ1 : xs.drop (eZ xs p + 1) = e.id ++ rest := by
    have : xs.drop (eZ xs p + 1) = (xs.drop (eS xs p + 1)).drop (e.nm.length + 1) := by rw [List.drop_drop, hZ]; congr 1
    rw [this, hdS1]
    have : tn e.nm ++ 0 :: (e.id ++ rest) = (tn e.nm ++ [0]) ++ (e.id ++ rest) := by simp
    rw [this]
    exact List.drop_left' (by simp [tn_len])
  have hM : eM xs p = e.m := by
    unfold eM
    have : (xs.drop p).take (eS xs p - p) = tn (oct e.m) := by
      rw [hd1, hS]
      exact List.take_left' (by rw [tn_len]; omega)
    rw [this, tb_tn]
    exact mof_oct e.m hb.1
  have hN : eN xs p = e.nm := by
    unfold eN
    have : (xs.drop (eS xs p + 1)).take (eZ xs p - (eS xs p + 1)) = tn e.nm := by
      rw [hdS1, hZ]
      exact List.take_left' (by rw [tn_len]; omega)
    rw [this, tb_tn]
  have hg32 : xs.getD (eS xs p) 0 = 32 := by
    have hlt : eS xs p < xs.length := by omega
    have := List.drop_eq_getElem_cons hlt
    rw [hdS] at this
    have := (List.cons.inj this).1
    simp [List.getD, hlt, ← this]
  refine ⟨⟨by omega, hg32, ?_, by omega, by rw [hN]; exact hb.2⟩, ?_, ?_, by omega⟩
  · rw [hM]
    intro e0
    rw [e0] at hb
    exact absurd hb.1 (by decide)
  · unfold eat
    rw [hM, hN, hdZ1, List.take_left' hi.1]
  · have : xs.drop (eZ xs p + 21) = (xs.drop (eZ xs p + 1)).drop 20 := by rw [List.drop_drop]
    rw [this, hdZ1]
    exact List.drop_left' hi.1

theorem take_getD (xs : List Int) (i : Nat) (h : i < xs.length) : xs.drop i = xs.getD i 0 :: xs.drop (i + 1) := by
  rw [List.drop_eq_getElem_cons h]
  simp [List.getD, h]

/-- What the document finds at a place was written there. -/
theorem sd_gat (xs : List Int) (hb : ∀ b ∈ xs, 0 ≤ b ∧ b < 256) (p : Nat) (hg : gat xs p) : xs.drop p = sd1 (eat xs p) ++ xs.drop (eZ xs p + 21) ∧ eB (eat xs p) = true ∧ IsId (eat xs p).id := by
  have hok := eat_ok xs p hb hg
  obtain ⟨h1, h2, h3, h4, h5⟩ := hg
  obtain ⟨hm, ho⟩ := mof_inv _ 5 (Nat.le_refl _) h3
  have hpS : p ≤ eS xs p := by have := nx_ge 32 xs p; unfold eS sp; omega
  have hSZ : eS xs p + 1 ≤ eZ xs p := nx_ge 0 xs (eS xs p + 1)
  have hz : xs.getD (eZ xs p) 0 = 0 := nx_at 0 xs (eS xs p + 1) (by show eZ xs p < _; omega)
  have hby : ∀ (i k : Nat), ∀ b ∈ (xs.drop i).take k, 0 ≤ b ∧ b < 256 := fun i k b hb' => hb b (List.mem_of_mem_drop (List.mem_of_mem_take hb'))
  have e1 : xs.drop p = (xs.drop p).take (eS xs p - p) ++ xs.drop (eS xs p) := by
    have : xs.drop (eS xs p) = (xs.drop p).drop (eS xs p - p) := by rw [List.drop_drop]; congr 1; omega
    rw [this, List.take_append_drop]
  have e2 : xs.drop (eS xs p) = 32 :: xs.drop (eS xs p + 1) := by rw [take_getD xs _ h1, h2]
  have e3 : xs.drop (eS xs p + 1) = (xs.drop (eS xs p + 1)).take (eZ xs p - (eS xs p + 1)) ++ xs.drop (eZ xs p) := by
    have : xs.drop (eZ xs p) = (xs.drop (eS xs p + 1)).drop (eZ xs p - (eS xs p + 1)) := by rw [List.drop_drop]; congr 1; omega
    rw [this, List.take_append_drop]
  have e4 : xs.drop (eZ xs p) = 0 :: xs.drop (eZ xs p + 1) := by rw [take_getD xs _ (by omega), hz]
  have e5 : xs.drop (eZ xs p + 1) = (xs.drop (eZ xs p + 1)).take 20 ++ xs.drop (eZ xs p + 21) := by
    have : xs.drop (eZ xs p + 21) = (xs.drop (eZ xs p + 1)).drop 20 := by rw [List.drop_drop]
    rw [this, List.take_append_drop]
  refine ⟨?_, ?_, hok.id⟩
  · have t1 : tn (oct (eM xs p)) = (xs.drop p).take (eS xs p - p) := by
      unfold eM
      rw [ho, tn_tb' _ (hby _ _)]
    have t2 : tn (eN xs p) = (xs.drop (eS xs p + 1)).take (eZ xs p - (eS xs p + 1)) := by
      unfold eN
      rw [tn_tb' _ (hby _ _)]
    have : sd1 (eat xs p) = tn (oct (eM xs p)) ++ 32 :: (tn (eN xs p) ++ 0 :: (xs.drop (eZ xs p + 1)).take 20) := by
      unfold sd1 hd eat
      simp only [tn_app]
      simp [tn]
    rw [this, t1, t2]
    conv => lhs; rw [e1, e2, e3, e4, e5]
    simp [List.append_assoc]
  · unfold eB eat
    rw [Bool.and_eq_true]
    exact ⟨hm, h5⟩

theorem rts_sd (xs : List Int) : ∀ (d : List En) (p : Nat), p ≤ xs.length → (∀ e ∈ d, eB e = true ∧ IsId e.id) → xs.drop p = sdL d → Rts xs p d true
  | [], p, _, _, h => .stop p (by have := congrArg List.length h; simp [sdL] at this; omega)
  | e :: d, p, _, hd, h => by
    have he := hd e (by simp)
    have hs : xs.drop p = sd1 e ++ sdL d := by rw [h]; simp [sdL]
    obtain ⟨g1, g2, g3, g4⟩ := gat_sd xs p e (sdL d) he.1 he.2 hs
    have hp : p < xs.length := by have := eZ_gt xs p; omega
    have := Rts.more p d true hp g1 (rts_sd xs d (eZ xs p + 21) g4 (fun x hx => hd x (by simp [hx])) g3)
    rwa [g2] at this

theorem sd_rts {xs : List Int} (hb : ∀ b ∈ xs, 0 ≤ b ∧ b < 256) {p : Nat} {es : List En} {b : Bool} (h : Rts xs p es b) : b = true → xs.drop p = sdL es ∧ ∀ e ∈ es, eB e = true ∧ IsId e.id := by
  induction h with
  | stop p h => exact fun _ => ⟨by rw [List.drop_eq_nil_of_le h]; rfl, fun e he => by cases he⟩
  | bad p h hb => exact fun h => by cases h
  | more p es b h hg t ih =>
    intro hb'
    obtain ⟨h1, h2⟩ := ih hb'
    obtain ⟨g1, g2, g3⟩ := sd_gat xs hb p hg
    refine ⟨by rw [g1, h1]; simp [sdL], fun e he => ?_⟩
    rcases List.mem_cons.1 he with rfl | he
    · exact ⟨g2, g3⟩
    · exact h2 e he

theorem szd_inv {n : Nat} {l : List UInt8} (h : (szd n l).2.2 = true) : l = (szd n l).1 ++ (szd n l).2.1 ∧ (szd n l).1.length = n := by
  unfold szd at h ⊢
  split at h
  · cases h
  · rename_i hh
    rw [if_neg hh]
    exact ⟨(List.take_append_drop n l).symm, by rw [List.length_take]; omega⟩

theorem mdo_inv (l : List UInt8) (h : isM (mdo l) = true) : oct (mdo l) = l := by
  unfold mdo at h ⊢
  by_cases a1 : oct 16384 = l
  · rw [if_pos a1]; exact a1
  · rw [if_neg a1] at h ⊢
    by_cases a2 : oct 33188 = l
    · rw [if_pos a2]; exact a2
    · rw [if_neg a2] at h ⊢
      by_cases a3 : oct 33261 = l
      · rw [if_pos a3]; exact a3
      · rw [if_neg a3] at h ⊢
        by_cases a4 : oct 40960 = l
        · rw [if_pos a4]; exact a4
        · rw [if_neg a4] at h ⊢
          by_cases a5 : oct 57344 = l
          · rw [if_pos a5]; exact a5
          · rw [if_neg a5] at h
            exact absurd h (by decide)

theorem ent1_inv (l : List UInt8) (e : Int) (h : (ent1 l e).2.2 = 0) (hb : eB (ent1 l e).1 = true) : e = 0 ∧ l = hd (ent1 l e).1 ++ (tb (ent1 l e).1.id ++ (ent1 l e).2.1) := by
  obtain ⟨a1, r1, k1, hc1⟩ : ∃ a r k, Lib.cut l [32] = (a, r, k) := ⟨_, _, _, rfl⟩
  obtain ⟨a2, r2, k2, hc2⟩ : ∃ a r k, Lib.cut (cu (Lib.cut l [32])).2 [0] = (a, r, k) := ⟨_, _, _, rfl⟩
  obtain ⟨a3, r3, k3, hc3⟩ : ∃ a r k, szd 20 (cu (Lib.cut (cu (Lib.cut l [32])).2 [0])).2 = (a, r, k) := ⟨_, _, _, rfl⟩
  have h' : nd k3 (nd k2 (nd k1 e 2) 2) 2 = 0 := by
    have h1 : nd (szd 20 (cu (Lib.cut (cu (Lib.cut l [32])).2 [0])).2).2.2 (nd (Lib.cut (cu (Lib.cut l [32])).2 [0]).2.2 (nd (Lib.cut l [32]).2.2 e 2) 2) 2 = 0 := h
    rw [hc3, hc2, hc1] at h1
    exact h1
  obtain ⟨i3, h'⟩ := nd0 h'
  obtain ⟨i2, h'⟩ := nd0 h'
  obtain ⟨i1, h0⟩ := nd0 h'
  subst i1
  subst i2
  subst i3
  have b1 : (cu (Lib.cut l [32])) = (a1, r1) := by rw [hc1]; rfl
  rw [b1] at hc2 hc3
  simp only at hc2 hc3
  have b2 : cu (Lib.cut r1 [0]) = (a2, r2) := by rw [hc2]; rfl
  rw [b2] at hc3
  simp only at hc3
  have b3 : cu (szd 20 r2) = (a3, r3) := by rw [hc3]; rfl
  have g1 := (cut_inv 32 l (by rw [hc1])).1
  have g2 := (cut_inv 0 r1 (by rw [hc2])).1
  have g3 := szd_inv (n := 20) (l := r2) (by rw [hc3])
  rw [hc1] at g1
  rw [hc2] at g2
  rw [hc3] at g3
  simp only at g1 g2 g3
  have hent : ent1 l e = (⟨mdo a1, a2, idO a3⟩, r3, nd true (nd true (nd true e 2) 2) 2) := by
    unfold ent1
    rw [b1]
    simp only
    rw [b2]
    simp only
    rw [b3, hc1, hc2, hc3]
  rw [hent] at hb ⊢
  unfold eB at hb
  rw [Bool.and_eq_true] at hb
  have ho := mdo_inv a1 hb.1
  refine ⟨h0, ?_⟩
  have hid : tb (idO a3) = a3 := by
    unfold idO
    rw [if_pos g3.2, tb_tn]
  simp only [hid]
  unfold hd
  simp only [ho]
  conv => lhs; rw [g1, g2, g3.1]
  simp [List.append_assoc]

theorem ens_inv {l : List UInt8} {e : Int} {es : List En} {e' : Int} (h : Ens l e es e') : e' = 0 → (∀ x ∈ es, eB x = true) → e = 0 ∧ l = tb (sdL es) := by
  induction h with
  | stop e => exact fun he _ => ⟨he, rfl⟩
  | more l e es e' hl t ih =>
    intro he hb
    obtain ⟨h1, h2⟩ := ih he (fun x hx => hb x (by simp [hx]))
    obtain ⟨g1, g2⟩ := ent1_inv l e h1 (hb _ (by simp))
    refine ⟨g1, ?_⟩
    conv => lhs; rw [g2, h2]
    have : sdL ((ent1 l e).1 :: es) = tn (hd (ent1 l e).1) ++ ((ent1 l e).1.id ++ sdL es) := by simp [sdL, sd1]
    rw [this, tb_app', tb_app', tb_tn]

theorem ens_err {l : List UInt8} {e : Int} {es : List En} {e' : Int} (h : Ens l e es e') : e = 0 ∨ e = 2 → e' = 0 ∨ e' = 2 := by
  induction h with
  | stop e => exact fun h => h
  | more l e es e' hl t ih => exact fun he => ih (nd02 (nd02 (nd02 he)))

theorem ens_id {l : List UInt8} {e : Int} {es : List En} {e' : Int} (h : Ens l e es e') : ∀ x ∈ es, IsId x.id := by
  induction h with
  | stop e => intro x hx; cases hx
  | more l e es e' hl t ih =>
    intro x hx
    rcases List.mem_cons.1 hx with rfl | hx
    · exact idO_id _
    · exact ih x hx

end Go.Proofs.YtojgablpjdlegaaGreatDoor

/- The document's Check and Parents. -/
namespace Go.Proofs.YtojgablpjdlegaaGreatDoor
open Go.RowKit Go.Shelf

theorem enc_uniq (xs : List Int) (hb : ∀ b ∈ xs, 0 ≤ b ∧ b < 256) {T T' : List Int} {DS DS' : List (List Int)} {A C M A' C' M' : List UInt8} (h1 : IsId T) (h2 : ∀ x ∈ DS, IsId x) (h3 : mb A C DS = true) (h4 : enc T DS A C M = tb xs)
    (g1 : IsId T') (g2 : ∀ x ∈ DS', IsId x) (g3 : mb A' C' DS' = true) (g4 : enc T' DS' A' C' M' = tb xs) : T' = T ∧ DS' = DS ∧ A' = A ∧ C' = C ∧ M' = M := by
  obtain ⟨l0, p0, q, p1, p2, a1, a2, a3, a4, a5, _, _, a8⟩ := enc_path xs hb T DS A C M h1 h2 h3 h4
  obtain ⟨l0', p0', q', p1', p2', b1, b2, b3, b4, b5, _, _, b8⟩ := enc_path xs hb T' DS' A' C' M' g1 g2 g3 g4
  rw [a1] at b1
  cases b1
  rw [a2] at b2
  cases b2
  obtain ⟨j1, j2, _⟩ := rps_uniq a3 b3
  subst j1
  subst j2
  rw [a4] at b4
  cases b4
  rw [a5] at b5
  cases b5
  exact ⟨rfl, rfl, rfl, rfl, b8.symm.trans a8⟩

theorem encT_uniq (xs : List Int) (hb : ∀ b ∈ xs, 0 ≤ b ∧ b < 256) {T T' : List Int} {K K' : Int} {N G M N' G' M' : List UInt8} (h1 : IsId T) (h2 : mbT K N G = true) (h3 : encT T K N G M = tb xs)
    (g1 : IsId T') (g2 : mbT K' N' G' = true) (g3 : encT T' K' N' G' M' = tb xs) : T' = T ∧ K' = K ∧ N' = N ∧ G' = G ∧ M' = M := by
  obtain ⟨l0, p0, l1, p1, p2, p3, a1, a2, a3, a4, a5, a6, _, _, a9⟩ := encT_path xs hb T K N G M h1 h2 h3
  obtain ⟨l0', p0', l1', p1', p2', p3', b1, b2, b3, b4, b5, b6, _, _, b9⟩ := encT_path xs hb T' K' N' G' M' g1 g2 g3
  rw [a1] at b1
  cases b1
  rw [a2] at b2
  cases b2
  rw [a3] at b3
  cases b3
  rw [a4] at b4
  cases b4
  rw [a5] at b5
  cases b5
  rw [a6] at b6
  cases b6
  exact ⟨rfl, rfl, rfl, rfl, b9.symm.trans a9⟩

theorem rdecC_yes (ao : Option Addr) (n c : Nat) (xs : List Int) (w : World) (hr : Rd w ao n c xs) (hn : n ≤ 16384) (T : List Int) (DS : List (List Int)) (A C M : List UInt8) (h1 : IsId T) (h2 : ∀ x ∈ DS, IsId x) (h3 : mb A C DS = true) (h4 : enc T DS A C M = tb xs) :
    Calls Tryz.prog 24 #[.slice ao n c] w fun e w' => ∃ v, e = .returned (.tuple #[cmv T v A C M, .int .i64 0]) ∧ Dn w.heap.size w' v DS.toArray ∧ Below w.heap.size w w' := by
  refine (rdecC ao n c xs w hr hn).mono ?_
  rintro e w' (⟨_, g, _⟩ | ⟨T', v, A', C', M', DS', rfl, g1, g2, g3, g4, g5, g6⟩)
  · exact absurd h4 (g T DS A C M h1 h2 h3)
  · obtain ⟨rfl, rfl, rfl, rfl, rfl⟩ := enc_uniq xs hr.byt h1 h2 h3 h4 g1 g2 g3 g4
    exact ⟨v, rfl, g5, g6⟩

theorem rdecC_no (ao : Option Addr) (n c : Nat) (xs : List Int) (w : World) (hr : Rd w ao n c xs) (hn : n ≤ 16384) (h : nocm xs) :
    Calls Tryz.prog 24 #[.slice ao n c] w fun e w' => e = .returned (.tuple #[rz, .int .i64 2]) ∧ Below w.heap.size w w' := by
  refine (rdecC ao n c xs w hr hn).mono ?_
  rintro e w' (⟨g1, _, g3⟩ | ⟨T', v, A', C', M', DS', _, g1, g2, g3, g4, _, _⟩)
  · exact ⟨g1, g3⟩
  · exact absurd g4 (h T' DS' A' C' M' g1 g2 g3)

theorem rdecG_yes (ao : Option Addr) (n c : Nat) (xs : List Int) (w : World) (hr : Rd w ao n c xs) (hn : n ≤ 16384) (T : List Int) (K : Int) (N G M : List UInt8) (h1 : IsId T) (h2 : mbT K N G = true) (h3 : encT T K N G M = tb xs) :
    Calls Tryz.prog 26 #[.slice ao n c] w fun e w' => e = .returned (.tuple #[tmv T K N G M, .int .i64 0]) ∧ Below w.heap.size w w' := by
  refine (rdecG ao n c xs w hr hn).mono ?_
  rintro e w' (⟨_, g, _⟩ | ⟨T', K', N', G', M', rfl, g1, g2, g3, g4⟩)
  · exact absurd h3 (g T K N G M h1 h2)
  · obtain ⟨rfl, rfl, rfl, rfl, rfl⟩ := encT_uniq xs hr.byt h1 h2 h3 g1 g2 g3
    exact ⟨rfl, g4⟩

theorem rdecG_no (ao : Option Addr) (n c : Nat) (xs : List Int) (w : World) (hr : Rd w ao n c xs) (hn : n ≤ 16384) (h : notg xs) :
    Calls Tryz.prog 26 #[.slice ao n c] w fun e w' => e = .returned (.tuple #[gz, .int .i64 2]) ∧ Below w.heap.size w w' := by
  refine (rdecG ao n c xs w hr hn).mono ?_
  rintro e w' (⟨g1, _, g3⟩ | ⟨T', K', N', G', M', _, g1, g2, g3, _⟩)
  · exact ⟨g1, g3⟩
  · exact absurd g3 (h T' K' N' G' M' g1 g2)

/-- Entries that may be, written as these bytes. -/
def isT (xs : List Int) (d : List En) : Prop := (∀ e ∈ d, eB e = true ∧ IsId e.id) ∧ sdL d = xs

theorem rdecT_yes (ao : Option Addr) (n c : Nat) (xs : List Int) (w : World) (hr : Rd w ao n c xs) (hn : n ≤ 16384) (d : List En) (h : isT xs d) :
    Calls Tryz.prog 22 #[.slice ao n c] w fun e w' => ∃ v, e = .returned (.tuple #[v, .int .i64 (tc d true)]) ∧ (tc d true = 0 → Dx w.heap.size w' v d.toArray) ∧ (tc d true ≠ 0 → v = nlv) ∧ Below w.heap.size w w' :=
  rdecT_any ao n c xs w hr hn d true (rts_sd xs d 0 (Nat.zero_le _) h.1 (by rw [List.drop_zero]; exact h.2.symm))

theorem rdecT_no (ao : Option Addr) (n c : Nat) (xs : List Int) (w : World) (hr : Rd w ao n c xs) (hn : n ≤ 16384) (h : ∀ d, ¬ isT xs d) :
    Calls Tryz.prog 22 #[.slice ao n c] w fun e w' => e = .returned (.tuple #[nlv, .int .i64 2]) ∧ Below w.heap.size w w' := by
  obtain ⟨es, kb, hR⟩ := rts_ex xs _ 0 (Nat.le_refl _)
  have hk : kb = false := by
    cases kb with
    | false => rfl
    | true =>
      obtain ⟨h1, h2⟩ := sd_rts hr.byt hR rfl
      exact absurd ⟨h2, by rw [← h1, List.drop_zero]⟩ (h es)
  subst hk
  have ht : tc es false = 2 := by unfold tc; rw [if_neg (by simp)]
  refine (rdecT_any ao n c xs w hr hn es false hR).mono ?_
  rintro e w' ⟨v, rfl, _, g2, g3⟩
  rw [ht] at g2 ⊢
  rw [g2 (by decide)]
  exact ⟨rfl, g3⟩

/-- The program's fault of a tree is the document's. -/
theorem tef_tc (xs : List Int) (d : List En) (h : isT xs d) : tef d.toArray 0 = tc d true := by
  have ha : d.all eB = true := List.all_eq_true.2 fun e he => (h.1 e he).1
  unfold tef tc nd
  simp only [List.size_toArray]
  rw [show d.toArray.toList.all eB = true from ha]
  by_cases hr : riB d.toArray = true
  · by_cases hl : d.length ≤ 512
    · simp [hr, hl]
    · simp [hr, hl]
  · simp [hr]

theorem tef_no (xs : List Int) (hb : ∀ b ∈ xs, 0 ≤ b ∧ b < 256) (es : List En) (e : Int) (hE : Ens (tb xs) 0 es e) (h : ∀ d, ¬ isT xs d) : tef es.toArray e = 2 := by
  have he := ens_err hE (.inl rfl)
  by_cases ha : es.all eB = true
  · by_cases h0 : e = 0
    · exfalso
      obtain ⟨_, h2⟩ := ens_inv hE h0 (fun x hx => List.all_eq_true.1 ha x hx)
      have h3 := congrArg tn h2
      rw [tn_tb' _ hb, tn_tb' _ (sdL_byt es (ens_id hE))] at h3
      exact h es ⟨fun x hx => ⟨List.all_eq_true.1 ha x hx, ens_id hE x hx⟩, h3.symm⟩
    · have h2 : e = 2 := by omega
      subst h2
      unfold tef nd
      simp
  · have ha' : es.toArray.toList.all eB = false := by simpa using ha
    unfold tef nd
    rw [ha']
    rcases he with rfl | rfl <;> simp

end Go.Proofs.YtojgablpjdlegaaGreatDoor

/- The document's Check, Parents. -/
namespace Go.Proofs.YtojgablpjdlegaaGreatDoor
open Go.RowKit Go.Shelf

theorem wl_nil (k : Int) (h : isK k = false) : wl k = [] := by
  have := wrd_size k
  rw [h] at this
  unfold wl
  simpa using this

theorem rcheck_none (k : Int) (hk : isK k = false) (ao : Option Addr) (n c : Nat) (w : World) :
    Calls Tryz.prog 34 #[.int .i64 k, .slice ao n c] w fun e w' => e = .returned (.int .i64 1) ∧ Below w.heap.size w w' := by
  have hw := rword_any k w
  rw [wl_nil k hk] at hw
  clear hk
  go_enter Tryz.func34, Tryz.ntmps34
  go_wp2_with fail
  refine hw.mono ?_
  rintro e wx ⟨rfl, hwx⟩
  subst wx
  clear hw
  go_wp2_with fail
  go_ret
  exact ⟨rfl, Below.refl _ _⟩

theorem rcheck_far (k : Int) (hk : isK k = true) (ao : Option Addr) (n c : Nat) (w : World) (hn : 16384 < n) :
    Calls Tryz.prog 34 #[.int .i64 k, .slice ao n c] w fun e w' => e = .returned (.int .i64 5) ∧ Below w.heap.size w w' := by
  have d1 : decide ((16384 : Int) < n) = true := by simp; omega
  have d2 : decide (16384 < n) = true := by simp; omega
  have hw := rword_any k w
  obtain ⟨L, hL⟩ : ∃ L, L = wl k := ⟨_, rfl⟩
  rw [← hL] at hw
  have h0 : (L == []) = false := by
    rw [hL]
    have := wrd_size k
    rw [hk] at this
    unfold wl
    cases h : (wrd k).data.toList with
    | nil => rw [h] at this; simp at this
    | cons a t => rfl
  clear hL hk hn
  go_enter Tryz.func34, Tryz.ntmps34
  go_wp2_with fail
  refine hw.mono ?_
  rintro e wx ⟨rfl, hwx⟩
  subst wx
  clear hw
  go_wp2_with fail
  go_ret
  exact ⟨rfl, Below.refl _ _⟩

theorem rcheck_blob (ao : Option Addr) (n c : Nat) (w : World) (hn : n ≤ 16384) :
    Calls Tryz.prog 34 #[.int .i64 3, .slice ao n c] w fun e w' => e = .returned (.int .i64 0) ∧ Below w.heap.size w w' := by
  have d1 : decide ((16384 : Int) < n) = false := by simp; omega
  have d2 : decide (16384 < n) = false := by simp; omega
  have hw := rword_any 3 w
  obtain ⟨L, hL⟩ : ∃ L, L = wl 3 := ⟨_, rfl⟩
  rw [← hL] at hw
  have h0 : (L == []) = false := by rw [hL]; rfl
  clear hL hn
  go_enter Tryz.func34, Tryz.ntmps34
  go_wp2_with fail
  refine hw.mono ?_
  rintro e wx ⟨rfl, hwx⟩
  subst wx
  clear hw
  go_wp2_with fail
  go_ret
  exact ⟨rfl, Below.refl _ _⟩

theorem rcheck_tree (ao : Option Addr) (n c : Nat) (w : World) (hn : n ≤ 16384) (ct : Int) (hT : Calls Tryz.prog 22 #[.slice ao n c] w fun e w' => (∃ v, e = .returned (.tuple #[v, .int .i64 ct])) ∧ Below w.heap.size w w') :
    Calls Tryz.prog 34 #[.int .i64 2, .slice ao n c] w fun e w' => e = .returned (.int .i64 ct) ∧ Below w.heap.size w w' := by
  have d1 : decide ((16384 : Int) < n) = false := by simp; omega
  have d2 : decide (16384 < n) = false := by simp; omega
  have hw := rword_any 2 w
  obtain ⟨L, hL⟩ : ∃ L, L = wl 2 := ⟨_, rfl⟩
  rw [← hL] at hw
  have h0 : (L == []) = false := by rw [hL]; rfl
  clear hL hn
  go_enter Tryz.func34, Tryz.ntmps34
  go_wp2_with fail
  refine hw.mono ?_
  rintro e wx ⟨rfl, hwx⟩
  subst wx
  clear hw
  go_wp2_with fail
  refine hT.mono ?_
  rintro e w1 ⟨⟨v, rfl⟩, b1⟩
  have HB : Hid (Below w.heap.size w w1) := b1
  clear hT b1
  go_wp2_with fail
  go_ret
  exact ⟨rfl, HB.out⟩

theorem rcheck_commit (ao : Option Addr) (n c : Nat) (w : World) (hn : n ≤ 16384) (ct : Int) (hT : Calls Tryz.prog 24 #[.slice ao n c] w fun e w' => (∃ v, e = .returned (.tuple #[v, .int .i64 ct])) ∧ Below w.heap.size w w') :
    Calls Tryz.prog 34 #[.int .i64 1, .slice ao n c] w fun e w' => e = .returned (.int .i64 ct) ∧ Below w.heap.size w w' := by
  have d1 : decide ((16384 : Int) < n) = false := by simp; omega
  have d2 : decide (16384 < n) = false := by simp; omega
  have hw := rword_any 1 w
  obtain ⟨L, hL⟩ : ∃ L, L = wl 1 := ⟨_, rfl⟩
  rw [← hL] at hw
  have h0 : (L == []) = false := by rw [hL]; rfl
  clear hL hn
  go_enter Tryz.func34, Tryz.ntmps34
  go_wp2_with fail
  refine hw.mono ?_
  rintro e wx ⟨rfl, hwx⟩
  subst wx
  clear hw
  go_wp2_with fail
  refine hT.mono ?_
  rintro e w1 ⟨⟨v, rfl⟩, b1⟩
  have HB : Hid (Below w.heap.size w w1) := b1
  clear hT b1
  go_wp2_with fail
  go_ret
  exact ⟨rfl, HB.out⟩

theorem rcheck_tag (ao : Option Addr) (n c : Nat) (w : World) (hn : n ≤ 16384) (ct : Int) (hT : Calls Tryz.prog 26 #[.slice ao n c] w fun e w' => (∃ v, e = .returned (.tuple #[v, .int .i64 ct])) ∧ Below w.heap.size w w') :
    Calls Tryz.prog 34 #[.int .i64 4, .slice ao n c] w fun e w' => e = .returned (.int .i64 ct) ∧ Below w.heap.size w w' := by
  have d1 : decide ((16384 : Int) < n) = false := by simp; omega
  have d2 : decide (16384 < n) = false := by simp; omega
  have hw := rword_any 4 w
  obtain ⟨L, hL⟩ : ∃ L, L = wl 4 := ⟨_, rfl⟩
  rw [← hL] at hw
  have h0 : (L == []) = false := by rw [hL]; rfl
  clear hL hn
  go_enter Tryz.func34, Tryz.ntmps34
  go_wp2_with fail
  refine hw.mono ?_
  rintro e wx ⟨rfl, hwx⟩
  subst wx
  clear hw
  go_wp2_with fail
  refine hT.mono ?_
  rintro e w1 ⟨⟨v, rfl⟩, b1⟩
  have HB : Hid (Below w.heap.size w w1) := b1
  clear hT b1
  go_wp2_with fail
  go_ret
  exact ⟨rfl, HB.out⟩

/-- Parents of what is no commit. -/
theorem rparents_none (k : Int) (hk : k ≠ 1) (ao : Option Addr) (n c : Nat) (w : World) :
    Calls Tryz.prog 36 #[.int .i64 k, .slice ao n c] w fun e w' => e = .returned nlv ∧ Below w.heap.size w w' := by
  have h0 : (k == 1) = false := by simpa using hk
  go_enter Tryz.func36, Tryz.ntmps36
  go_wp2_with fail
  go_ret
  exact ⟨rfl, Below.refl _ _⟩

theorem rparents_bad (ao : Option Addr) (n c : Nat) (w : World) (ct : Int) (h0 : ct ≠ 0) (hT : Calls Tryz.prog 24 #[.slice ao n c] w fun e w' => e = .returned (.tuple #[rz, .int .i64 ct]) ∧ Below w.heap.size w w') :
    Calls Tryz.prog 36 #[.int .i64 1, .slice ao n c] w fun e w' => e = .returned nlv ∧ Below w.heap.size w w' := by
  have hz := zero52
  have g0 : (ct == 0) = false := by simpa using h0
  go_enter Tryz.func36, Tryz.ntmps36
  go_wp2_with fail
  refine hT.mono ?_
  rintro e w1 ⟨rfl, b1⟩
  have HB : Hid (Below w.heap.size w w1) := b1
  have r1 := rowIs_vals w1 (cf z20 nlv [] [] []) 24 52
  clear hT b1
  go_wp2_with (refine wpList_st rfl 52 _ _ rfl w1.heap.size rfl (cf z20 nlv [] [] []) rfl r1 (by kernel_rfl) (cf_one _ _ _ _ _ rfl) ?_; intro w2 r2 f2; have HB2 : Hid (Below w.heap.size w w2) := HB.out.trans ((new_fr f2).mono HB.out.size); clear f2 r2)
  go_ret
  exact ⟨rfl, HB2.out⟩

theorem rparents_yes (ao : Option Addr) (n c : Nat) (w : World) (T : List Int) (DS : List (List Int)) (A C M : List UInt8) (hT : Calls Tryz.prog 24 #[.slice ao n c] w fun e w' => ∃ v, e = .returned (.tuple #[cmv T v A C M, .int .i64 0]) ∧ Dn w.heap.size w' v DS.toArray ∧ Below w.heap.size w w') :
    Calls Tryz.prog 36 #[.int .i64 1, .slice ao n c] w fun e w' => ∃ v, e = .returned v ∧ Dn w.heap.size w' v DS.toArray ∧ Below w.heap.size w w' := by
  have hz := zero52
  go_enter Tryz.func36, Tryz.ntmps36
  go_wp2_with fail
  refine hT.mono ?_
  rintro e w1 ⟨v, rfl, d1, b1⟩
  obtain ⟨va, vc, hv⟩ := d1.shape
  subst hv
  have HB : Hid (Below w.heap.size w w1) := b1
  have HD : Hid (Dn w.heap.size w1 (.slice va DS.toArray.size vc) DS.toArray) := d1
  have r1 := rowIs_vals w1 (cf z20 nlv [] [] []) 24 52
  clear hT b1 d1
  go_wp2_with (refine wpList_st rfl 52 _ _ rfl w1.heap.size rfl (cf T (.slice va DS.toArray.size vc) A C M) rfl r1 (by kernel_rfl) (cf_one _ _ _ _ _ rfl) ?_; intro w2 r2 f2; have HB12 : Hid (Below w1.heap.size w1 w2) := new_fr f2; have HB2 : Hid (Below w.heap.size w w2) := HB.out.trans (HB12.out.mono HB.out.size); have HD2 : Hid (Dn w.heap.size w2 (.slice va DS.toArray.size vc) DS.toArray) := HD.out.keep HB12.out; have c20 : w2.cell? ⟨w1.heap.size, 20, none⟩ = some (.slice va DS.toArray.size vc) := r2.cell (i := 20) (by omega); clear f2 r2)
  go_ret
  exact ⟨_, rfl, HD2.out, HB2.out⟩

end Go.Proofs.YtojgablpjdlegaaGreatDoor
