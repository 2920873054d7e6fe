/- The document's Sum. -/
import Derived.Test.YtebkgmjmjmaleaaWSum
import Derived.Laws.AppendOwnNone
namespace Go.Proofs.Ytebkgmjmjmaleaa
open Go.RowKit

/-- 'append(out, ys...)', out the call's own, ys nil or not. -/
theorem wpList_append_rd {w : World} {ops : Array Oper} {rest : List Oper} {o : Oper} {a : Act} {Q : Exit → Act → World → Prop} (hgd : o.guard = none) (s x : Operand)
    (ho : o.op = .call { callee := .builtin .append, args := #[s, x], argTypes := #[22, 22] })
    (base g n cap : Nat) (xs : List Int) (hs : a.eval s = .slice (some ⟨g, 0, none⟩) n cap) (hown : w.ownsRow base 5 1 (.slice (some ⟨g, 0, none⟩) n cap) n (xs.map (Value.int .u8)))
    (ao : Option Addr) (m c : Nat) (ys : List Int) (hx : a.eval x = .slice ao m c) (hr : Rd w ao m c ys) (hlim : n + m ≤ 140737488355328) (hbase : base ≤ w.heap.size)
    (h : ∀ g' cap' w', w'.ownsRow base 5 1 (.slice (some ⟨g', 0, none⟩) (n + m) cap') (n + m) ((xs ++ ys).map (Value.int .u8)) → w.grownBy w' (some g) → wpList Try.prog ops Q rest (a.put o.dst (.slice (some ⟨g', 0, none⟩) (n + m) cap')) w') :
    wpList Try.prog ops Q (o :: rest) a w := by
  obtain ⟨i0, hi, hz0, hz1, hz2⟩ := info_parts Try.info5
  cases ao with
  | none =>
    obtain ⟨rfl, rfl⟩ := hr.nul rfl
    have hy : ys = [] := List.eq_nil_of_length_eq_zero hr.len
    subst hy
    refine wpList_append_own_none hgd s x 22 ho base 5 i0 1 Try.underlying22 hi _ n _ hs hown hx ?_
    exact h g cap w (by simpa using hown) (World.grownBy.refl _ _)
  | some ad =>
    refine wpList_append_own w hgd s x 22 ho base 5 i0 (.int .u8 0) 1 1 Try.underlying22 hi hz0 hz1 hz2 rfl (by decide) _ n _ hs hown ad m c (ys.map (Value.int .u8)) hx (by simpa using hr.len) (hr.cellsOf ad rfl) (ints_oneCell _ _)
      (by unfold maxLen; omega) (by omega) hbase ?_
    intro v' w' h1 h2 h3
    obtain ⟨g', cap', rfl⟩ : ∃ g' cap', v' = .slice (some ⟨g', 0, none⟩) (n + m) cap' := by
      rcases h1.2 with ⟨h', _⟩ | ⟨g', cap', cur, h', _⟩
      · rw [h3] at h'; cases h'.1
      · exact ⟨g', cap', h'⟩
    exact h g' cap' w' (by simpa using h1) h2

theorem own_base {w : World} {base g n c : Nat} {xs : List Value} (h : w.ownsRow base 5 1 (.slice (some ⟨g, 0, none⟩) n c) n xs) : base ≤ g := by
  rcases h.2 with ⟨e, _⟩ | ⟨g', cap, cur, e, hb, _⟩
  · cases e
  · cases e; exact hb

theorem none_own (w : World) (base : Nat) (hb : base ≤ w.heap.size) : (w.alloc (.cells #[] 5)).ownsRow base 5 1 (.slice (some ⟨w.heap.size, 0, none⟩) 0 0) 0 (([] : List Int).map (Value.int .u8)) :=
  World.ownsRow_lit (base := base) (e := 5) (size := 1) w #[] 0 hb (by unfold maxLen; omega) rfl

theorem one_rd (w : World) (v : Int) (h : 0 ≤ v ∧ v < 256) : Rd (w.alloc (Obj.cells #[.int .u8 v] 5)) (some ⟨w.heap.size, 0, none⟩) 1 1 [v] :=
  Rd.ofRow (World.rowIs_alloc w #[.int .u8 v] 5 _ (fun i hi => by
    simp at hi
    rcases i with _ | i <;> first | rfl | omega)) rfl (by intro x hx; simp at hx; omega)

theorem z24_row (w : World) : (w.alloc (Obj.cells #[.int .u8 0, .int .u8 0, .int .u8 0, .int .u8 0, .int .u8 0, .int .u8 0, .int .u8 0, .int .u8 0, .int .u8 0, .int .u8 0, .int .u8 0, .int .u8 0, .int .u8 0, .int .u8 0, .int .u8 0, .int .u8 0, .int .u8 0, .int .u8 0, .int .u8 0, .int .u8 0] 24)).rowIs w.heap.size 24 20 (fun _ => .int .u8 0) := rowIs_rep w (Value.int .u8 0) 20 24

/-- A slice of the call's own, and the result's block, behind block B. -/
structure Ow (w wr : World) (g n cap : Nat) (xs : List Int) : Prop where
  own : wr.ownsRow (w.heap.size + 1) 5 1 (.slice (some ⟨g, 0, none⟩) n cap) n (xs.map (Value.int .u8))
  res : wr.rowIs w.heap.size 24 20 (fun _ => .int .u8 0)
  bel : Below w.heap.size w wr

theorem Ow.grow {w wr w1 w2 : World} {g n cap g' n' cap' : Nat} {xs ys : List Int} (h : Ow w wr g n cap xs) (hb : Below wr.heap.size wr w1) (hg : w1.grownBy w2 (some g)) (ho : w2.ownsRow (w.heap.size + 1) 5 1 (.slice (some ⟨g', 0, none⟩) n' cap') n' (ys.map (Value.int .u8))) : Ow w w2 g' n' cap' ys := by
  have hge := own_base h.own
  have hlt := h.res.lt
  have hs := hb.size
  have hb2 : Below w.heap.size w w1 := h.bel.trans (hb.mono h.bel.size)
  refine ⟨ho, ?_, ?_⟩
  · have r1 := h.res.of_block (hb.block _ hlt)
    exact r1.of_block (hg.block _ (by omega) (by simp; omega))
  · exact hb2.grown hg hb2.size (fun k hk => by cases hk; omega)

theorem Ow.keepOwn {w wr : World} {g n cap : Nat} {xs : List Int} (h : Ow w wr g n cap xs) (o : Obj) : (wr.alloc o).ownsRow (w.heap.size + 1) 5 1 (.slice (some ⟨g, 0, none⟩) n cap) n (xs.map (Value.int .u8)) := h.own.alloc _

theorem Rd.blk' {w : World} {ao : Option Addr} {n c : Nat} {ys : List Int} (h : Rd w ao n c ys) {ad : Addr} (had : ao = some ad) (hn : 0 < n) : ad.block < w.heap.size := by
  have := h.cells ad had 0 hn
  have := World.block_lt_of_cell? w _ this
  rwa [show (ad.add 0).block = ad.block by unfold Addr.add; split <;> rfl] at this

/-- Behind q blocks. -/
structure LS (w : World) (X : Nat) (wr : World) (g L cap : Nat) (ps : List Int) (q : Nat) : Prop where
  st : wr.rowIs X 40 5 (fun j => .int .u32 ((absb ps q).nth j))
  res : wr.rowIs w.heap.size 24 20 (fun _ => .int .u8 0)
  rd : Rd wr (some ⟨g, 0, none⟩) L cap ps
  bel : Below w.heap.size w wr

theorem setw_row (r : St) {w : World} {X : Nat} {f : Nat → Value} (h : w.rowIs X 40 5 f) : (setw w X r).rowIs X 40 5 (fun j => .int .u32 (r.nth j)) :=
  (((((h.set 0 _).set 1 _).set 2 _).set 3 _).set 4 _).congr (fun i hi => by
    rcases i with _ | _ | _ | _ | _ | i <;> first | rfl | omega)

theorem byt_row24 (s : St) (k : Nat) (f : Nat → Value) {w : World} {b : Nat} (h : w.rowIs b 24 20 (fun j => if j < k then .int .u8 (byt s j) else f j)) : (w.setCell ⟨b, k, none⟩ (.int .u8 (byt s k))).rowIs b 24 20 (fun j => if j < k + 1 then .int .u8 (byt s j) else f j) :=
  (h.set k _).congr (fun i _ => by
    by_cases e : i = k
    · subst e; simp
    · simp only [e, if_false]
      by_cases h : i < k
      · simp [h, show i < k + 1 by omega]
      · simp [h, show ¬ i < k + 1 by omega])

/-- Behind k bytes of the sum. -/
structure FS (w : World) (s : St) (X O : Nat) (wr : World) (k : Nat) : Prop where
  out : wr.rowIs O 24 20 (fun j => if j < k then .int .u8 (byt s j) else .int .u8 0)
  st : wr.rowIs X 40 5 (fun j => .int .u32 (s.nth j))
  res : wr.rowIs w.heap.size 24 20 (fun _ => .int .u8 0)
  bel : Below w.heap.size w wr

theorem zs_lt (n : Nat) : zs n < 64 := Nat.mod_lt _ (by omega)

theorem zs_stop (n k : Nat) (hk : k ≤ zs n) : (n + 1 + k) % 64 = 56 ↔ k = zs n := by
  unfold zs at *
  omega

theorem pad_eq (ys : List Int) : (ys ++ [128]) ++ List.replicate (zs ys.length) 0 ++ be ((ys.length : Int) * 8) 8 = pad ys := by
  rw [Int.mul_comm]
  unfold pad fin
  simp

theorem rep_snoc (k : Nat) : List.replicate k (0 : Int) ++ [0] = List.replicate (k + 1) 0 := by rw [List.replicate_succ']

set_option maxRecDepth 100000 in
set_option maxHeartbeats 4000000 in
theorem rsum_gen (HB : Hid (∀ (s : St) (B o c : Nat) (bs : List Int) (w : World), Rd w (some ⟨B, o, none⟩) 64 c bs → Calls Try.prog 15 #[stv s, .slice (some ⟨B, o, none⟩) 64 c] w fun e w' => e = .returned (stv (mix s bs)) ∧ Below w.heap.size w w'))
    (ao : Option Addr) (n c : Nat) (ys : List Int) (w : World) (hr : Rd w ao n c ys) (hl : n ≤ 900000000) : Calls Try.prog 9 #[.slice ao n c] w fun e w' => e = .returned (sv ys) ∧ Below w.heap.size w w' := by
  have hlen := hr.len
  have HL : Hid (ys.length = n ∧ Rd w ao n c ys) := ⟨hlen, hr⟩
  clear hlen hr
  obtain ⟨Z, hZ⟩ : ∃ Z : Obj, Z = Obj.cells #[.int .u8 0, .int .u8 0, .int .u8 0, .int .u8 0, .int .u8 0, .int .u8 0, .int .u8 0, .int .u8 0, .int .u8 0, .int .u8 0, .int .u8 0, .int .u8 0, .int .u8 0, .int .u8 0, .int .u8 0, .int .u8 0, .int .u8 0, .int .u8 0, .int .u8 0, .int .u8 0] 24 := ⟨_, rfl⟩
  have sz : (w.alloc Z).heap.size = w.heap.size + 1 := by simp
  have own0 := none_own (w.alloc Z) (w.heap.size + 1) (by omega)
  have res0 : (w.alloc Z).rowIs w.heap.size 24 20 (fun _ => .int .u8 0) := by rw [hZ]; exact z24_row w
  have bel0 : Below w.heap.size w (w.alloc Z) := (Below.refl _ _).alloc (Nat.le_refl _) _
  have o0 : Ow w ((w.alloc Z).alloc (.cells #[] 5)) (w.heap.size + 1) 0 0 [] := ⟨by rw [sz] at own0; exact own0, res0.alloc _, bel0.alloc bel0.size _⟩
  have rd0 := HL.out.2.keep (bel0.alloc bel0.size (.cells #[] 5))
  rw [hZ] at o0 rd0
  clear hZ sz own0 res0 bel0
  have hle : w.heap.size + 1 ≤ ((w.alloc Z).alloc (.cells #[] 5)).heap.size := by simp
  go_enter Try.func9, Try.ntmps9
  go_wp2_with (first
    | (refine wpList_append_rd rfl _ _ rfl (w.heap.size + 1) (w.heap.size + 1) 0 0 [] rfl o0.own ao n c ys rfl rd0 (by omega) (by simp) ?_; intro g1 cap1 w1 own1 gr1; have o1 := o0.grow (Below.refl _ _) gr1 own1; clear own1 gr1 o0 rd0; rw [Nat.zero_add, List.nil_append] at o1; rw [Nat.zero_add])
    | (refine wpList_append_rd rfl _ _ rfl (w.heap.size + 1) g1 n cap1 ys rfl (o1.keepOwn _) _ 1 1 [128] rfl (one_rd w1 128 (by omega)) (by omega) (by have := o1.bel.size; have := o1.res.lt; simp; omega) ?_; intro g2 cap2 w2 own2 gr2; have o2 := o1.grow ((Below.refl _ _).alloc (Nat.le_refl _) _) gr2 own2; clear own2 gr2 o1))
  go_loopw [3] (fun v wr => ∃ k L g cap : Nat, v = .slice (some ⟨g, 0, none⟩) L cap ∧ k ≤ zs n ∧ L = n + 1 + k ∧ Ow w wr g L cap ((ys ++ [128]) ++ List.replicate k 0)) (fun v _ => n + 1 + zs n - slen v)
  case atStart => exact ⟨0, _, _, _, rfl, by omega, rfl, by simpa using o2⟩
  case round =>
    clear o2
    obtain ⟨k, L, g, cap, rfl, hk, hL, o3⟩ := hrel
    have hz := zs_lt n
    have HK : Hid (k ≤ zs n ∧ L = n + 1 + k ∧ zs n < 64) := ⟨hk, hL, hz⟩
    have hs := zs_stop n k hk
    have hLb : L ≤ 1000000000 := by omega
    by_cases hk2 : k = zs n
    · have h56 : (L : Int) % 64 = 56 := by have := hs.2 hk2; omega
      have o4 : Ow w wr g L cap ((ys ++ [128]) ++ List.replicate (zs n) 0) := by rw [← hk2]; exact o3
      have HLL : Hid (L = n + 1 + zs n ∧ zs n < 64) := ⟨by omega, hz⟩
      clear hs hk2 hL hk hz HK o3
      go_wp2_with fail
      go_loopw [3, 5] (fun v i wr => ∃ j L g cap : Nat, v = .slice (some ⟨g, 0, none⟩) L cap ∧ i = .int .i64 ((j : Int) - 1) ∧ j ≤ 8 ∧ L + j = n + 9 + zs n ∧ ∃ zz : List Int, zz ++ be ((n : Int) * 8) j = pad ys ∧ Ow w wr g L cap zz) (fun _ i _ => (intOf i + 1).toNat)
      case atStart =>
        exact ⟨8, _, _, _, rfl, rfl, by omega, by have := HLL.out; omega, _, by have := pad_eq ys; rw [HL.out.1] at this; exact this, o4⟩
      case round =>
        clear o4
        obtain ⟨j, L, g, cap, rfl, rfl, hj, hL, zz, hzz, o3⟩ := hrel
        have hzl := HLL.out.2
        have hLb : L ≤ 1000000000 := by omega
        have HJ : Hid (j ≤ 8 ∧ L + j = n + 9 + zs n ∧ zs n < 64 ∧ zz ++ be ((n : Int) * 8) j = pad ys) := ⟨hj, hL, hzl, hzz⟩
        clear hL hzl hzz
        by_cases hj0 : 1 ≤ j
        · obtain ⟨i, hi⟩ : ∃ i, i = j - 1 := ⟨_, rfl⟩
          have e1 : (j : Int) - 1 = (i : Int) := by omega
          have hi8 : (i : Int) < 8 := by omega
          have o4 := o3
          rw [e1]
          have HI : Hid (j = i + 1) := by show j = i + 1; omega
          have hb8 : 0 ≤ (n : Int) * 8 / 2 ^ (8 * i) % 256 ∧ (n : Int) * 8 / 2 ^ (8 * i) % 256 < 256 := ⟨Int.emod_nonneg _ (by decide), Int.emod_lt_of_pos _ (by decide)⟩
          clear o3 hj hi hj0 e1 h56
          go_wp2_with (first
            | (refine wpList_append_rd rfl _ _ rfl (w.heap.size + 1) g L cap zz rfl (o4.keepOwn _) _ 1 1 [(n : Int) * 8 / 2 ^ (8 * i) % 256] rfl (one_rd wr _ hb8) (by omega) (by have := o4.bel.size; have := o4.res.lt; simp; omega) ?_; intro g3 cap3 w3 own3 gr3; have o3 := o4.grow ((Below.refl _ _).alloc (Nat.le_refl _) _) gr3 own3; clear own3 gr3 o4))
          obtain ⟨q1, q2, q3, q4⟩ := HJ.out
          rw [HI.out] at q2 q4
          refine ⟨⟨i, L + 1, _, _, rfl, rfl, by omega, by omega, _, ?_, o3⟩, by simp [intOf]⟩
          rw [← q4, List.append_assoc]
          rfl
        · have HP : Hid (zz = pad ys ∧ L = n + 9 + zs n ∧ zs n < 64) := by
            obtain rfl : j = 0 := by omega
            exact ⟨by simpa [be] using HJ.out.2.2.2, HJ.out.2.1, HJ.out.2.2.1⟩
          obtain ⟨z, hz⟩ : ∃ z : Int, z = (j : Int) - 1 := ⟨_, rfl⟩
          have hz0 : ¬ 0 ≤ z := by omega
          rw [← hz]
          clear HJ hj hj0 h56 hz
          go_wp2_with fail
          obtain ⟨X, hX⟩ : ∃ X, X = wr.heap.size := ⟨_, rfl⟩
          have bA : Below wr.heap.size wr (wr.alloc (Obj.cells #[.int .u32 1732584193, .int .u32 4023233417, .int .u32 2562383102, .int .u32 271733878, .int .u32 3285377520] 40)) := (Below.refl _ _).alloc (Nat.le_refl _) _
          have hrd : Rd wr (some ⟨g, 0, none⟩) L cap (pad ys) := by
            rw [HP.out.1] at o3
            exact Rd.ofOwn o3.own (fun x hx => by
              rcases List.mem_append.1 hx with h | h
              · exact HL.out.2.byt x h
              · exact fin_byt _ x h)
          have L0 : LS w X (wr.alloc (Obj.cells #[.int .u32 1732584193, .int .u32 4023233417, .int .u32 2562383102, .int .u32 271733878, .int .u32 3285377520] 40)) g L cap (pad ys) 0 := by
            rw [hX]
            exact ⟨st_row wr H0, o3.res.alloc _, hrd.keep bA, o3.bel.trans (bA.mono o3.bel.size)⟩
          have hgX : g ≠ X := by have := hrd.blk' rfl (by have := HP.out; omega); change g < _ at this; omega
          have hwX : w.heap.size < X := by have := o3.res.lt; omega
          have hLm : L % 64 = 0 := by have := pad_len ys; rw [hrd.len] at this; exact this
          rw [← hX]
          clear hX bA hrd o3 hz0
          go_loopw [7] (fun i wx => ∃ p q : Nat, i = .int .i64 (p : Int) ∧ p = 64 * q ∧ p ≤ L ∧ LS w X wx g L cap (pad ys) q) (fun i _ => (L - intOf i).toNat)
          case atStart => exact ⟨0, 0, rfl, rfl, by omega, L0⟩
          case round =>
            clear L0
            obtain ⟨p, q, rfl, hpq, hpL, l3⟩ := hrel
            by_cases hlt : p < L
            · have hp64 : p + 64 ≤ L := by omega
              have hpc : ¬ cap = p := by have := l3.rd.le; omega
              have hpc2 : (p : Int) + 64 ≤ cap := by have := l3.rd.le; omega
              have hlt' : (p : Int) < L := by omega
              have hp9 : (p : Int) ≤ 1000000000 := by omega
              have e64 : IntKind.i64.wrap ((p : Int) + 64) = (p : Int) + 64 := by rw [IntKind.wrap_i64]; omega
              have e65 : ((p : Int) + 64).toNat = p + 64 := by omega
              have e66 : p + 64 - p = 64 := by omega
              have e67 : (0 : Int) ≤ (p : Int) + 64 := by omega
              have e68 : (p : Int) ≤ (p : Int) + 64 := by omega
              have hrd : Rd wr.drew (some ⟨g, p, none⟩) 64 (cap - p) (blk (pad ys) q) := by
                have := l3.rd.sub p 64 hp64
                rw [if_neg hpc, Option.map_some, Addr.add_lit, Nat.zero_add, hpq] at this
                rw [hpq]
                exact this.keep (Below.refl _ _).drew
              obtain ⟨s, hs⟩ : ∃ s, s = absb (pad ys) q := ⟨_, rfl⟩
              obtain ⟨bs, hbs⟩ : ∃ bs, bs = blk (pad ys) q := ⟨_, rfl⟩
              have HS : Hid (s = absb (pad ys) q ∧ bs = blk (pad ys) q ∧ p = 64 * q ∧ p + 64 ≤ L) := ⟨hs, hbs, hpq, hp64⟩
              have h40 := l3.st
              rw [← hs] at h40
              rw [← hbs] at hrd
              have HL3 : Hid (LS w X wr g L cap (pad ys) q) := l3
              have c0 := h40.cell (i := 0) (by omega)
              have c1 := h40.cell (i := 1) (by omega)
              have c2 := h40.cell (i := 2) (by omega)
              have c3 := h40.cell (i := 3) (by omega)
              have c4 := h40.cell (i := 4) (by omega)
              simp only [St.nth] at c0 c1 c2 c3 c4
              have HC := HB.out s g p (cap - p) bs wr.drew hrd
              have H40 : Hid (wr.rowIs X 40 5 (fun j => .int .u32 (s.nth j))) := h40
              clear l3 hs hbs hpq hp64 h40 hrd hpL hlt
              go_wp2_with fail
              go_region_with ((go_at_call 15; refine HC.mono ?_; rintro e w5 ⟨rfl, hb5⟩; have r5 : w5.rowIs X 40 5 (fun j => .int .u32 (s.nth j)) := World.rowIs.of_block (w := wr.drew) H40.out (hb5.block _ (World.rowIs.lt H40.out)); have d0 := World.rowIs.cell r5 (i := 0) (by omega); have d1 := World.rowIs.cell r5 (i := 1) (by omega); have d2 := World.rowIs.cell r5 (i := 2) (by omega); have d3 := World.rowIs.cell r5 (i := 3) (by omega); have d4 := World.rowIs.cell r5 (i := 4) (by omega); have g0 := World.rowIs.frozen r5 0; have g1 := World.rowIs.frozen r5 1; have g2 := World.rowIs.frozen r5 2; have g3 := World.rowIs.frozen r5 3; have g4 := World.rowIs.frozen r5 4))
              have r6 := setw_row (mix s bs) r5
              have f6 := setw_fr (P := fun b => b = X) (mix s bs) (Fr.refl (fun b => b = X) w5) rfl
              have HW5 : Hid (Below wr.drew.heap.size wr.drew w5) := hb5
              clear c0 c1 c2 c3 c4 d0 d1 d2 d3 d4 g0 g1 g2 g3 g4 r5 hb5
              go_wp2_with fail
              obtain ⟨hs, hbs, hpq, hp64⟩ := HS.out
              have l4 : LS w X (setw w5 X (mix s bs)) g L cap (pad ys) (q + 1) := by
                have l3 := HL3.out
                have hb5 : Below wr.heap.size wr w5 := (Below.refl _ _).drew.trans HW5.out
                refine ⟨?_, ?_, ?_, ?_⟩
                · rw [hs, hbs] at r6 ⊢
                  exact r6
                · exact rowIs_fr (l3.res.of_block (hb5.block _ l3.res.lt)) f6 (by omega)
                · exact (l3.rd.keep hb5).fr f6 (fun ad had _ e => by cases had; exact hgX e)
                · exact (l3.bel.trans (hb5.mono l3.bel.size)).trans (f6.below _ (by have := l3.bel.size; have := hb5.size; omega) (fun i hi e => by omega))
              exact ⟨⟨p + 64, q + 1, rfl, by omega, by omega, l4⟩, by simp [intOf]; omega⟩
            · have HQ : Hid (absb (pad ys) q = absb (pad ys) ((pad ys).length / 64)) := by
                show _ = _
                rw [l3.rd.len, show L / 64 = q by omega]
              obtain ⟨s, hs⟩ : ∃ s, s = absb (pad ys) q := ⟨_, rfl⟩
              have HS : Hid (sumv s = sv ys) := by
                show _ = _
                rw [hs, HQ.out, sv_eq]
              have h40 := l3.st
              rw [← hs] at h40
              have hres := l3.res
              have hbel := l3.bel
              have hlt' : ¬ (p : Int) < L := by omega
              clear l3 hs HQ hlt hpq hpL hLm HP HLL
              go_wp2_with fail
              obtain ⟨O, hO⟩ : ∃ O, O = wr.heap.size := ⟨_, rfl⟩
              have zr : (wr.alloc (Obj.cells #[.int .u8 0, .int .u8 0, .int .u8 0, .int .u8 0, .int .u8 0, .int .u8 0, .int .u8 0, .int .u8 0, .int .u8 0, .int .u8 0, .int .u8 0, .int .u8 0, .int .u8 0, .int .u8 0, .int .u8 0, .int .u8 0, .int .u8 0, .int .u8 0, .int .u8 0, .int .u8 0] 24)).rowIs O 24 20 (fun _ => .int .u8 0) := by rw [hO]; exact z24_row wr
              have F0 : FS w s X O (wr.alloc (Obj.cells #[.int .u8 0, .int .u8 0, .int .u8 0, .int .u8 0, .int .u8 0, .int .u8 0, .int .u8 0, .int .u8 0, .int .u8 0, .int .u8 0, .int .u8 0, .int .u8 0, .int .u8 0, .int .u8 0, .int .u8 0, .int .u8 0, .int .u8 0, .int .u8 0, .int .u8 0, .int .u8 0] 24)) 0 :=
                ⟨zr.congr (fun j _ => by simp), h40.alloc _, hres.alloc _, hbel.alloc hbel.size _⟩
              have hOX : X < O := by have := h40.lt; omega
              rw [← hO]
              clear hO zr h40 hres hbel hlt' hgX hLb
              go_loopw [9] (fun i wx => ∃ k : Nat, k ≤ 20 ∧ i = .int .i64 (k : Int) ∧ FS w s X O wx k) (fun i _ => (20 - intOf i).toNat)
              case atStart => exact ⟨0, by omega, rfl, F0⟩
              case round =>
                clear F0
                obtain ⟨k, hk, rfl, f⟩ := hrel
                by_cases hlt : k < 20
                · have nX : X ≠ O := by omega
                  have nW : w.heap.size ≠ O := by omega
                  have cw := f.st.cell (i := k / 4) (by omega)
                  have ct := f.out.cell hlt
                  have ft := f.out.frozen k
                  have f2 : FS w s X O (wr.setCell ⟨O, k, none⟩ (.int .u8 (byt s k))) (k + 1) := ⟨byt_row24 s k _ f.out, f.st.setOther nX _, f.res.setOther nW _, f.bel.setCell (show w.heap.size ≤ O by omega) _⟩
                  have hk4 : (k : Int) / 4 < 5 := by omega
                  have hlt' : (k : Int) < 20 := by omega
                  clear f
                  go_wp2
                  exact ⟨⟨k + 1, by omega, rfl, f2⟩, by simp [intOf]; omega⟩
                · obtain rfl : k = 20 := by omega
                  have h1 := f.out
                  have h2 := f.res
                  have hb := f.bel
                  clear f hlt hk
                  go_wp2_with (first
                    | (refine wpList_ld0 rfl 24 _ rfl O rfl _ h1 20 (by omega) Try.underlying24 rfl size24 ?_; clear h1)
                    | (refine wpList_st rfl 24 _ _ rfl w.heap.size rfl (fun j => if j < 20 then .int .u8 (byt s j) else .int .u8 0) rfl h2 size24 (fun j => by split <;> rfl) ?_; intro w3 h3 f3))
                  refine bodyPost_ret (results_row rfl _ rfl h3 Try.underlying24 rfl size24) rfl ⟨?_, ?_⟩
                  · rw [← HS.out, sumv, row_congr _ (fun j => .int .u8 (byt s j)) 20 (fun i hi => by simp [hi])]
                  · exact hb.trans (f3.below _ hb.size (fun i hi e => by omega))
    · have h56 : ¬ (L : Int) % 64 = 56 := by have := fun h => hk2 (hs.1 h); omega
      clear hs hL hk hz
      have o4 := o3
      clear o3
      go_wp2_with (first
        | (refine wpList_append_rd rfl _ _ rfl (w.heap.size + 1) g L cap ((ys ++ [128]) ++ List.replicate k 0) rfl (o4.keepOwn _) _ 1 1 [0] rfl (one_rd wr 0 (by omega)) (by omega) (by have := o4.bel.size; have := o4.res.lt; simp; omega) ?_; intro g3 cap3 w3 own3 gr3; have o3 := o4.grow ((Below.refl _ _).alloc (Nat.le_refl _) _) gr3 own3; clear own3 gr3 o4))
      rw [List.append_assoc, rep_snoc] at o3
      have := HK.out
      exact ⟨⟨k + 1, L + 1, _, _, rfl, by omega, by omega, o3⟩, by rw [slen_ok, slen_ok]; omega⟩

end Go.Proofs.Ytebkgmjmjmaleaa
