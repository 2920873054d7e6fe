/- InflateFar. -/
import Derived.Test.YtjkfmnahmbnbnaaDoorLMade
import Derived.Test.YtjkfmnahmbnbnaaDoorWInfN
namespace Go.Proofs.YtjkfmnahmbnbnaaDoor
open Go.RowKit

theorem Tryd.info46 : (Tryd.prog.info? 46).map (fun i => (i.zero, i.size, i.bytes)) = some (some (.agg #[.int .u8 0, .int .i64 0, .int .i64 0]), 3, 24) := by kernel_rfl

/-- The cells of parts that are literals, numbered. -/
def pf (j : Nat) : Value := if j % 3 = 0 then .int .u8 ((j / 3 % 256 : Nat) : Int) else .int .i64 0

theorem pf_push (k : Nat) : vals pf (3 * k) ++ [.int .u8 ((k % 256 : Nat) : Int), .int .i64 0, .int .i64 0] = vals pf (3 * (k + 1)) := by
  have e : 3 * (k + 1) = 3 * k + 1 + 1 + 1 := by omega
  have a : pf (3 * k) = .int .u8 ((k % 256 : Nat) : Int) := by
    unfold pf
    rw [if_pos (by omega), show 3 * k / 3 = k by omega]
  have b : pf (3 * k + 1) = .int .i64 0 := by unfold pf; rw [if_neg (by omega)]
  have c : pf (3 * k + 1 + 1) = .int .i64 0 := by unfold pf; rw [if_neg (by omega)]
  rw [e]
  simp only [vals, List.range_succ, List.map_append, List.map_cons, List.map_nil, List.append_assoc, List.cons_append, List.nil_append, a, b, c]

/-- So many literals, numbered. -/
def lits : Nat → List It
  | 0 => []
  | k + 1 => lits k ++ [.lit (k % 256)]

def los : Nat → List Int
  | 0 => []
  | k + 1 => los k ++ [((k % 256 : Nat) : Int)]

theorem lits_mk (k : Nat) : Mk (lits k) (los k) := by
  induction k with
  | zero => exact Mk.nil
  | succ k ih => exact ih.lit (k % 256)

theorem lits_ok (k : Nat) : ∀ i ∈ lits k, i.ok := by
  induction k with
  | zero => intro i hi; cases hi
  | succ k ih =>
    intro i hi
    rcases List.mem_append.1 hi with h | h
    · exact ih i h
    · simp at h
      subst h
      show k % 256 < 256
      omega

theorem los_len (k : Nat) : (los k).length = k := by
  induction k with
  | zero => rfl
  | succ k ih => simp [los, ih]

theorem lits_len (k : Nat) : (lits k).length = k := by
  induction k with
  | zero => rfl
  | succ k ih => simp [lits, ih]

/-- A block of type 46 stays beside a row of bytes that grows. -/
theorem blk_grown {w w' : World} {base n g : Nat} {v : Value} {xs : List Value} {cur : Array Value} {x : Nat × Nat} (h : w.heap[g]? = some (Obj.cells cur 46 x)) (hown : w.ownsRow base 5 1 v n xs) (hg : w.grownBy w' v.ownBlock) : w'.heap[g]? = some (Obj.cells cur 46 x) := by
  rw [← h]
  refine hg.block g (Array.getElem?_eq_some_iff.1 h).1 (fun hk => ?_)
  rcases hown.2 with ⟨e1, e2⟩ | ⟨g', cap, cur', e1, _, e3, _⟩
  · rw [e1] at hk; simp [Value.ownBlock] at hk
  · rw [e1] at hk
    simp [Value.ownBlock] at hk
    subst hk
    rw [h] at e3
    simp only [Option.some.injEq, Obj.cells.injEq] at e3
    exact absurd e3.2.1 (by decide)

theorem cells3 (w : World) (a b c : Value) (t : TypeId) : ∀ j u, [a, b, c][j]? = some u → (w.alloc (Obj.cells #[a, b, c] t)).cell? ((⟨w.heap.size, 0, none⟩ : Addr).add j) = some u := by
  intro j u hu
  have hr := World.rowIs_alloc w #[a, b, c] t (fun j => [a, b, c].getD j a) (fun i hi => by simp at hi; rcases i with _ | _ | _ | i <;> first | rfl | omega)
  have hj : j < 3 := by
    have := (List.getElem?_eq_some_iff.1 hu).1
    simpa using this
  rw [Addr.add_lit, Nat.zero_add, hr.cell (by simpa using hj)]
  simp only [List.getD, hu, Option.getD_some]

theorem one3 (b : Int) : ∀ u ∈ [Value.int .u8 b, .int .i64 0, .int .i64 0], u.oneCell' = true := by
  intro u hu
  simp at hu
  rcases hu with rfl | rfl <;> rfl

theorem far_skip (n len far : Int) (w : World) (h : n < 1 ∨ 300 < n ∨ len < 3 ∨ 258 < len ∨ far < 1 ∨ 400 < far) :
    Calls Tryd.prog 6 #[.int .i64 n, .int .i64 len, .int .i64 far] w fun e w' => e = .returned (.bool true) ∧ Below w.heap.size w w' := by
  by_cases h1 : n < 1
  · clear h
    go_enter Tryd.func6, Tryd.ntmps6
    go_wp2_with (go_at_call 7; refine (known_any _).mono ?_; rintro e w1 ⟨rfl, hb⟩)
    go_ret
    exact ⟨rfl, hb⟩
  have d1 : decide (n < 1) = false := by simp; omega
  by_cases h2 : 300 < n
  · clear h h1
    go_enter Tryd.func6, Tryd.ntmps6
    go_wp2_with (go_at_call 7; refine (known_any _).mono ?_; rintro e w1 ⟨rfl, hb⟩)
    go_ret
    exact ⟨rfl, hb⟩
  have d2 : decide (300 < n) = false := by simp; omega
  by_cases h3 : len < 3
  · clear h h1 h2
    go_enter Tryd.func6, Tryd.ntmps6
    go_wp2_with (go_at_call 7; refine (known_any _).mono ?_; rintro e w1 ⟨rfl, hb⟩)
    go_ret
    exact ⟨rfl, hb⟩
  have d3 : decide (len < 3) = false := by simp; omega
  by_cases h4 : 258 < len
  · clear h h1 h2 h3
    go_enter Tryd.func6, Tryd.ntmps6
    go_wp2_with (go_at_call 7; refine (known_any _).mono ?_; rintro e w1 ⟨rfl, hb⟩)
    go_ret
    exact ⟨rfl, hb⟩
  have d4 : decide (258 < len) = false := by simp; omega
  by_cases h5 : far < 1
  · clear h h1 h2 h3 h4
    go_enter Tryd.func6, Tryd.ntmps6
    go_wp2_with (go_at_call 7; refine (known_any _).mono ?_; rintro e w1 ⟨rfl, hb⟩)
    go_ret
    exact ⟨rfl, hb⟩
  have d5 : decide (far < 1) = false := by simp; omega
  have h6 : 400 < far := by omega
  clear h h1 h2 h3 h4 h5
  go_enter Tryd.func6, Tryd.ntmps6
  go_wp2_with (go_at_call 7; refine (known_any _).mono ?_; rintro e w1 ⟨rfl, hb⟩)
  go_ret
  exact ⟨rfl, hb⟩

set_option maxRecDepth 100000 in
set_option maxHeartbeats 4000000 in
theorem far_go (n len far : Nat) (w : World) (hn : 1 ≤ n ∧ n ≤ 300) (hl : 3 ≤ len ∧ len ≤ 258) (hf : 1 ≤ far ∧ far ≤ 400) :
    Calls Tryd.prog 6 #[.int .i64 n, .int .i64 len, .int .i64 far] w fun e w' => e = .returned (.bool true) ∧ Below w.heap.size w w' := by
  obtain ⟨i46, hi, hz0, hz1, hz2⟩ := info_parts Tryd.info46
  have d1 : decide ((n : Int) < 1) = false := by simp; omega
  have d2 : decide ((300 : Int) < n) = false := by simp; omega
  have d3 : decide ((len : Int) < 3) = false := by simp; omega
  have d4 : decide ((258 : Int) < len) = false := by simp; omega
  have d5 : decide ((far : Int) < 1) = false := by simp; omega
  have d6 : decide ((400 : Int) < far) = false := by simp; omega
  have HN : Hid (1 ≤ n ∧ n ≤ 300 ∧ 3 ≤ len ∧ len ≤ 258 ∧ 1 ≤ far ∧ far ≤ 400) := ⟨hn.1, hn.2, hl.1, hl.2, hf.1, hf.2⟩
  obtain ⟨a1, a2⟩ := hn
  obtain ⟨a3, a4⟩ := hl
  obtain ⟨a5, a6⟩ := hf
  go_enter Tryd.func6, Tryd.ntmps6
  go_wp2_with (go_at_call 7; refine (known_any _).mono ?_; rintro e w1 ⟨rfl, b1⟩)
  have HB1 : Hid (Below w.heap.size w w1) := b1
  clear b1 d1 d2 d3 d4 d5 d6
  go_loopw [7, 8] (fun lv iv wr => ∃ k : Nat, k ≤ n ∧ iv = .int .i64 k ∧ Hid (wr.ownsRow w.heap.size 46 3 lv k (vals pf (3 * k))) ∧ Hid (Below w.heap.size w wr)) (fun _ iv _ => n - (intOf iv).toNat)
  case atStart => exact ⟨0, by omega, rfl, World.ownsRow_nil _ _ _ _, HB1⟩
  case round =>
    clear HB1
    obtain ⟨k, hk, rfl, HO, HB⟩ := hrel
    by_cases hlt : k < n
    · have q1 : (k : Int) < n := by omega
      have q2 : IntKind.u8.wrap (k : Int) = ((k % 256 : Nat) : Int) := by simp [IntKind.wrap, IntKind.bits, IntKind.signed]
      obtain ⟨bb, hbb⟩ : ∃ bb : Int, bb = ((k % 256 : Nat) : Int) := ⟨_, rfl⟩
      have HBB : Hid (bb = ((k % 256 : Nat) : Int)) := hbb
      rw [← hbb] at q2
      clear hbb
      go_wp2_with (refine wpList_append_own _ rfl _ _ 29 rfl w.heap.size 46 i46 _ 3 24 Tryd.underlying29 hi hz0 hz1 hz2 rfl (by decide) _ k (vals pf (3 * k)) rfl (HO.out.alloc _) ⟨wr.heap.size, 0, none⟩ 1 1 [.int .u8 bb, .int .i64 0, .int .i64 0] rfl rfl (cells3 _ _ _ _ _) (one3 bb) (by unfold maxLen; omega) (by omega) (by have := HB.out.size; simp; omega) ?_; intro v8 w8 o8 g8 _)
      have O8 : Hid (w8.ownsRow w.heap.size 46 3 v8 (k + 1) (vals pf (3 * (k + 1)))) := by
        show World.ownsRow _ _ _ _ _ _ _
        rw [← pf_push, ← HBB.out]
        exact o8
      have B8 : Hid (Below w.heap.size w w8) := (HB.out.alloc HB.out.size _).grown g8 (by have := HB.out.size; simp; omega) (fun p hp => (HO.out.lt p hp).1)
      clear o8 g8 HO HB
      go_wp2
      go_roundw
      case rel => exact ⟨k + 1, by omega, by go_num, O8, B8⟩
      case measure => simp [intOf]; omega
    · obtain rfl : k = n := by omega
      obtain ⟨g, gc, hv, _, hglt⟩ := HO.out.form (by omega)
      subst hv
      obtain ⟨cur, hcur⟩ : ∃ cur, wr.heap[g]? = some (Obj.cells cur 46 (0, 0)) := by
        rcases HO.out.2 with ⟨e1, _⟩ | ⟨g', cap', cur, e1, _, e3, _⟩
        · cases e1
        · cases e1
          exact ⟨cur, e3⟩
      have HPC : Hid (∀ wq : World, wq.heap[g]? = some (Obj.cells cur 46 (0, 0)) → ∀ i, i < k → wq.cell? ⟨g, i * 3, none⟩ = some (.int .u8 ((i % 256 : Nat) : Int))) := fun wq hq i hi => by
        have h1 := HO.out.cells (g := g) rfl (i * 3) (.int .u8 ((i % 256 : Nat) : Int)) (by
          rw [vals_get _ _ _ (by omega)]
          unfold pf
          rw [if_pos (by omega), show i * 3 / 3 = i by omega])
        rw [Addr.add_lit, Nat.zero_add] at h1
        rw [← h1]
        exact World.cell?_of_block (hq.trans hcur.symm)
      have hw1 := wr_new wr w.heap.size HB.out.size
      have bA : Below w.heap.size w (wr.alloc (Obj.cells #[Value.slice none 0 0] 41)) := HB.out.alloc HB.out.size _
      have HS : Hid (Ow w wr.heap.size [] (.slice none 0 0) (wr.alloc (Obj.cells #[Value.slice none 0 0] 41)) []) := ⟨hw1, World.ownsRow_nil _ _ _ _, (fun x hx => by cases hx), bA⟩
      have H46 : Hid ((wr.alloc (Obj.cells #[Value.slice none 0 0] 41)).heap[g]? = some (Obj.cells cur 46 (0, 0))) := by
        have hA : Below wr.heap.size wr (wr.alloc (Obj.cells #[Value.slice none 0 0] 41)) := (Below.refl _ _).alloc (Nat.le_refl _) _
        exact (hA.block g hglt).trans hcur
      clear hw1 bA HB HO hcur hglt hlt
      go_wp2_with fail
      generalize wr.heap.size = R at *
      generalize (wr.alloc (Obj.cells #[Value.slice none 0 0] 41)) = W at *
      refine (wput_any w.heap.size R [] 1 1 1 W HS.out.wt (by omega) (by simp [fb]) rfl).mono ?_
      rintro e w2 ⟨rfl, t2, x2⟩
      have S2 : Hid (Ow w R [] (.slice none 0 0) w2 ([] ++ [(1, 1)])) := HS.out.xw t2 x2
      have H2 : Hid (w2.heap[g]? = some (Obj.cells cur 46 (0, 0))) := (x2.kx g cur 46 _ H46.out (by decide) (by decide)).trans H46.out
      clear t2 x2 HS H46
      go_wp2_with fail
      refine (wput_any w.heap.size R _ 1 1 2 w2 S2.out.wt (by omega) (by simp [fb]) rfl).mono ?_
      rintro e w3 ⟨rfl, t3, x3⟩
      have S3' := S2.out.xw t3 x3
      have S3 : Hid (Ow w R (los 0) (.slice none 0 0) w3 (fhd (lits 0))) := by
        show Ow _ _ _ _ _ _
        simpa [fhd, encs, lits, los] using S3'
      have H3 : Hid (w3.heap[g]? = some (Obj.cells cur 46 (0, 0))) := (x3.kx g cur 46 _ H2.out (by decide) (by decide)).trans H2.out
      clear t3 x3 S2 H2 S3'
      go_wp2
      go_loopw [10, 11] (fun wv iv wq => ∃ i : Nat, i ≤ k ∧ iv = .int .i64 i ∧ Hid (Ow w R (los i) wv wq (fhd (lits i))) ∧ Hid (wq.heap[g]? = some (Obj.cells cur 46 (0, 0)))) (fun _ iv _ => k - (intOf iv).toNat)
      case atStart => exact ⟨0, by omega, rfl, S3, H3⟩
      case round =>
        clear S3 H3
        obtain ⟨i, hi', rfl, SI, HI⟩ := hrel
        by_cases hik : i < k
        · have ck := HPC.out wr HI.out i hik
          have q1 : (i : Int) < k := by omega
          have hfl := fhd_le (lits_ok i)
          rw [lits_len] at hfl
          have HFL : Hid (fb (fhd (lits i)) ≤ 10000) := by show fb (fhd (lits i)) ≤ 10000; omega
          obtain ⟨b, hb⟩ : ∃ b, b = i % 256 := ⟨_, rfl⟩
          have HBB : Hid (b = i % 256) := hb
          have hb9 : b < 256 := by omega
          rw [← hb] at ck
          clear hb hfl
          go_wp2_with fail
          refine (wsym_any w.heap.size R (fhd (lits i)) b wr SI.out.wt (by omega) (by have := HFL.out; omega)).mono ?_
          rintro e w4 ⟨rfl, t4, x4⟩
          have S4 : Hid (Ow w R (los i) u10 w4 (fhd (lits i) ++ [sf b])) := SI.out.xw t4 x4
          have H4 : Hid (w4.heap[g]? = some (Obj.cells cur 46 (0, 0))) := (x4.kx g cur 46 _ HI.out (by decide) (by decide)).trans HI.out
          have ck4 := HPC.out w4 H4.out i hik
          rw [← HBB.out] at ck4
          have hAB : Below w4.heap.size w4 (w4.alloc (Obj.cells #[Value.int .u8 (b : Int)] 5)) := (Below.refl _ _).alloc (Nat.le_refl _) _
          have HLR : Hid (Rd (w4.alloc (Obj.cells #[Value.int .u8 (b : Int)] 5)) (some ⟨w4.heap.size, 0, none⟩) 1 1 [(b : Int)]) := lit_rd w4 [(b : Int)] #[Value.int .u8 (b : Int)] rfl (by intro x hx; simp at hx; omega)
          have HOB : Hid (Ow w R (los i) u10 (w4.alloc (Obj.cells #[Value.int .u8 (b : Int)] 5)) (fhd (lits i) ++ [sf b])) := S4.out.keep hAB
          have H4A : Hid ((w4.alloc (Obj.cells #[Value.int .u8 (b : Int)] 5)).heap[g]? = some (Obj.cells cur 46 (0, 0))) := (hAB.block g (Array.getElem?_eq_some_iff.1 H4.out).1).trans H4.out
          have HLL : Hid ((los i).length ≤ 300) := by show (los i).length ≤ 300; rw [los_len]; omega
          clear t4 x4 hAB ck SI HI H4
          go_wp2_with (refine wpList_append_bv rfl _ _ rfl w.heap.size (los i).length _ (los i) rfl HOB.out.own (some ⟨w4.heap.size, 0, none⟩) 1 1 [(b : Int)] rfl HLR.out (by have := HLL.out; omega) HOB.out.bel.size ?_; intro v8 w8 o8 g8)
          have O8 : Hid (Ow w R (los (i + 1)) v8 w8 (fhd (lits (i + 1)))) := by
            show Ow _ _ _ _ _ _
            simp only [los, lits]
            rw [fhd_push, ← HBB.out]
            exact S4.out.push (by omega) (by omega) o8 g8
          have H8 : Hid (w8.heap[g]? = some (Obj.cells cur 46 (0, 0))) := blk_grown H4A.out HOB.out.own g8
          clear o8 g8 S4 HOB HLR H4A ck4
          go_wp2
          go_roundw
          case rel => exact ⟨i + 1, by omega, by go_num, O8, H8⟩
          case measure => simp [intOf]; omega
        · obtain rfl : i = k := by omega
          have hfl := fhd_le (lits_ok i)
          rw [lits_len] at hfl
          have HFL : Hid (fb (fhd (lits i)) ≤ 10000) := by show fb (fhd (lits i)) ≤ 10000; omega
          clear hik HPC HI hfl
          go_wp2_with fail
          refine (syml_any len _ HN.out.2.2.1 HN.out.2.2.2.1).mono ?_
          rintro e w4 ⟨s, u, rfl, s0, s1, hu, hsu, b4⟩
          have S4 : Hid (Ow w R (los i) u10 w4 (fhd (lits i))) := SI.out.keep b4
          have HSU : Hid (257 ≤ s ∧ s ≤ 285 ∧ u < 2 ^ lx s ∧ lb s + u = len) := ⟨s0, s1, hu, hsu⟩
          clear b4 SI hu hsu
          go_wp2_with fail
          refine (wsym_any w.heap.size R _ s w4 S4.out.wt (by omega) (by have := HFL.out; omega)).mono ?_
          rintro e w5 ⟨rfl, t5, x5⟩
          have S5 : Hid (Ow w R (los i) u10 w5 (fhd (lits i) ++ [sf s])) := S4.out.xw t5 x5
          have hlx : lx s ≤ 5 := (lb_le s (by omega) s0).2.2
          have hfs := fn_le s
          clear t5 x5 S4
          go_wp2_with fail
          refine (wput_any w.heap.size R _ (u : Int) (u : Int) (lx s) w5 S5.out.wt (by omega) (by rw [fb_app]; simp only [fb, sf]; have := HFL.out; omega) (Int.emod_eq_of_lt (by omega) (p2_cast _ _ HSU.out.2.2.1))).mono ?_
          rintro e w6 ⟨rfl, t6, x6⟩
          have S6 : Hid (Ow w R (los i) u10 w6 (fhd (lits i) ++ [sf s] ++ [((u : Int), lx s)])) := S5.out.xw t6 x6
          clear t6 x6 S5
          go_wp2_with fail
          refine (symd_any far w6 HN.out.2.2.2.2.1 (by have := HN.out.2.2.2.2.2; omega)).mono ?_
          rintro e w7 ⟨t, u2, rfl, t0, hu2, htu, b7⟩
          have S7 : Hid (Ow w R (los i) u10 w7 (fhd (lits i) ++ [sf s] ++ [((u : Int), lx s)])) := S6.out.keep b7
          have HTU : Hid (t < 30 ∧ u2 < 2 ^ dx t ∧ db t + u2 = far) := ⟨t0, hu2, htu⟩
          have hdx : dx t ≤ 13 := (db_le t t0).2.2
          clear b7 S6 hu2 htu
          go_wp2_with fail
          refine (wcode_any w.heap.size R _ (t : Int) 5 w7 S7.out.wt (by omega) (by rw [fb_app, fb_app]; simp only [fb, sf]; have := HFL.out; omega)).mono ?_
          rintro e w8 ⟨rfl, t8, x8⟩
          have S8 : Hid (Ow w R (los i) u10 w8 (fhd (lits i) ++ [sf s] ++ [((u : Int), lx s)] ++ [df t])) := S7.out.xw t8 x8
          clear t8 x8 S7
          go_wp2_with fail
          refine (wput_any w.heap.size R _ (u2 : Int) (u2 : Int) (dx t) w8 S8.out.wt (by omega) (by rw [fb_app, fb_app, fb_app]; simp only [fb, sf, df]; have := HFL.out; omega) (Int.emod_eq_of_lt (by omega) (p2_cast _ _ HTU.out.2.1))).mono ?_
          rintro e w9 ⟨rfl, t9, x9⟩
          have hfin : fhd (lits i) ++ [sf s] ++ [((u : Int), lx s)] ++ [df t] ++ [((u2 : Int), dx t)] = fhd (lits i ++ [.cpy s u t u2]) := by
            rw [fhd_push]
            simp [It.enc]
          have S9 : Hid (Ow w R (los i) u10 w9 (fhd (lits i ++ [.cpy s u t u2]))) := by
            show Ow _ _ _ _ _ _
            rw [← hfin]
            exact S8.out.xw t9 x9
          have HF9 : Hid (fb (fhd (lits i ++ [.cpy s u t u2])) ≤ 11000) := by
            show fb (fhd (lits i ++ [.cpy s u t u2])) ≤ 11000
            rw [← hfin, fb_app, fb_app, fb_app, fb_app]
            simp only [fb, sf, df]
            have := HFL.out
            omega
          clear t9 x9 S8 hfin hlx hfs hdx
          go_wp2_with fail
          refine (wsym_any w.heap.size R _ 256 w9 S9.out.wt (by omega) (by have := HF9.out; omega)).mono ?_
          rintro e w10 ⟨rfl, t10, x10⟩
          have S10 : Hid (Ow w R (los i) u10 w10 (fhd (lits i ++ [.cpy s u t u2]) ++ [sf 256])) := S9.out.xw t10 x10
          clear t10 x10 S9
          go_wp2_with fail
          refine (wdone_any w.heap.size R _ w10 S10.out.wt (by rw [fb_app]; have := HF9.out; have := fn_le 256; simp only [fb, sf]; omega)).mono ?_
          rintro e w11 ⟨ao, c, rfl, r11, b11⟩
          have S11 := S10.out.keep b11
          have hoks : ∀ z ∈ lits i ++ [.cpy s u t u2], z.ok := fun z hz => by
            rcases List.mem_append.1 hz with h | h
            · exact lits_ok i z h
            · simp at h
              subst h
              exact ⟨HSU.out.1, HSU.out.2.1, HSU.out.2.2.1, HTU.out.1, HTU.out.2.1⟩
          have hnb : (fb (fhd (lits i ++ [.cpy s u t u2]) ++ [sf 256]) + 7) / 8 ≤ 10000 := by
            rw [fb_app]; have := HF9.out; have := fn_le 256; simp only [fb, sf]; omega
          have hfts := S11.wt.ft
          have hmk := lits_mk i
          have hlos := los_len i
          obtain ⟨F, hF⟩ : ∃ F, F = fb (fhd (lits i ++ [.cpy s u t u2]) ++ [sf 256]) := ⟨_, rfl⟩
          obtain ⟨X, hX⟩ : ∃ X, X = fv (fhd (lits i ++ [.cpy s u t u2]) ++ [sf 256]) := ⟨_, rfl⟩
          obtain ⟨nb, hnbe⟩ : ∃ nb, nb = (F + 7) / 8 := ⟨_, rfl⟩
          have HO : Hid (Ow w R (los i) u10 w11 (fhd (lits i ++ [.cpy s u t u2]) ++ [sf 256])) := S11
          by_cases hfar : i < far
          · have h2 := hmk.far s u t u2 5000 (by rw [hlos, HTU.out.2.2]; exact hfar) (by rw [hlos]; omega)
            have hI := fhd_inf hoks hfts 5000 2 (play 5000 (lits i ++ [.cpy s u t u2]) []).2 (by rw [← h2])
            rw [← hF, ← hX] at hI r11
            rw [← hF] at hnb ⊢
            rw [← hnbe] at hI r11 hnb ⊢
            have g1 : (i : Int) < far := by omega
            have HI : Hid (∃ o2, Inf X nb 5000 1 0 [] 2 o2 F) := ⟨_, hI⟩
            have HRB : Hid (Rd w11 ao nb c (by8 X nb)) := r11
            clear hF hX hnbe hI h2 hmk hfts hoks S10 S11 r11 b11 hfar
            obtain ⟨o2, hI2⟩ := HI.out
            go_wp2_with fail
            refine (inflate_any ao nb c X 5000 1 2 o2 F [] 0 w11 HRB.out (by omega) (by omega) hI2 (.inr ⟨by omega, rfl, rfl⟩)).mono ?_
            rintro e w12 ⟨yo, yc, rfl, r12, b12⟩
            have HB12 : Hid (Below w.heap.size w w12) := HO.out.bel.trans (b12.mono HO.out.bel.size)
            clear r12 b12 HO HRB HI hI2
            go_wp2
            go_ret
            exact ⟨rfl, HB12.out⟩
          · have h2 := hmk.cpy s u t u2 (by rw [hlos, HTU.out.2.2]; exact Nat.not_lt.1 hfar)
            rw [HSU.out.2.2.2, HTU.out.2.2] at h2
            have hcl : (cps len far (los i)).length = i + len := by rw [cps_len, hlos]
            have hI := fhd_inf hoks hfts 5000 0 (cps len far (los i)) ((h2 5000).1 (by rw [hcl]; omega))
            rw [← hF, ← hX] at hI r11
            rw [← hF] at hnb ⊢
            rw [← hnbe] at hI r11 hnb ⊢
            have g1 : decide ((i : Int) < far) = false := by simp; omega
            have g2 : far ≤ i := by omega
            have g4 : decide (i < far) = false := by simp; omega
            have g3 : ((far : Nat) : Int) ≤ i := by omega
            have HI : Hid (Inf X nb 5000 1 0 [] 0 (cps len far (los i)) F) := hI
            have HRB : Hid (Rd w11 ao nb c (by8 X nb)) := r11
            have HNB : Hid (nb = (F + 7) / 8) := hnbe
            have HCL : Hid ((cps len far (los i)).length = i + len) := hcl
            clear hF hX hnbe hI h2 hmk hfts hoks S10 S11 r11 b11 hfar hcl hlos
            go_wp2_with fail
            refine (inflate_new ao nb c X 5000 1 0 (cps len far (los i)) F (cps len far (los i)) nb w11 HRB.out (by omega) (by omega) HI.out (.inl ⟨rfl, rfl, HNB.out⟩)).mono ?_
            rintro e w12 ⟨yo, yc, rfl, r12, b12, n12⟩
            have HO12 : Hid (Ow w R (cps 0 far (los i)) u10 w12 (fhd (lits i ++ [.cpy s u t u2]) ++ [sf 256])) := HO.out.keep b12
            have HSEP : Hid (∀ ad p, yo = some ad → u10.ownBlock = some p → p ≠ ad.block) := fun ad p had hp e => by
              have h1 := (HO.out.own.lt p hp).2
              have h2 := n12 ad had
              omega
            have HR12 : Hid (Rd w12 yo (i + len) yc (cps len far (los i))) := by
              show Rd _ _ _ _ _
              rw [← HCL.out]
              exact r12
            rw [HCL.out]
            clear r12 b12 n12 HO HRB HI
            obtain ⟨cl, hcle⟩ : ∃ cl, cl = i + len := ⟨_, rfl⟩
            have HCE : Hid (cl = i + len) := hcle
            rw [← hcle] at HR12 ⊢
            clear hcle
            obtain ⟨i5, hi5, hz50, hz51, hz52⟩ := info_parts Tryd.info5
            go_wp2
            go_loopw [10, 18] (fun wv qv wq => ∃ q : Nat, q ≤ len ∧ qv = .int .i64 q ∧ Hid (Ow w R (cps q far (los i)) wv wq (fhd (lits i ++ [.cpy s u t u2]) ++ [sf 256])) ∧ Hid (Rd wq yo cl yc (cps len far (los i))) ∧ Hid (∀ ad p, yo = some ad → wv.ownBlock = some p → p ≠ ad.block)) (fun _ qv _ => len - (intOf qv).toNat)
            case atStart => exact ⟨0, by omega, rfl, HO12, HR12, HSEP⟩
            case round =>
              clear HO12 HR12 HSEP
              obtain ⟨q, hq, rfl, SQ, RQ, EQ⟩ := hrel
              by_cases hql : q < len
              · obtain ⟨ys, hys⟩ : ∃ ys, ys = cps q far (los i) := ⟨_, rfl⟩
                have hyl : ys.length = i + q := by rw [hys, cps_len, los_len]
                have hcons : cps (q + 1) far (los i) = ys ++ [ys.getD (ys.length - far) 0] := by rw [hys]; rfl
                have SY : Ow w R ys u10 wr (fhd (lits i ++ [.cpy s u t u2]) ++ [sf 256]) := by rw [hys]; exact SQ.out
                obtain ⟨vo, vc, rfl, vr, _⟩ := own_rd SY.own SY.byt
                obtain ⟨gg, og, rfl, hcell⟩ := vr.plain (by omega)
                have hj := hcell (ys.length - far) (by omega)
                have hxb := vr.byt (ys.getD (ys.length - far) 0) (by
                  rw [List.getD, List.getElem?_eq_getElem (show ys.length - far < ys.length by omega)]
                  simp)
                obtain ⟨x, hx⟩ : ∃ x, x = ys.getD (ys.length - far) 0 := ⟨_, rfl⟩
                rw [← hx] at hj hxb hcons
                have HSY : Hid (Ow w R ys (.slice (some ⟨gg, og, none⟩) ys.length vc) wr (fhd (lits i ++ [.cpy s u t u2]) ++ [sf 256])) := SY
                obtain ⟨M, hM⟩ : ∃ M, M = ys.length := ⟨_, rfl⟩
                have HM : Hid (M = ys.length) := hM
                rw [← hM] at hj hyl ⊢
                obtain ⟨j, hjj⟩ : ∃ j, j = M - far := ⟨_, rfl⟩
                rw [← hjj] at hj
                have q1 : (M : Int) - far = j := by omega
                have q2 : IntKind.i64.wrap (j : Int) = j := wraps_i64 _ (by omega) (by omega)
                have q3 : j < M := by omega
                have q4 : (j : Int) < M := by omega
                have q5 : (q : Int) < len := by omega
                have hAB : Below wr.heap.size wr (wr.alloc (Obj.cells #[Value.int .u8 x] 5)) := (Below.refl _ _).alloc (Nat.le_refl _) _
                have HOB : Hid ((wr.alloc (Obj.cells #[Value.int .u8 x] 5)).ownsRow w.heap.size 5 1 (.slice (some ⟨gg, og, none⟩) M vc) M (ys.map (Value.int .u8)) ∧ w.heap.size ≤ (wr.alloc (Obj.cells #[Value.int .u8 x] 5)).heap.size) := by
                  have := SY.keep hAB
                  exact ⟨by rw [hM]; exact this.own, this.bel.size⟩
                have HRX : Hid (Rd (wr.alloc (Obj.cells #[Value.int .u8 x] 5)) yo cl yc (cps len far (los i)) ∧ ∀ ad, yo = some ad → ad.block < wr.heap.size) := ⟨RQ.out.keep hAB, fun ad had => by
                  have hc := RQ.out.cells ad had 0 (by have := HCE.out; omega)
                  have := World.block_lt_of_cell? wr _ hc
                  rwa [show (ad.add 0).block = ad.block by unfold Addr.add; split <;> rfl] at this⟩
                have HC : Hid (cps (q + 1) far (los i) = ys ++ [x]) := hcons
                have hM9 : M ≤ 10000 := by omega
                clear hys hcons SY vr hcell hx hM hjj SQ hAB hyl RQ
                go_wp2_with (refine wpList_append_lies _ rfl _ _ 30 rfl w.heap.size 5 i5 (.int .u8 0) 1 1 Tryd.underlying30 hi5 hz50 hz51 hz52 rfl (by decide) (.slice (some ⟨gg, og, none⟩) M vc) M (ys.map (Value.int .u8)) rfl HOB.out.1 ⟨wr.heap.size, 0, none⟩ 1 1 [_] rfl rfl (cell_one_new _ _ _) (by intro z hz; simp at hz; subst hz; rfl) (by omega) (by unfold maxLen; omega) (by omega) HOB.out.2 (wr.heap.size + 1) (by simp) ?_; intro g8 c8 w8 o8 e8 l8 s8)
                have O8 : Hid (Ow w R (cps (q + 1) far (los i)) (.slice (some ⟨g8, 0, none⟩) (M + 1) c8) w8 (fhd (lits i ++ [.cpy s u t u2]) ++ [sf 256])) := by
                  show Ow _ _ _ _ _ _
                  rw [HC.out]
                  rw [HM.out] at o8 e8 ⊢
                  exact HSY.out.push hxb.1 hxb.2 (by rw [List.map_append]; exact o8) e8
                have R8 : Hid (Rd w8 yo cl yc (cps len far (los i))) := HRX.out.1.fr ((Fr.refl (fun p => (Value.slice (some ⟨gg, og, none⟩) M vc).ownBlock = some p) _).grown e8 (fun _ _ hp => hp)) (fun ad had _ hp => EQ.out ad ad.block had hp rfl)
                have E8 : Hid (∀ ad p, yo = some ad → (Value.slice (some ⟨g8, 0, none⟩) (M + 1) c8).ownBlock = some p → p ≠ ad.block) := fun ad p had hp e => by
                  simp [Value.ownBlock] at hp
                  rcases l8 with h | h
                  · exact EQ.out ad p had (by rw [← hp]; exact h) e
                  · have := HRX.out.2 ad had
                    omega
                clear o8 e8 l8 s8 HOB HSY HC hj HRX EQ
                go_wp2
                go_roundw
                case rel => exact ⟨q + 1, by omega, by go_num, O8, R8, E8⟩
                case measure => simp [intOf]; omega
              · obtain rfl : q = len := by omega
                obtain ⟨vo, vc, rfl, vr, _⟩ := own_rd SQ.out.own SQ.out.byt
                have s1 := RQ.out.str
                have s2 := vr.str
                rw [HCL.out, ← HCE.out] at s2 ⊢
                have HB : Hid (Below w.heap.size w wr) := SQ.out.bel
                clear hql SQ RQ EQ vr
                go_wp2
                go_ret
                exact ⟨rfl, HB.out⟩

end Go.Proofs.YtjkfmnahmbnbnaaDoor
