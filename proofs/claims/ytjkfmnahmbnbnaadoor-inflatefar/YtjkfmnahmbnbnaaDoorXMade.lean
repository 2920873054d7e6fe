/- The statements' own fixed: parts as one fixed block. -/
import Derived.Test.YtjkfmnahmbnbnaaDoorMk
namespace Go.Proofs.YtjkfmnahmbnbnaaDoor
open Go.RowKit

/-- A slice of parts that came in: a byte and two numbers each. -/
def IsParts (w : World) (a : Option Addr) (len : Nat) (O N D : Nat → Int) : Prop :=
  ∀ j, j < len → ∃ b off, a = some ⟨b, off, none⟩ ∧ w.cell? ⟨b, off + j * 3, none⟩ = some (.int .u8 (O j)) ∧ w.cell? ⟨b, off + j * 3 + 1, none⟩ = some (.int .i64 (N j)) ∧ w.cell? ⟨b, off + j * 3 + 2, none⟩ = some (.int .i64 (D j)) ∧ 0 ≤ O j ∧ O j < 256

/-- A part's cells. -/
def pcells (o n d : Int) : Nat → Value
  | 0 => .int .u8 o
  | 1 => .int .i64 n
  | _ => .int .i64 d

/-- The fields of a fixed block, but its end. -/
def fhd (its : List It) : List Fd := [(1, 1)] ++ [(1, 2)] ++ encs its

theorem fhd_fb (its : List It) : fb (fhd its) = 3 + fb (encs its) := by simp [fhd, fb]; omega

theorem fhd_le {its : List It} (h : ∀ i ∈ its, i.ok) : fb (fhd its) ≤ 3 + 32 * its.length := by
  rw [fhd_fb]; have := encs_le h; omega

theorem fhd_push (its : List It) (i : It) : fhd (its ++ [i]) = fhd its ++ i.enc := by
  simp [fhd, encs_app, encs]

/-- What fixed answers: that one may not be, or the block's bytes and what the parts make. -/
def FixOut (w : World) (e : Ending) (w' : World) : Prop :=
  (e = .returned (.tuple #[.slice none 0 0, .slice none 0 0, .bool false]) ∧ Below w.heap.size w w') ∨
  ∃ its os ao c oo oc, e = .returned (.tuple #[.slice ao ((fb (fhd its ++ [sf 256]) + 7) / 8) c, .slice oo (os : List Int).length oc, .bool true]) ∧ (∀ i ∈ its, i.ok) ∧ its.length ≤ 100 ∧ Mk its os ∧ os.length ≤ 5000 ∧
    Ft (fhd its ++ [sf 256]) ∧ Rd w' ao ((fb (fhd its ++ [sf 256]) + 7) / 8) c (by8 (fv (fhd its ++ [sf 256])) ((fb (fhd its ++ [sf 256]) + 7) / 8)) ∧ Rd w' oo os.length oc os ∧ Below w.heap.size w w'

/-- Where the loop over the parts stands. -/
structure Lp (w : World) (R k : Nat) (v : Value) (wr : World) (its : List It) (os : List Int) : Prop where
  ow : Ow w R os v wr (fhd its)
  ok : ∀ i ∈ its, i.ok
  len : its.length = k
  mkd : Mk its os
  ol : os.length ≤ 4300 + k

set_option maxRecDepth 100000 in
set_option maxHeartbeats 2000000 in
theorem fixw_any (a0 : Option Addr) (L cap : Nat) (O N D : Nat → Int) (w : World) (hL : L ≤ 100) (hp : IsParts w a0 L O N D) :
    Calls Tryd.prog 14 #[.slice a0 L cap] w fun e w' => FixOut w e w' := by
  have HP : Hid (IsParts w a0 L O N D) := hp
  clear hp
  go_enter Tryd.func14, Tryd.ntmps14
  go_wp2_with fail
  have hw1 := wr_new w w.heap.size (Nat.le_refl _)
  have bA : Below w.heap.size w (w.alloc (Obj.cells #[Value.slice none 0 0] 41)) := (Below.refl _ _).alloc (Nat.le_refl _) _
  have HS : Hid (Ow w w.heap.size [] (.slice none 0 0) (w.alloc (Obj.cells #[Value.slice none 0 0] 41)) []) := ⟨hw1, World.ownsRow_nil _ _ _ _, (fun x hx => by cases hx), bA⟩
  clear hw1 bA
  obtain ⟨R, hR⟩ : ∃ R, R = w.heap.size := ⟨_, rfl⟩
  rw [← hR]
  have HS' : Hid (Ow w R [] (.slice none 0 0) (w.alloc (Obj.cells #[Value.slice none 0 0] 41)) []) := by show Ow _ _ _ _ _ _; rw [hR]; exact HS.out
  clear HS hR
  generalize (w.alloc (Obj.cells #[Value.slice none 0 0] 41)) = W at *
  refine (wput_any w.heap.size R [] 1 1 1 W HS'.out.wt (by omega) (by simp [fb]) rfl).mono ?_
  rintro e w2 ⟨rfl, t2, x2⟩
  have S2 := HS'.out.xw t2 x2
  go_wp2_with fail
  refine (wput_any w.heap.size R _ 1 1 2 w2 S2.wt (by omega) (by simp [fb]) rfl).mono ?_
  rintro e w3 ⟨rfl, t3, x3⟩
  have H3 : Hid (Lp w R 0 (.slice none 0 0) w3 [] []) := ⟨by simpa [fhd, encs] using S2.xw t3 x3, (fun i hi => by cases hi), rfl, Mk.nil, by simp⟩
  clear S2 t2 x2 t3 x3 HS'
  go_wp2
  go_loopw [6, 7] (fun wv iv wr => ∃ (k : Nat) (its : List It) (os : List Int), k ≤ L ∧ iv = .int .i64 k ∧ Hid (Lp w R k wv wr its os)) (fun _ iv _ => L - (intOf iv).toNat)
  case atStart => exact ⟨0, [], [], by omega, rfl, H3⟩
  case round =>
    clear H3
    obtain ⟨k, its, os, hk, rfl, HL⟩ := hrel
    by_cases hlt : k < L
    · obtain ⟨b0, off, rfl, p0, p1, p2', o0, o1⟩ := HP.out k hlt
      have bel := HL.out.ow.bel
      have c0 := (bel.cell (World.block_lt_of_cell? w _ p0)).trans p0
      have c1 := (bel.cell (World.block_lt_of_cell? w _ p1)).trans p1
      have c2 := (bel.cell (World.block_lt_of_cell? w _ p2')).trans p2'
      have hkL : (k : Int) < L := by omega
      have hfl := fhd_le HL.out.ok
      have hlen := HL.out.len
      have hol := HL.out.ol
      clear p0 p1 p2' bel
      generalize O k = o at *
      generalize N k = nn at *
      generalize D k = dd at *
      have rA : (wr.alloc (Obj.cells #[Value.int .u8 o, Value.int .i64 nn, Value.int .i64 dd] 46)).rowIs wr.heap.size 46 3 (pcells o nn dd) := World.rowIs_alloc wr _ 46 _ (fun i hi => by simp at hi; rcases i with _ | _ | _ | i <;> first | rfl | omega)
      have hA : Below wr.heap.size wr (wr.alloc (Obj.cells #[Value.int .u8 o, Value.int .i64 nn, Value.int .i64 dd] 46)) := (Below.refl _ _).alloc (Nat.le_refl _) _
      have HOA : Hid (Ow w R os u6 (wr.alloc (Obj.cells #[Value.int .u8 o, Value.int .i64 nn, Value.int .i64 dd] 46)) (fhd its)) := HL.out.ow.keep hA
      have HRA : Hid ((wr.alloc (Obj.cells #[Value.int .u8 o, Value.int .i64 nn, Value.int .i64 dd] 46)).rowIs wr.heap.size 46 3 (pcells o nn dd)) := rA
      have HMK : Hid (Mk its os ∧ (∀ i ∈ its, i.ok) ∧ its.length = k ∧ fb (fhd its) ≤ 4000) := ⟨HL.out.mkd, HL.out.ok, hlen, by omega⟩
      clear hfl hlen hA rA
      by_cases hz : nn = 0
      · subst hz
        obtain ⟨b, rfl⟩ := Int.eq_ofNat_of_zero_le o0
        have hb : b < 256 := by omega
        clear HL
        go_wp2_with fail
        refine (wsym_any w.heap.size R (fhd its) b _ HOA.out.wt (by omega) (by have := HMK.out.2.2.2; omega)).mono ?_
        rintro e w4 ⟨rfl, t4, x4⟩
        have S4 : Hid (Ow w R os u6 w4 (fhd its ++ [sf b])) := HOA.out.xw t4 x4
        have r4 := rowIs_kx HRA.out x4.kx (by decide) (by decide)
        have k0 := r4.cell (i := 0) (by omega)
        simp only [pcells] at k0
        have hol5 : os.length ≤ 5000 := by omega
        have HOL : Hid (os.length ≤ 5000 ∧ os.length ≤ 4300 + k) := ⟨hol5, hol⟩
        have hAB : Below w4.heap.size w4 (w4.alloc (Obj.cells #[Value.int .u8 (b : Int)] 5)) := (Below.refl _ _).alloc (Nat.le_refl _) _
        have HLR : Hid (Rd (w4.alloc (Obj.cells #[Value.int .u8 (b : Int)] 5)) (some ⟨w4.heap.size, 0, none⟩) 1 1 [(b : Int)]) := lit_rd w4 [(b : Int)] #[Value.int .u8 (b : Int)] rfl (by intro x hx; simp at hx; omega)
        have HOB : Hid (Ow w R os u6 (w4.alloc (Obj.cells #[Value.int .u8 (b : Int)] 5)) (fhd its ++ [sf b])) := S4.out.keep hAB
        clear t4 x4 r4 hAB HOA HRA c0 c1 c2 hol hol5
        go_wp2_with (refine wpList_append_bv rfl _ _ rfl w.heap.size os.length _ os rfl HOB.out.own (some ⟨w4.heap.size, 0, none⟩) 1 1 [(b : Int)] rfl HLR.out (by have := HOL.out.1; omega) HOB.out.bel.size ?_; intro v8 w8 o8 g8)
        have O8 := S4.out.push (by omega) (by omega) o8 g8
        have L8 : Hid (Lp w R (k + 1) v8 w8 (its ++ [.lit b]) (os ++ [(b : Int)])) := by
          refine ⟨by rw [fhd_push]; exact O8, ?_, by simp [HMK.out.2.2.1], HMK.out.1.lit b, by have := HOL.out.2; simp; omega⟩
          intro i hi
          rcases List.mem_append.1 hi with h | h
          · exact HMK.out.2.1 i h
          · simp at h
            subst h
            exact hb
        clear O8 o8 g8 S4 HOB HLR k0 HOL HMK
        go_wp2
        go_roundw
        case rel => exact ⟨k + 1, _, _, by omega, by go_num, L8⟩
        case measure => simp [intOf]; omega
      · have z1 : (nn == 0) = false := by simp [hz]
        obtain ⟨uo, uc, rfl, ur, _⟩ := own_rd HL.out.ow.own HL.out.ow.byt
        obtain ⟨lo, hlo⟩ : ∃ lo, lo = os.length := ⟨_, rfl⟩
        have HLO : Hid (lo = os.length) := hlo
        rw [← hlo] at hol HOA ⊢
        have HBL : Hid (Below w.heap.size w (wr.alloc (Obj.cells #[Value.int .u8 o, Value.int .i64 nn, Value.int .i64 dd] 46))) := HOA.out.bel
        clear HL hlo ur
        have r0 := HRA.out.cell (i := 0) (by omega)
        have r1 := HRA.out.cell (i := 1) (by omega)
        have r2 := HRA.out.cell (i := 2) (by omega)
        simp only [pcells] at r0 r1 r2
        by_cases i1 : nn < 3
        · go_wp2
          go_ret3
          exact .inl ⟨rfl, HBL.out⟩
        have j1 : decide (nn < 3) = false := by simp; omega
        by_cases i2 : 258 < nn
        · go_wp2
          go_ret3
          exact .inl ⟨rfl, HBL.out⟩
        have j2 : decide (258 < nn) = false := by simp; omega
        by_cases i3 : dd < 1
        · go_wp2
          go_ret3
          exact .inl ⟨rfl, HBL.out⟩
        have j3 : decide (dd < 1) = false := by simp; omega
        by_cases i4 : (lo : Int) < dd
        · go_wp2
          go_ret3
          exact .inl ⟨rfl, HBL.out⟩
        have j4 : decide ((lo : Int) < dd) = false := by simp; omega
        have j5 : decide (32768 < dd) = false := by simp; omega
        by_cases i6 : (4000 : Int) < lo
        · go_wp2
          go_ret3
          exact .inl ⟨rfl, HBL.out⟩
        have j6 : decide ((4000 : Int) < lo) = false := by simp; omega
        obtain ⟨n', rfl⟩ := Int.eq_ofNat_of_zero_le (show 0 ≤ nn by omega)
        obtain ⟨d', rfl⟩ := Int.eq_ofNat_of_zero_le (show 0 ≤ dd by omega)
        have hn3 : 3 ≤ n' ∧ n' ≤ 258 := by omega
        have hd1 : 1 ≤ d' ∧ d' ≤ 32768 ∧ d' ≤ lo ∧ lo ≤ 4000 := by omega
        have HND : Hid (3 ≤ n' ∧ n' ≤ 258 ∧ 1 ≤ d' ∧ d' ≤ 32768 ∧ d' ≤ lo ∧ lo ≤ 4000) := ⟨hn3.1, hn3.2, hd1⟩
        obtain ⟨m1, m2⟩ := hn3
        obtain ⟨m3, m4, m5, m6⟩ := hd1
        have m7 : ((d' : Nat) : Int) ≤ lo := by omega
        clear i1 i2 i3 i4 i6 hol r0 hz
        go_wp2_with fail
        refine (syml_any n' _ HND.out.1 HND.out.2.1).mono ?_
        rintro e w4 ⟨s, u, rfl, s0, s1, hu, hsu, b4⟩
        have S4 : Hid (Ow w R os (.slice uo lo uc) w4 (fhd its)) := HOA.out.keep b4
        have R4 : Hid (w4.rowIs wr.heap.size 46 3 (pcells o n' d')) := HRA.out.of_block (b4.block _ HRA.out.lt)
        have HSU : Hid (257 ≤ s ∧ s ≤ 285 ∧ u < 2 ^ lx s ∧ lb s + u = n') := ⟨s0, s1, hu, hsu⟩
        clear b4 HOA HRA c0 c1 c2 r1 r2 hu hsu j1 j2 j3 j4 j5 j6 m1 m2 m3 m4 m5 m6 m7
        go_wp2_with fail
        refine (wsym_any w.heap.size R (fhd its) s w4 S4.out.wt (by omega) (by have := HMK.out.2.2.2; omega)).mono ?_
        rintro e w5 ⟨rfl, t5, x5⟩
        have S5 : Hid (Ow w R os (.slice uo lo uc) w5 (fhd its ++ [sf s])) := S4.out.xw t5 x5
        have R5 : Hid (w5.rowIs wr.heap.size 46 3 (pcells o n' d')) := rowIs_kx R4.out x5.kx (by decide) (by decide)
        have hlx : lx s ≤ 5 := (lb_le s (by omega) s0).2.2
        have hfs := fn_le s
        clear t5 x5 S4 R4
        go_wp2_with fail
        refine (wput_any w.heap.size R _ (u : Int) (u : Int) (lx s) w5 S5.out.wt (by omega) (by rw [fb_app]; simp only [fb, sf]; have := HMK.out.2.2.2; omega) (Int.emod_eq_of_lt (by omega) (p2_cast _ _ HSU.out.2.2.1))).mono ?_
        rintro e w6 ⟨rfl, t6, x6⟩
        have S6 : Hid (Ow w R os (.slice uo lo uc) w6 (fhd its ++ [sf s] ++ [((u : Int), lx s)])) := S5.out.xw t6 x6
        have R6 : Hid (w6.rowIs wr.heap.size 46 3 (pcells o n' d')) := rowIs_kx R5.out x6.kx (by decide) (by decide)
        have r2 := R6.out.cell (i := 2) (by omega)
        simp only [pcells] at r2
        clear t6 x6 S5 R5
        go_wp2_with fail
        refine (symd_any d' w6 HND.out.2.2.1 HND.out.2.2.2.1).mono ?_
        rintro e w7 ⟨t, u2, rfl, t0, hu2, htu, b7⟩
        have S7 : Hid (Ow w R os (.slice uo lo uc) w7 (fhd its ++ [sf s] ++ [((u : Int), lx s)])) := S6.out.keep b7
        have R7 : Hid (w7.rowIs wr.heap.size 46 3 (pcells o n' d')) := R6.out.of_block (b7.block _ R6.out.lt)
        have HTU : Hid (t < 30 ∧ u2 < 2 ^ dx t ∧ db t + u2 = d') := ⟨t0, hu2, htu⟩
        have hdx : dx t ≤ 13 := (db_le t t0).2.2
        clear b7 S6 R6 r2 hu2 htu
        go_wp2_with fail
        refine (wcode_any w.heap.size R _ (t : Int) 5 w7 S7.out.wt (by omega) (by rw [fb_app, fb_app]; simp only [fb, sf]; have := HMK.out.2.2.2; omega)).mono ?_
        rintro e w8 ⟨rfl, t8, x8⟩
        have S8 : Hid (Ow w R os (.slice uo lo uc) w8 (fhd its ++ [sf s] ++ [((u : Int), lx s)] ++ [df t])) := S7.out.xw t8 x8
        have R8 : Hid (w8.rowIs wr.heap.size 46 3 (pcells o n' d')) := rowIs_kx R7.out x8.kx (by decide) (by decide)
        clear t8 x8 S7 R7
        go_wp2_with fail
        refine (wput_any w.heap.size R _ (u2 : Int) (u2 : Int) (dx t) w8 S8.out.wt (by omega) (by rw [fb_app, fb_app, fb_app]; simp only [fb, sf, df]; have := HMK.out.2.2.2; omega) (Int.emod_eq_of_lt (by omega) (p2_cast _ _ HTU.out.2.1))).mono ?_
        rintro e w9 ⟨rfl, t9, x9⟩
        have hfin : fhd its ++ [sf s] ++ [((u : Int), lx s)] ++ [df t] ++ [((u2 : Int), dx t)] = fhd (its ++ [.cpy s u t u2]) := by
          rw [fhd_push]
          simp [It.enc]
        have S9 : Hid (Ow w R os (.slice uo lo uc) w9 (fhd (its ++ [.cpy s u t u2]))) := by
          show Ow _ _ _ _ _ _
          rw [← hfin]
          exact S8.out.xw t9 x9
        have R9 : Hid (w9.rowIs wr.heap.size 46 3 (pcells o n' d')) := rowIs_kx R8.out x9.kx (by decide) (by decide)
        clear t9 x9 S8 R8 hfin hlx hfs hdx
        clear HBL
        generalize wr.heap.size = P at *
        go_wp2
        go_loopw [6, 12] (fun wv qv wq => ∃ q : Nat, q ≤ n' ∧ qv = .int .i64 q ∧ Hid (Ow w R (cps q d' os) wv wq (fhd (its ++ [.cpy s u t u2]))) ∧ Hid (wq.rowIs P 46 3 (pcells o n' d'))) (fun _ qv _ => n' - (intOf qv).toNat)
        case atStart => exact ⟨0, by omega, rfl, S9, R9⟩
        case round =>
          clear S9 R9
          obtain ⟨q, hq, rfl, SQ, RQ⟩ := hrel
          have r1 := RQ.out.cell (i := 1) (by omega)
          have r2 := RQ.out.cell (i := 2) (by omega)
          simp only [pcells] at r1 r2
          by_cases hql : q < n'
          · obtain ⟨ys, hys⟩ : ∃ ys, ys = cps q d' os := ⟨_, rfl⟩
            have hyl : ys.length = lo + q := by rw [hys, cps_len, HLO.out]
            have hcons : cps (q + 1) d' os = ys ++ [ys.getD (ys.length - d') 0] := by rw [hys]; rfl
            have SY : Ow w R ys u6 wr (fhd (its ++ [.cpy s u t u2])) := by rw [hys]; exact SQ.out
            obtain ⟨vo, vc, rfl, vr, _⟩ := own_rd SY.own SY.byt
            have hnd := HND.out
            obtain ⟨g, og, rfl, hcell⟩ := vr.plain (by omega)
            have hj := hcell (ys.length - d') (by omega)
            have hxb := vr.byt (ys.getD (ys.length - d') 0) (by
              rw [List.getD, List.getElem?_eq_getElem (show ys.length - d' < ys.length by omega)]
              simp)
            obtain ⟨x, hx⟩ : ∃ x, x = ys.getD (ys.length - d') 0 := ⟨_, rfl⟩
            rw [← hx] at hj hxb hcons
            have HSY : Hid (Ow w R ys (.slice (some ⟨g, og, none⟩) ys.length vc) wr (fhd (its ++ [.cpy s u t u2]))) := SY
            obtain ⟨M, hM⟩ : ∃ M, M = ys.length := ⟨_, rfl⟩
            have HM : Hid (M = ys.length) := hM
            rw [← hM] at hj hyl ⊢
            obtain ⟨j, hjj⟩ : ∃ j, j = M - d' := ⟨_, rfl⟩
            rw [← hjj] at hj
            have q1 : (M : Int) - d' = j := by omega
            have q2 : IntKind.i64.wrap (j : Int) = j := wraps_i64 _ (by omega) (by omega)
            have q3 : j < M := by omega
            have q4 : (j : Int) < M := by omega
            have q5 : (q : Int) < n' := by omega
            have hAB : Below wr.heap.size wr (wr.alloc (Obj.cells #[Value.int .u8 x] 5)) := (Below.refl _ _).alloc (Nat.le_refl _) _
            have HLR : Hid (Rd (wr.alloc (Obj.cells #[Value.int .u8 x] 5)) (some ⟨wr.heap.size, 0, none⟩) 1 1 [x]) := lit_rd wr [x] #[Value.int .u8 x] rfl (by intro y hy; simp at hy; omega)
            have HOB : Hid ((wr.alloc (Obj.cells #[Value.int .u8 x] 5)).ownsRow w.heap.size 5 1 (.slice (some ⟨g, og, none⟩) M vc) M (ys.map (Value.int .u8)) ∧ w.heap.size ≤ (wr.alloc (Obj.cells #[Value.int .u8 x] 5)).heap.size) := by
              have := SY.keep hAB
              exact ⟨by rw [hM]; exact this.own, this.bel.size⟩
            have HRB : Hid ((wr.alloc (Obj.cells #[Value.int .u8 x] 5)).rowIs P 46 3 (pcells o n' d')) := RQ.out.of_block (hAB.block _ RQ.out.lt)
            have HC : Hid (cps (q + 1) d' os = ys ++ [x]) := hcons
            have hM9 : M ≤ 10000 := by omega
            have hq9 : q ≤ 300 := by omega
            clear hys hcons SY vr hcell hx hM hjj SQ hAB hnd hyl
            go_wp2_with (refine wpList_append_bv rfl _ _ rfl w.heap.size M _ ys rfl HOB.out.1 (some ⟨wr.heap.size, 0, none⟩) 1 1 [x] rfl HLR.out (by omega) HOB.out.2 ?_; intro v8 w8 o8 g8)
            have O8 : Hid (Ow w R (cps (q + 1) d' os) v8 w8 (fhd (its ++ [.cpy s u t u2]))) := by
              show Ow _ _ _ _ _ _
              rw [HC.out]
              rw [HM.out] at o8 g8
              exact HSY.out.push hxb.1 hxb.2 o8 g8
            have R8 : Hid (w8.rowIs P 46 3 (pcells o n' d')) := row_grown HRB.out HOB.out.1 g8 (by decide)
            clear o8 g8 HRB HOB HLR HSY HC hj RQ r1 r2
            go_wp2
            go_roundw
            case rel => exact ⟨q + 1, by omega, by go_num, O8, R8⟩
            case measure => simp [intOf]; omega
          · obtain rfl : q = n' := by omega
            have hfin : Hid (Lp w R (k + 1) u6 wr (its ++ [.cpy s u t u2]) (cps q d' os)) := by
              obtain ⟨a1, a2, a3, a4⟩ := HSU.out
              obtain ⟨d1, d2, d3⟩ := HTU.out
              have hm := HMK.out.1.cpy s u t u2 (by rw [d3, ← HLO.out]; exact HND.out.2.2.2.2.1)
              rw [a4, d3] at hm
              refine ⟨SQ.out, ?_, by simp [HMK.out.2.2.1], hm, by rw [cps_len, ← HLO.out]; have := HND.out; omega⟩
              intro i hi
              rcases List.mem_append.1 hi with h | h
              · exact HMK.out.2.1 i h
              · simp at h
                subst h
                exact ⟨a1, a2, a3, d1, d2⟩
            clear hql SQ RQ r2 HMK HSU HTU HND
            go_wp2
            go_roundw
            case rel => exact ⟨k + 1, _, _, by omega, by go_num, hfin⟩
            case measure => simp [intOf]; omega
    · obtain rfl : k = L := by omega
      have hfl := fhd_le HL.out.ok
      have hlen := HL.out.len
      have hol := HL.out.ol
      have HB : Hid (fb (fhd its) ≤ 4000 ∧ os.length ≤ 5000 ∧ its.length ≤ 100) := ⟨by omega, by omega, by omega⟩
      clear hfl hlen hol
      go_wp2_with fail
      refine (wsym_any w.heap.size R (fhd its) 256 wr HL.out.ow.wt (by omega) (by have := HB.out.1; omega)).mono ?_
      rintro e w4 ⟨rfl, t4, x4⟩
      have S4 : Hid (Ow w R os u6 w4 (fhd its ++ [sf 256])) := HL.out.ow.xw t4 x4
      have HMK : Hid (Mk its os ∧ ∀ i ∈ its, i.ok) := ⟨HL.out.mkd, HL.out.ok⟩
      clear t4 x4 HL
      go_wp2_with fail
      refine (wdone_any w.heap.size R _ w4 S4.out.wt (by rw [fb_app]; have := HB.out.1; have := fn_le 256; simp only [fb, sf]; omega)).mono ?_
      rintro e w5 ⟨ao, c, rfl, r5, b5⟩
      have S5 := S4.out.keep b5
      obtain ⟨vo, vc, rfl, vr, _⟩ := own_rd S5.own S5.byt
      have HF : Hid (Ft (fhd its ++ [sf 256]) ∧ Rd w5 ao ((fb (fhd its ++ [sf 256]) + 7) / 8) c (by8 (fv (fhd its ++ [sf 256])) ((fb (fhd its ++ [sf 256]) + 7) / 8)) ∧ Rd w5 vo os.length vc os ∧ Below w.heap.size w w5) := ⟨S5.wt.ft, r5, vr, S5.bel⟩
      clear S4 S5 vr r5 b5
      go_wp2
      go_ret3
      exact .inr ⟨its, os, ao, c, vo, vc, rfl, HMK.out.2, HB.out.2.2, HMK.out.1, HB.out.2.1, HF.out.1, HF.out.2.1, HF.out.2.2.1, HF.out.2.2.2⟩

end Go.Proofs.YtjkfmnahmbnbnaaDoor
