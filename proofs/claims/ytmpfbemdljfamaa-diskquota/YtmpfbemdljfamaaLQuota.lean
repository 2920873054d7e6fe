/- DiskQuota. -/
import Derived.Test.YtmpfbemdljfamaaQsW
import Derived.Test.YtmpfbemdljfamaaWKnown
namespace Go.Proofs.Ytmpfbemdljfamaa
open Go.RowKit Go.Maps Go.Sort

theorem sum_st (z : Nat → Int) (k : Nat) (hk : k < 3) (v : Int) : st z k v 0 + st z k v 1 + st z k v 2 = z 0 + z 1 + z 2 - z k + v := by
  match k, hk with
  | 0, _ => show v + z 1 + z 2 = _; omega
  | 1, _ => show z 0 + v + z 2 = _; omega
  | 2, _ => show z 0 + z 1 + v = _; omega

theorem w_sub {u y q : Int} (h : 0 ≤ y ∧ y ≤ u) (hu : u ≤ q) (hq : q ≤ 5000) : wrap64 (u - y) = u - y ∧ IntKind.i64.wrap (u - y) = u - y :=
  ⟨IntWalk.wrap64_in _ (by omega), by rw [IntKind.wrap_i64]; omega⟩

theorem w_add {u x q : Int} (h0 : 0 ≤ u) (hu : u ≤ q) (hq : q ≤ 5000) (hx : 0 ≤ x) (hx2 : x ≤ 4000) : wrap64 (u + x) = u + x ∧ IntKind.i64.wrap (u + x) = u + x :=
  ⟨IntWalk.wrap64_in _ (by omega), by rw [IntKind.wrap_i64]; omega⟩

theorem w_inc {i m : Nat} (h : i < m) (hm : m ≤ 40) : wrap64 ((i : Int) + 1) = (i : Int) + 1 ∧ IntKind.i64.wrap ((i : Int) + 1) = (i : Int) + 1 :=
  ⟨IntWalk.wrap64_in _ (by omega), by rw [IntKind.wrap_i64]; omega⟩

theorem w_cc {cc : Int} {i m : Nat} (h : cc ≤ i) (hi : i < m) (hm : m ≤ 40) : cc ≤ 1000 := by omega

theorem w_le1 {u y q : Int} (h : 0 ≤ y) (hu : u ≤ q) : u - y ≤ q := by omega

theorem w_lim {u q : Int} (hu : u ≤ q) (hq : q ≤ 5000) : u ≤ 1000000000000 := by omega

theorem w_nat {x : Int} (h : ¬ x < 0) : ∃ n : Nat, x = n := ⟨x.toNat, by omega⟩

theorem w_4000 {n : Nat} (h : (n : Int) ≤ 4000) : n ≤ 4000 := by omega

theorem w_made {n : Nat} (h : (n : Int) ≤ 4000) : 1 * n ≤ 281474976710656 ∧ n ≤ maxLen := by unfold maxLen; omega

theorem w_eq {u y x s : Int} (h : s = u - y + (y + x)) : s = u + x := by omega

theorem w_cc1 {cc c' : Int} {i : Nat} (h : cc ≤ i) (hc : c' ≤ cc + 1) : c' ≤ ((i + 1 : Nat) : Int) := by omega

theorem qs_zk {S : St} {q c : Int} {g : Nat → Option Nat} {z : Nat → Int} {u : Int} (h : Qs S q c g z) (hu : u = z 0 + z 1 + z 2) (k : Nat) (hk : k < 3) : 0 ≤ z k ∧ z k ≤ u := by
  have e0 := h.znn 0 (by omega)
  have e1 := h.znn 1 (by omega)
  have e2 := h.znn 2 (by omega)
  match k, hk with
  | 0, _ => omega
  | 1, _ => omega
  | 2, _ => omega

theorem ne_zb {O : Nat → Prop} {w w' : World} {zb : Nat} (h : ¬ O zb) (hl : zb < w.heap.size) : ¬ Ow O w w' zb := fun e => e.elim h fun e => Nat.lt_irrefl _ (Nat.lt_of_lt_of_le hl e.1)

theorem row_st {w : World} {b k : Nat} {z : Nat → Int} (h : w.rowIs b 3 3 (fun j => .int .i64 (z j))) (v : Int) : (w.setCell ⟨b, k, none⟩ (.int .i64 v)).rowIs b 3 3 (fun j => .int .i64 (st z k v j)) :=
  set_row h k _ (fun j _ => by unfold st; split <;> rfl)

theorem rd_zero {w : World} {g n : Nat} (h : w.rowIs g 5 n (fun _ => .int .u8 0)) : Rd w (some ⟨g, 0, none⟩) n n (List.replicate n 0) := by
  refine Rd.ofRow (h.congr fun j hj => ?_) (by simp) (fun x hx => ?_)
  · simp [List.getD, hj]
  · rw [List.eq_of_mem_replicate hx]
    decide

set_option maxRecDepth 100000 in
set_option maxHeartbeats 3000000 in
/-- The law, where it has something to say. -/
theorem quota_main (q : Int) (ao : Option Addr) (m c : Nat) (L : Nat → Int) (w : World) (hr : Ri w ao m c L) (h1 : 0 ≤ q) (h2 : q ≤ 5000) (h3 : m ≤ 40) :
    Calls Try.prog 4 #[.int .i64 q, .slice ao m c] w fun e w' => e = .returned (.bool true) ∧ RowKit.Below w.heap.size w w' := by
  have HR : Hid (Ri w ao m c L) := hr
  have q1 : decide (q < 0) = false := by simp; omega
  have q2 : decide ((5000 : Int) < q) = false := by simp; omega
  have q3 : decide ((40 : Int) < (m : Int)) = false := by simp; omega
  have q3' : ¬ 40 < m := by omega
  clear hr
  go_enter Try.func4, Try.ntmps4
  go_wp2_with fail
  refine (known_yes w).mono ?_
  rintro e w0 ⟨rfl, b0⟩
  go_wp2_with fail
  refine (new_any q w0 (by omega) (by omega)).mono ?_
  rintro e w1 ⟨d, rfl, D1, b1⟩
  have lo1 : ∀ b, (w0.heap.size ≤ b ∧ b < w1.heap.size) → w.heap.size ≤ b := fun b hb => Nat.le_trans b0.size hb.1
  have Q1 := qs_fresh q w0.heap.size
  obtain ⟨S0, hS0⟩ : ∃ S, S = fresh q w0.heap.size := ⟨_, rfl⟩
  obtain ⟨O1, hO1⟩ : ∃ O : Nat → Prop, O = fun b => w0.heap.size ≤ b ∧ b < w1.heap.size := ⟨_, rfl⟩
  rw [← hS0] at D1 Q1
  rw [← hO1] at D1
  have lo : ∀ b, O1 b → w.heap.size ≤ b := by rw [hO1]; exact lo1
  have B1 : RowKit.Below w.heap.size w w1 := b0.trans (b1.mono b0.size)
  have nb1 : ¬ O1 w1.heap.size := by rw [hO1]; intro e; exact Nat.lt_irrefl _ e.2
  clear hS0 hO1 lo1 b1 b0
  go_wp2_with fail
  obtain ⟨W, hW⟩ : ∃ W, W = w1.alloc (.cells #[.int .i64 0, .int .i64 0, .int .i64 0] 3) := ⟨_, rfl⟩
  have r0 : W.rowIs w1.heap.size 3 3 (fun _ => .int .i64 0) := by
    rw [hW]
    exact World.rowIs_alloc w1 #[.int .i64 0, .int .i64 0, .int .i64 0] 3 (fun _ => .int .i64 0) (fun i hi => by
      match i, hi with
      | 0, _ | 1, _ | 2, _ => rfl)
  have bW : RowKit.Below w1.heap.size w1 W := by rw [hW]; exact new_below _ _
  have zlo : w.heap.size ≤ w1.heap.size := B1.size
  have DW := D1.keep bW
  have BW : RowKit.Below w.heap.size w W := B1.trans (bW.mono B1.size)
  rw [← hW]
  obtain ⟨zb, hzb⟩ : ∃ zb, zb = w1.heap.size := ⟨_, rfl⟩
  rw [← hzb] at r0 zlo nb1 ⊢
  clear hW hzb bW D1 B1
  go_loopw [7, 9] (fun s7 s9 wr => ∃ (i : Nat) (u : Int) (z : Nat → Int) (S : St) (O : Nat → Prop) (g : Nat → Option Nat) (cc : Int), s7 = .int .i64 u ∧ u = z 0 + z 1 + z 2 ∧ s9 = .int .i64 i ∧ i ≤ m ∧ cc ≤ i ∧ Qs S q cc g z ∧ u ≤ q ∧ Dk wr O d S ∧ (∀ b, O b → w.heap.size ≤ b) ∧ ¬ O zb ∧ wr.rowIs zb 3 3 (fun j => .int .i64 (z j)) ∧ RowKit.Below w.heap.size w wr)
    (fun _ s9 _ => m - (Lib.intOf s9).toNat)
  case atStart => exact ⟨0, 0, _, _, _, _, 0, rfl, rfl, rfl, Nat.zero_le _, Int.le_refl _, Q1, h1, DW, lo, nb1, r0, BW⟩
  case round =>
    obtain ⟨i, u, z, S, O, g, cc, rfl, hu, rfl, him, hci, hQ, huq, hD, hlo, hnz, hrw, hB⟩ := hrel
    have HU : Hid (u = z 0 + z 1 + z 2) := hu
    clear hu
    by_cases hlt : i < m
    · have R6 := HR.out.keep hB
      obtain ⟨bb, off, rfl, hcell⟩ := R6.plain (by omega)
      obtain ⟨x, hxe⟩ : ∃ x, x = L i := ⟨_, rfl⟩
      obtain ⟨k, hk3, hke⟩ : ∃ k : Nat, k < 3 ∧ Int.tmod (i : Int) 3 = (k : Int) := ⟨i % 3, Nat.mod_lt _ (by omega), by rw [Int.tmod_eq_emod_of_nonneg (by omega)]; omega⟩
      have hci0 := hcell i hlt
      rw [← hxe] at hci0
      have qi : decide ((i : Int) < (m : Int)) = true := by simp; omega
      clear hcell R6 hxe
      go_upto_region 14 with fail
      go_cut [11] (fun v11 wx => v11 = .string (tq k) ∧ RowKit.Below wr.heap.size wr wx)
      case first =>
        match k, hk3 with
        | 0, _ =>
          have hstr : (convert 22 9 (.slice (some ⟨wr.heap.size, 0, none⟩) 1 1)).run Try.prog (wr.alloc (.cells #[.int .u8 120] 5)) = .ok (.string { data := #[120] }) (wr.alloc (.cells #[.int .u8 120] 5)) := (lit_rd wr (wr.alloc (.cells #[.int .u8 120] 5)) [120] (fun y hy => by rw [List.mem_singleton.1 hy]; decide) (fun _ => rfl)).str
          go_wp2_with fail
          go_meet
          exact ⟨rfl, new_below _ _⟩
        | 1, _ =>
          have hstr : (convert 22 9 (.slice (some ⟨wr.heap.size, 0, none⟩) 1 1)).run Try.prog (wr.alloc (.cells #[.int .u8 121] 5)) = .ok (.string { data := #[121] }) (wr.alloc (.cells #[.int .u8 121] 5)) := (lit_rd wr (wr.alloc (.cells #[.int .u8 121] 5)) [121] (fun y hy => by rw [List.mem_singleton.1 hy]; decide) (fun _ => rfl)).str
          go_wp2_with fail
          go_meet
          exact ⟨rfl, new_below _ _⟩
        | 2, _ =>
          have hstr : (convert 22 9 (.slice (some ⟨wr.heap.size, 0, none⟩) 1 1)).run Try.prog (wr.alloc (.cells #[.int .u8 122] 5)) = .ok (.string { data := #[122] }) (wr.alloc (.cells #[.int .u8 122] 5)) := (lit_rd wr (wr.alloc (.cells #[.int .u8 122] 5)) [122] (fun y hy => by rw [List.mem_singleton.1 hy]; decide) (fun _ => rfl)).str
          go_wp2_with fail
          go_meet
          exact ⟨rfl, new_below _ _⟩
      case rest =>
        obtain ⟨rfl, bc⟩ := hcut
        have hD2 := hD.keep bc
        have hr2 := rowIs_fr (P := fun _ => False) hrw (Fr.ofBelow bc) (fun h => h)
        have hB2 : RowKit.Below w.heap.size w wc := hB.trans (bc.mono hB.size)
        have hx2 : wc.cell? ⟨bb, off + i, none⟩ = some (.int .i64 x) := by rw [bc.cell (World.block_lt_of_cell? wr _ hci0)]; exact hci0
        have zk := hr2.cell (i := k) hk3
        have hzk := qs_zk hQ HU.out k hk3
        have hloc : bb < w.heap.size := by
          have := World.block_lt_of_cell? w _ (HR.out.cells _ rfl i hlt)
          rwa [show ((⟨bb, off, none⟩ : Addr).add i).block = bb by unfold Addr.add; split <;> rfl] at this
        obtain ⟨qj', qj⟩ := w_inc hlt h3
        have hc1 := w_cc hci hlt h3
        clear hD hrw hB hci0 bc
        by_cases hneg : x < 0
        · have qx : decide (x < 0) = true := by simpa using hneg
          obtain ⟨qs', qs⟩ := w_sub hzk huq h2
          have hrem := remQ k hk3 hQ hD2 hc1
          have hsum := sum_st z k hk3 0
          have hzlt := hr2.lt
          clear hQ hD2
          go_wp2_with fail
          refine hrem.mono ?_
          rintro e w7 ⟨v7, S', c', g', rfl, Q', hc', D', F'⟩
          have r7 := rowIs_fr hr2 F' hnz
          have zk7 := r7.cell (i := k) hk3
          have fz7 := r7.frozen k
          have B7 := fr_lo hB2 F' hlo hB2.size
          have nz7 := ne_zb (w' := w7) hnz hzlt
          have lo7 := ow_lo (w := wc) (w' := w7) hlo hB2.size
          obtain ⟨O7, hO7⟩ : ∃ O7, O7 = Ow O wc w7 := ⟨_, rfl⟩
          rw [← hO7] at D' nz7 lo7
          have D8 := D'.fr (set_fr w7 zb k (.int .i64 0)) (fun b hb e => by subst e; exact nz7 hb)
          have r8 := row_st (k := k) r7 0
          have B8 : RowKit.Below w.heap.size w (w7.setCell ⟨zb, k, none⟩ (.int .i64 0)) := fr_lo B7 (set_fr w7 zb k (.int .i64 0)) (fun b e => by subst e; exact zlo) B7.size
          have hus := Q'.used
          rw [hsum, ← HU.out, Int.add_zero] at hus
          have hoff : S'.off = false := by obtain ⟨_, _, V, _⟩ := Q'.vw; exact V.off
          have hU := used_any d O7 S' _ D8 hoff Q'.fits (by rw [hus]; exact w_lim (w_le1 hzk.1 huq) h2)
          rw [hus] at hU
          clear hO7 F' D' hr2 hrem hx2 zk r7
          go_wp2_with fail
          refine hU.mono ?_
          rintro e w9 ⟨rfl, b9⟩
          have D9 := D8.keep b9
          have r9 := rowIs_fr (P := fun _ => False) r8 (Fr.ofBelow b9) (fun h => h)
          have B9 : RowKit.Below w.heap.size w w9 := B8.trans (b9.mono B8.size)
          have hs9 : u - z k = st z k 0 0 + st z k 0 1 + st z k 0 2 := by rw [hsum, ← HU.out, Int.add_zero]
          have HS9 : Hid (u - z k = st z k 0 0 + st z k 0 1 + st z k 0 2) := hs9
          have hle9 : u - z k ≤ q := w_le1 hzk.1 huq
          clear hs9 hsum hU hus D8 r8 zk7 fz7
          go_wp2_with fail
          go_roundw
          case rel => exact ⟨i + 1, u - z k, st z k 0, S', O7, g', c', rfl, HS9.out, by simp, hlt, w_cc1 hci hc', Q', hle9, D9, lo7, nz7, r9, B9⟩
          case measure => simpa [Lib.intOf] using meas hlt
        · have qx : decide (x < 0) = false := by simpa using hneg
          have hxw : ∀ W, RowKit.Below w.heap.size w W → W.cell? ⟨bb, off + i, none⟩ = some (.int .i64 x) := by
            intro W hb
            rw [hb.cell hloc, ← hB2.cell hloc]
            exact hx2
          have Hxw : Hid (∀ W, RowKit.Below w.heap.size w W → W.cell? ⟨bb, off + i, none⟩ = some (.int .i64 x)) := hxw
          have hoff : S.off = false := by obtain ⟨_, _, V, _⟩ := hQ.vw; exact V.off
          have hus := hQ.used
          rw [← HU.out] at hus
          have Hus : Hid (used S = u) := hus
          have HUs : ∀ W, Dk W O d S → Calls Try.prog 18 #[.pointer (some ⟨d, 0, none⟩)] W fun e w' => e = .returned (.int .i64 u) ∧ RowKit.Below W.heap.size W w' := by
            intro W hW
            have := used_any d O S W hW hoff hQ.fits (by rw [hus]; exact w_lim huq h2)
            rwa [hus] at this
          clear hxw hus
          by_cases hbig : x ≤ 4000
          · have qb : decide (x ≤ 4000) = true := by simpa using hbig
            obtain ⟨n, rfl⟩ := w_nat hneg
            obtain ⟨wa', wa⟩ := w_add (Int.le_trans hzk.1 hzk.2) huq h2 (Int.natCast_nonneg n) hbig
            obtain ⟨i0, hi, hz0, hz1, hz2⟩ := info_parts Try.info5
            have hmd := w_made hbig
            go_wp2_with (at_make; (refine wpList_make_full _ rfl _ _ 22 rfl 0 5 i0 (.int .u8 0) 1 Try.underlying22 hi hz0 hz1 _ _ _ _ n rfl rfl rfl rfl (by rw [hz2]; exact hmd.1) hmd.2 (Nat.zero_le _) ?_; intro w6 hown hgrow))
            have b6 : RowKit.Below wc.heap.size wc w6 := (RowKit.Below.refl _ _).grown hgrow (Nat.le_refl _) (fun k e => by cases e)
            have D6 := hD2.keep b6
            have r6 := rowIs_fr (P := fun _ => False) hr2 (Fr.ofBelow b6) (fun h => h)
            have B6 : RowKit.Below w.heap.size w w6 := hB2.trans (b6.mono hB2.size)
            have rd6 := rd_zero (made_rowIs rfl hown)
            have na6 := lit_na (n := n) hD2.lim
            clear hr2 hD2 zk hx2 b6 hown hgrow hmd hi hz0 hz1 hz2
            by_cases hfull : q < u + n
            · have qf : decide (q < u + (n : Int)) = true := by simpa using hfull
              have hap := appQ_full (ao := some ⟨wc.heap.size, 0, none⟩) (cc := n) k hk3 hQ D6 (w_4000 hbig) h2 (by rw [← HU.out]; exact huq) (by rw [← HU.out]; exact hfull)
              refine hap.mono ?_
              rintro e w7 ⟨rfl, b7⟩
              have D7 := D6.keep b7
              have r7 := rowIs_fr (P := fun _ => False) r6 (Fr.ofBelow b7) (fun h => h)
              have B7 : RowKit.Below w.heap.size w w7 := B6.trans (b7.mono B6.size)
              have hx7 := Hxw.out w7 B7
              have hU := HUs w7 D7
              clear hap D6 r6 B6 rd6 na6 b7
              go_wp2_with fail
              refine hU.mono ?_
              rintro e w9 ⟨rfl, b9⟩
              have D9 := D7.keep b9
              have r9 := rowIs_fr (P := fun _ => False) r7 (Fr.ofBelow b9) (fun h => h)
              have B9 : RowKit.Below w.heap.size w w9 := B7.trans (b9.mono B7.size)
              clear hU r7 D7 hx7
              go_wp2_with fail
              go_roundw
              case rel => exact ⟨i + 1, u, z, S, O, g, cc, rfl, HU.out, by simp, hlt, w_cc1 hci (Int.le_of_lt (Int.lt_succ cc)), hQ, huq, D9, hlo, hnz, r9, B9⟩
              case measure => simpa [Lib.intOf] using meas hlt
            · have qf : decide (q < u + (n : Int)) = false := by simpa using hfull
              have hle : u + n ≤ q := Int.not_lt.1 hfull
              have hap := appQ_ok k hk3 hQ D6 rd6 na6 hc1 (w_4000 hbig) h2 (by rw [← HU.out]; exact hle)
              have hsum := sum_st z k hk3 (z k + n)
              rw [← HU.out] at hsum
              have HS9 : Hid (u + n = st z k (z k + n) 0 + st z k (z k + n) 1 + st z k (z k + n) 2) := (w_eq hsum).symm
              have hzlt := r6.lt
              clear hsum
              refine hap.mono ?_
              rintro e w7 ⟨rfl, S', g', Q', D', F'⟩
              have r7 := rowIs_fr r6 F' hnz
              have zk7 := r7.cell (i := k) hk3
              have fz7 := r7.frozen k
              have B7 := fr_lo B6 F' hlo B6.size
              have nz7 := ne_zb (w' := w7) hnz hzlt
              have lo7 := ow_lo (w := w6) (w' := w7) hlo B6.size
              obtain ⟨O7, hO7⟩ : ∃ O7, O7 = Ow O w6 w7 := ⟨_, rfl⟩
              rw [← hO7] at D' nz7 lo7
              have hx7 := Hxw.out w7 B7
              obtain ⟨wz', wz⟩ := w_add hzk.1 (Int.le_trans hzk.2 huq) h2 (Int.natCast_nonneg n) hbig
              have D8 := (D'.keep (drew_keep w7)).fr (set_fr w7.drew zb k (.int .i64 (z k + n))) (fun b hb e => by subst e; exact nz7 hb)
              have r8 := row_st (k := k) (rowIs_fr (P := fun _ => False) r7 (Fr.ofBelow (drew_keep w7)) (fun h => h)) (z k + n)
              have B7d : RowKit.Below w.heap.size w w7.drew := B7.trans ((drew_keep w7).mono B7.size)
              have B8 : RowKit.Below w.heap.size w (w7.drew.setCell ⟨zb, k, none⟩ (.int .i64 (z k + n))) := fr_lo B7d (set_fr w7.drew zb k (.int .i64 (z k + n))) (fun b e => by subst e; exact zlo) B7d.size
              have hus := Q'.used
              rw [← HS9.out] at hus
              have hoff' : S'.off = false := by obtain ⟨_, _, V, _⟩ := Q'.vw; exact V.off
              have hU := used_any d O7 S' _ D8 hoff' Q'.fits (by rw [hus]; exact w_lim hle h2)
              rw [hus] at hU
              clear hO7 F' D' hap D6 r6 B6 rd6 na6 r7 HUs B7d hus hoff' hoff
              go_wp2_with fail
              go_region
              go_wp2_with fail
              refine hU.mono ?_
              rintro e w9 ⟨rfl, b9⟩
              have D9 := D8.keep b9
              have r9 := rowIs_fr (P := fun _ => False) r8 (Fr.ofBelow b9) (fun h => h)
              have B9 : RowKit.Below w.heap.size w w9 := B8.trans (b9.mono B8.size)
              clear hU D8 r8 zk7 fz7 hx7 B8
              go_wp2_with fail
              go_roundw
              case rel => exact ⟨i + 1, u + n, st z k (z k + n), S', O7, g', cc + 1, rfl, HS9.out, by simp, hlt, w_cc1 hci (Int.le_refl _), Q', hle, D9, lo7, nz7, r9, B9⟩
              case measure => simpa [Lib.intOf] using meas hlt
          · have qb : decide (x ≤ 4000) = false := by simpa using hbig
            have hU := HUs wc hD2
            go_wp2_with fail
            refine hU.mono ?_
            rintro e w9 ⟨rfl, b9⟩
            have D9 := hD2.keep b9
            have r9 := rowIs_fr (P := fun _ => False) hr2 (Fr.ofBelow b9) (fun h => h)
            have B9 : RowKit.Below w.heap.size w w9 := hB2.trans (b9.mono hB2.size)
            clear hU hr2 hD2 zk hx2
            go_wp2_with fail
            go_roundw
            case rel => exact ⟨i + 1, u, z, S, O, g, cc, rfl, HU.out, by simp, hlt, w_cc1 hci (Int.le_of_lt (Int.lt_succ cc)), hQ, huq, D9, hlo, hnz, r9, B9⟩
            case measure => simpa [Lib.intOf] using meas hlt
    · have qi : decide ((i : Int) < (m : Int)) = false := by simp; omega
      go_wp2_with fail
      go_ret
      exact ⟨rfl, hB⟩

set_option maxRecDepth 100000 in
theorem quota_small (q : Int) (ao : Option Addr) (m c : Nat) (w : World) (h : q < 0 ∨ 5000 < q ∨ 40 < m) :
    Calls Try.prog 4 #[.int .i64 q, .slice ao m c] w fun e w' => e = .returned (.bool true) ∧ RowKit.Below w.heap.size w w' := by
  by_cases h1 : q < 0
  · have q1 : decide (q < 0) = true := by simpa using h1
    clear h
    go_enter Try.func4, Try.ntmps4
    go_wp2_with (go_at_call 7; refine (known_yes w).mono ?_; rintro e w0 ⟨rfl, b0⟩)
    go_ret
    exact ⟨rfl, b0⟩
  · have q1 : decide (q < 0) = false := by simpa using h1
    by_cases h2 : 5000 < q
    · have q2 : decide ((5000 : Int) < q) = true := by simpa using h2
      clear h
      go_enter Try.func4, Try.ntmps4
      go_wp2_with (go_at_call 7; refine (known_yes w).mono ?_; rintro e w0 ⟨rfl, b0⟩)
      go_ret
      exact ⟨rfl, b0⟩
    · have q2 : decide ((5000 : Int) < q) = false := by simpa using h2
      have h3 : 40 < m := by omega
      have q3 : decide ((40 : Int) < (m : Int)) = true := by simp; omega
      clear h
      go_enter Try.func4, Try.ntmps4
      go_wp2_with (go_at_call 7; refine (known_yes w).mono ?_; rintro e w0 ⟨rfl, b0⟩)
      go_ret
      exact ⟨rfl, b0⟩

/-- DiskQuota at every quota and every lengths. -/
theorem quota_any (q : Int) (ao : Option Addr) (m c : Nat) (L : Nat → Int) (w : World) (hr : Ri w ao m c L) :
    Calls Try.prog 4 #[.int .i64 q, .slice ao m c] w fun e w' => e = .returned (.bool true) ∧ RowKit.Below w.heap.size w w' := by
  by_cases h : q < 0 ∨ 5000 < q ∨ 40 < m
  · exact quota_small q ao m c w h
  · exact quota_main q ao m c L w hr (by omega) (by omega) (by omega)

end Go.Proofs.Ytmpfbemdljfamaa
