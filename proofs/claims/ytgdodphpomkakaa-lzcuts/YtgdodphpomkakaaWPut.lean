/- put. -/
import Derived.Test.YtgdodphpomkakaaTok
import Derived.Laws.AppendOwnNone
namespace Go.Proofs.Ytgdodphpomkakaa
open Go.RowKit

theorem Try.info5 : (Try.prog.info? 5).map (fun i => (i.zero, i.size, i.bytes)) = some (some (.int .u8 0), 1, 1) := by kernel_rfl
theorem Try.info40 : (Try.prog.info? 40).map (fun i => (i.zero, i.size, i.bytes)) = some (some (.agg #[.int .u8 0, .int .i64 0, .int .i64 0]), 3, 24) := by kernel_rfl
theorem Try.info41 : (Try.prog.info? 41).map (fun i => (i.zero, i.size, i.bytes)) = some (some (.agg #[.int .u8 0, .int .i64 0, .int .i64 0]), 3, 24) := by kernel_rfl

/-- A row of one's own, as a slice. -/
theorem own_rd {w : World} {base n : Nat} {v : Value} {xs : List Int} (h : w.ownsRow base 5 1 v n (xs.map (Value.int .u8))) (hb : ∀ x ∈ xs, 0 ≤ x ∧ x < 256) :
    ∃ ao c, v = .slice ao n c ∧ Rd w ao n c xs ∧ ∀ ad, ao = some ad → v.ownBlock = some ad.block ∧ base ≤ ad.block := by
  rcases h.2 with ⟨rfl, rfl⟩ | ⟨g, cap, cur, rfl, hg, _⟩
  · have hx : xs = [] := List.eq_nil_of_length_eq_zero (by simpa using h.1)
    subst hx
    exact ⟨none, 0, rfl, Rd.nil _, fun ad had => by cases had⟩
  · exact ⟨_, _, rfl, Rd.ofOwn h hb, fun ad had => by cases had; exact ⟨rfl, hg⟩⟩

theorem own_keep {w w' : World} {base e s n : Nat} {v : Value} {xs : List Value} (h : w.ownsRow base e s v n xs) (hb : Below w.heap.size w w') : w'.ownsRow base e s v n xs :=
  ownsRow_fr (P := fun _ => False) h (Fr.ofBelow hb) (fun _ _ h => h)

theorem Rd.blk {w : World} {ao : Option Addr} {n c : Nat} {ys : List Int} (h : Rd w ao n c ys) : ∀ ad, ao = some ad → 0 < n → ad.block < w.heap.size := fun ad had hn => by
  have := h.cells ad had 0 hn
  have := World.block_lt_of_cell? w _ this
  rwa [show (ad.add 0).block = ad.block by unfold Addr.add; split <;> rfl] at this

theorem Bx.lt {w : World} {p : Nat} {x y z : Value} (h : Bx w p x y z) : p < w.heap.size := World.block_lt_of_cell? w _ h.1

theorem Bx.grown {w w' : World} {p : Nat} {x y z : Value} {row : Option Nat} (h : Bx w p x y z) (hg : w.grownBy w' row) (hr : row ≠ some p) : Bx w' p x y z := by
  have hf : Fr (fun k => row = some k) w w' := (Fr.refl _ w).grown hg (fun k _ hk => hk)
  have hlt := h.lt
  obtain ⟨h0, h1, h2⟩ := h
  refine ⟨?_, ?_, ?_⟩
  · rw [World.cell?_of_block (hf.block p hlt hr)]; exact h0
  · rw [World.cell?_of_block (hf.block p hlt hr)]; exact h1
  · rw [World.cell?_of_block (hf.block p hlt hr)]; exact h2

theorem Bx.alloc {w : World} {p : Nat} {x y z : Value} (h : Bx w p x y z) (o : Obj) : Bx (w.alloc o) p x y z := h.keep ((Below.refl _ _).alloc (Nat.le_refl _) _)

set_option maxRecDepth 100000 in
set_option maxHeartbeats 1000000 in
theorem put_any (B : Nat) (t : Tok) (v : Value) (xs : List Int) (n : Nat) (w : World) (hown : w.ownsRow B 5 1 v n (xs.map (Value.int .u8))) (hb : ∀ x ∈ xs, 0 ≤ x ∧ x < 256) (ht : okT n t) (hB : B ≤ w.heap.size) (hn : n ≤ 1000000) :
    Calls Try.prog 17 #[tv t, v] w fun e w' => ∃ v', e = .returned v' ∧ w'.ownsRow B 5 1 v' (n + sz t) ((mk1 xs t).map (Value.int .u8)) ∧ Below B w w' := by
  obtain ⟨i0, hi, hz0, hz1, hz2⟩ := info_parts Try.info5
  have hxl : xs.length = n := by simpa using hown.1
  have hli := fun W => isLit_any t W
  have hx0 := Bx.new w (.int .u8 t.1) (.int .i64 t.2.1) (.int .i64 t.2.2) 40
  by_cases hL : isL t
  · have d1 : decide (isL t) = true := decide_eq_true hL
    simp only [d1] at hli
    have HM : Hid (mk1 xs t = xs ++ [t.1]) := mk1_L hL xs
    have HS : Hid (sz t = 1) := sz_L hL
    clear hL d1 ht
    obtain ⟨l, m, d⟩ := t
    rw [HS.out]
    go_enter Try.func17, Try.ntmps17
    go_wp2_with (first | (go_at_call 18; refine (hli _).mono ?_; rintro e w1 ⟨rfl, hb1⟩; obtain ⟨a0, a1, a2⟩ := hx0.keep hb1) | (at_builtin; refine wpList_append_own _ rfl _ _ 26 rfl B 5 i0 (.int .u8 0) 1 1 Try.underlying26 hi hz0 hz1 hz2 rfl (by decide) v n _ rfl ((own_keep (hown.alloc _) hb1).alloc _) ⟨w1.heap.size, 0, none⟩ 1 1 [.int .u8 l] rfl rfl (cell_one_new _ _ _) (by intro u hu; simp at hu; subst hu; rfl) (by unfold maxLen; omega) (by omega) (by have := hb1.size; simp at this ⊢; omega) ?_; intro v' w2 o2 g2 n2))
    go_ret
    refine ⟨_, rfl, by rw [HM.out, List.map_append]; exact o2, ?_⟩
    have hk : Below B w (w1.alloc (.cells #[.int .u8 l] 5)) := (((Below.refl _ _).alloc hB _).trans (hb1.mono (by simp; omega))).alloc (by have := hb1.size; simp at this; omega) _
    exact hk.grown g2 (Nat.le_trans hB hk.size) (fun q hq => (hown.lt q hq).1)
  · have hC : isC t (min n 32768) := by
      rcases ht with h | h
      · exact absurd h hL
      · exact h
    have d1 : decide (isL t) = false := decide_eq_false hL
    simp only [d1] at hli
    have HM : Hid (mk1 xs t = cps t.2.1.toNat t.2.2.toNat xs) := mk1_C hL xs
    have HS : Hid (((sz t : Nat) : Int) = t.2.1) := sz_C hC
    obtain ⟨_, c1, c2, c3, c4⟩ := hC
    clear hL d1 ht
    obtain ⟨l, m, d⟩ := t
    simp only at c1 c2 c3 c4 HM HS hli hx0
    obtain ⟨M, rfl⟩ : ∃ M : Nat, m = M := ⟨m.toNat, by omega⟩
    obtain ⟨D, rfl⟩ : ∃ D : Nat, d = D := ⟨d.toNat, by omega⟩
    have HS' : Hid (sz (l, (M : Int), (D : Int)) = M) := Int.ofNat.inj HS.out
    rw [HS'.out]
    have HM' : Hid (mk1 xs (l, (M : Int), (D : Int)) = cps M D xs) := by have := HM.out; simp at this; exact this
    clear HS HM HS'
    have hD : 1 ≤ D ∧ D ≤ n := by omega
    have hM : 3 ≤ M ∧ M ≤ 258 := by omega
    clear c1 c2 c3 c4
    go_enter Try.func17, Try.ntmps17
    go_wp2_with (go_at_call 18; refine (hli _).mono ?_; rintro e w1 ⟨rfl, hb1⟩; obtain ⟨a0, a1, a2⟩ := hx0.keep hb1)
    have o1 : w1.ownsRow B 5 1 v n (xs.map (Value.int .u8)) := own_keep (hown.alloc _) hb1
    have B1 : Below B w w1 := ((Below.refl _ _).alloc hB _).trans (hb1.mono (by simp; omega))
    have x1 : Bx w1 w.heap.size (.int .u8 l) (.int .i64 M) (.int .i64 D) := ⟨a0, a1, a2⟩
    have ap : v.ownBlock ≠ some w.heap.size := fun e => by have := (hown.lt _ e).2; omega
    obtain ⟨p, hp⟩ : ∃ p, p = w.heap.size := ⟨_, rfl⟩
    have HB1 : Hid (Below B w w1) := B1
    rw [← hp] at x1 ap a0 a1 a2 ⊢
    clear hx0 hb1 hown hli hp B1
    go_loopw [1, 14] (fun o i wr => ∃ (k : Nat), k ≤ M ∧ i = .int .i64 k ∧ wr.ownsRow B 5 1 o (n + k) ((cps k D xs).map (Value.int .u8)) ∧ Bx wr p (.int .u8 l) (.int .i64 M) (.int .i64 D) ∧ o.ownBlock ≠ some p ∧ Hid (Below B w wr)) (fun _ i _ => M - (intOf i).toNat)
    case atStart => exact ⟨0, by omega, rfl, o1, x1, ap, HB1⟩
    case round =>
      obtain ⟨k, hk, rfl, ok, xk, apk, hbk⟩ := hrel
      clear o1 x1 ap HB1 a0 a1 a2
      by_cases hlt : k < M
      · obtain ⟨ys, hys⟩ : ∃ ys, ys = cps k D xs := ⟨_, rfl⟩
        have hyl : ys.length = n + k := by rw [hys, cps_len, hxl]
        have hcons : cps (k + 1) D xs = ys ++ [ys.getD (n + k - D) 0] := by rw [← hyl, hys]; rfl
        have hyb : ∀ x ∈ ys, 0 ≤ x ∧ x < 256 := by rw [hys]; exact cps_byt _ _ _ hb
        rw [← hys] at ok
        have HB : Hid (∀ q, u1.ownBlock = some q → B ≤ q) := fun q hq => (ok.lt q hq).1
        obtain ⟨ya, yc, rfl, hrd, _⟩ := own_rd ok hyb
        obtain ⟨g, off, rfl, hcell⟩ := hrd.plain (by omega)
        have hj := hcell (n + k - D) (by omega)
        obtain ⟨x, hx⟩ : ∃ x, x = ys.getD (n + k - D) 0 := ⟨_, rfl⟩
        rw [← hx] at hj hcons
        obtain ⟨j, hjj⟩ : ∃ j, j = n + k - D := ⟨_, rfl⟩
        rw [← hjj] at hj
        have q1 : ((n + k : Nat) : Int) - D = j := by omega
        have q1' : (n : Int) + k - D = j := by omega
        have q2 : IntKind.i64.wrap (j : Int) = j := wraps_i64 _ (by omega) (by omega)
        have q3 : j < n + k := by omega
        have q4 : (j : Int) < n + k := by omega
        have HC : Hid (cps (k + 1) D xs = ys ++ [x]) := hcons
        have HX : Hid (Bx wr p (.int .u8 l) (.int .i64 M) (.int .i64 D)) := xk
        obtain ⟨b0, b1, b2⟩ := xk
        clear hys hcons hx hjj hcell hrd hyl hyb
        go_wp2_with (at_builtin; refine wpList_append_lies _ rfl _ _ 26 rfl B 5 i0 (.int .u8 0) 1 1 Try.underlying26 hi hz0 hz1 hz2 rfl (by decide) (.slice (some ⟨g, off, none⟩) (n + k) yc) (n + k) _ rfl (ok.alloc _) ⟨wr.heap.size, 0, none⟩ 1 1 [.int .u8 x] rfl rfl (cell_one_new _ _ _) (by intro u hu; simp at hu; subst hu; rfl) (by omega) (by unfold maxLen; omega) (by omega) (by have := hbk.out.size; simp; omega) (wr.heap.size + 1) (by simp) ?_; intro g5 c5 w5 o5 gr5 l5 s5)
        have hk2 : Below B w w5 := (hbk.out.alloc (by have := hbk.out.size; omega) _).grown gr5 (by have := hbk.out.size; simp; omega) HB.out
        have hx5 := (HX.out.alloc (.cells #[.int .u8 x] 5)).grown gr5 apk
        have ap5 : (Value.slice (some ⟨g5, 0, none⟩) (n + k + 1) c5).ownBlock ≠ some p := by
          intro e
          rcases l5 with h' | h'
          · simp [Value.ownBlock] at e
            rw [h', e] at apk
            exact apk rfl
          · have := HX.out.lt
            simp [Value.ownBlock] at e
            omega
        have O5 : Hid (w5.ownsRow B 5 1 (.slice (some ⟨g5, 0, none⟩) (n + k + 1) c5) (n + k + 1) ((cps (k + 1) D xs).map (Value.int .u8))) := by rw [HC.out, List.map_append]; exact o5
        have X5 : Hid (Bx w5 p (.int .u8 l) (.int .i64 M) (.int .i64 D)) := hx5
        have K5 : Hid (Below B w w5) := hk2
        clear o5 gr5 l5 s5 ok HX b0 b1 b2 hj HC hbk hx5 hk2
        go_roundw
        case rel => exact ⟨k + 1, by omega, by go_num, O5.out, X5.out, ap5, K5⟩
        case measure => simp [intOf]; omega
      · obtain rfl : k = M := by omega
        go_wp2
        go_ret
        exact ⟨_, rfl, by rw [HM'.out]; exact ok, hbk.out⟩

end Go.Proofs.Ytgdodphpomkakaa
