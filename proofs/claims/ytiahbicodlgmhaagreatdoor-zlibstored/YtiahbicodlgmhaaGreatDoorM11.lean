/- LzzTok, ZSteps, LzzWTotal. -/
import Derived.Test.YtiahbicodlgmhaaGreatDoorM01
import Derived.Test.YtiahbicodlgmhaaGreatDoorM10
/- Tokens in memory; isLiteral, isCopy, size. -/
namespace Go.Proofs.YtiahbicodlgmhaaGreatDoor.Lzz
open Go.RowKit

/-- A token, by value. -/
abbrev tv (t : Tok) : Value := .agg #[.int .u8 t.1, .int .i64 t.2.1, .int .i64 t.2.2]

/-- A token's cells. -/
def tc (t : Tok) : List Value := [.int .u8 t.1, .int .i64 t.2.1, .int .i64 t.2.2]

/-- The cells of tokens. -/
def tcs (ts : List Tok) : List Value := ts.flatMap tc

theorem tcs_app (a b : List Tok) : tcs (a ++ b) = tcs a ++ tcs b := by simp [tcs]

theorem tcs_one (t : Tok) : tcs [t] = tc t := by simp [tcs]

theorem tcs_len (ts : List Tok) : (tcs ts).length = ts.length * 3 := by
  induction ts with
  | nil => rfl
  | cons t ts ih =>
    show (tc t ++ tcs ts).length = _
    rw [List.length_append, ih]
    simp [tc]
    omega

theorem tcs_get (ts : List Tok) (j : Nat) (h : j < ts.length) : (tcs ts)[j * 3]? = some (.int .u8 (ts.getD j tz).1) ∧ (tcs ts)[j * 3 + 1]? = some (.int .i64 (ts.getD j tz).2.1) ∧ (tcs ts)[j * 3 + 2]? = some (.int .i64 (ts.getD j tz).2.2) := by
  induction ts generalizing j with
  | nil => simp at h
  | cons t ts ih =>
    have e : tcs (t :: ts) = .int .u8 t.1 :: .int .i64 t.2.1 :: .int .i64 t.2.2 :: tcs ts := rfl
    rw [e]
    cases j with
    | zero => exact ⟨rfl, rfl, rfl⟩
    | succ j =>
      have := ih j (by simpa using h)
      rw [show (j + 1) * 3 = j * 3 + 1 + 1 + 1 by omega]
      simpa using this

theorem tcs_oneCell (ts : List Tok) : ∀ v ∈ tcs ts, v.oneCell' = true := by
  intro v hv
  obtain ⟨t, _, ht⟩ := List.mem_flatMap.1 hv
  simp only [tc, List.mem_cons, List.not_mem_nil, or_false] at ht
  rcases ht with rfl | rfl | rfl <;> rfl

/-- The slice at ao of n tokens reads as ts in the world w. -/
structure Tk (w : World) (ao : Option Addr) (n : Nat) (ts : List Tok) : Prop where
  len : ts.length = n
  cells : ∀ j, j < n → ∃ b off, ao = some ⟨b, off, none⟩ ∧ w.cell? ⟨b, off + j * 3, none⟩ = some (.int .u8 (ts.getD j tz).1) ∧ w.cell? ⟨b, off + j * 3 + 1, none⟩ = some (.int .i64 (ts.getD j tz).2.1) ∧ w.cell? ⟨b, off + j * 3 + 2, none⟩ = some (.int .i64 (ts.getD j tz).2.2)
  byt : ∀ t ∈ ts, 0 ≤ t.1 ∧ t.1 < 256

theorem Tk.keep {w w' : World} {ao : Option Addr} {n : Nat} {ts : List Tok} (h : Tk w ao n ts) (hb : Below w.heap.size w w') : Tk w' ao n ts :=
  ⟨h.len, fun j hj => by
    obtain ⟨b, off, e, h0, h1, h2⟩ := h.cells j hj
    refine ⟨b, off, e, ?_, ?_, ?_⟩
    · rw [hb.cell (World.block_lt_of_cell? w _ h0)]; exact h0
    · rw [hb.cell (World.block_lt_of_cell? w _ h1)]; exact h1
    · rw [hb.cell (World.block_lt_of_cell? w _ h2)]; exact h2, h.byt⟩

theorem Tk.at {w : World} {ao : Option Addr} {n : Nat} {ts : List Tok} (h : Tk w ao n ts) (j : Nat) (hj : j < n) : 0 ≤ (ts.getD j tz).1 ∧ (ts.getD j tz).1 < 256 := by
  have hl := h.len
  apply h.byt
  rw [List.getD, List.getElem?_eq_getElem (by omega : j < ts.length)]
  simp

/-- A row of tokens of the call's own. -/
theorem own_tk {w : World} {base e n : Nat} {v : Value} {ts : List Tok} (h : w.ownsRow base e 3 v n (tcs ts)) (hb : ∀ t ∈ ts, 0 ≤ t.1 ∧ t.1 < 256) :
    ∃ ao c, v = .slice ao n c ∧ n ≤ c ∧ Tk w ao n ts ∧ (ao = none → n = 0 ∧ c = 0) ∧ ∀ ad, ao = some ad → v.ownBlock = some ad.block ∧ base ≤ ad.block ∧ ad = ⟨ad.block, 0, none⟩ := by
  have hl : ts.length = n := by have := h.1; rw [tcs_len] at this; omega
  rcases h.2 with ⟨rfl, rfl⟩ | ⟨g, cap, cur, rfl, hg, hh, hle, hrest⟩
  · exact ⟨none, 0, rfl, Nat.le_refl _, ⟨hl, (fun j hj => by omega), hb⟩, fun _ => ⟨rfl, rfl⟩, fun ad had => by cases had⟩
  · refine ⟨_, _, rfl, hle, ⟨hl, fun j hj => ?_, hb⟩, (fun e => by cases e), fun ad had => by cases had; exact ⟨rfl, hg, rfl⟩⟩
    obtain ⟨g0, g1, g2⟩ := tcs_get ts j (by omega)
    have c0 := h.cells (g := g) rfl _ _ g0
    have c1 := h.cells (g := g) rfl _ _ g1
    have c2 := h.cells (g := g) rfl _ _ g2
    rw [Addr.add_lit] at c0 c1 c2
    exact ⟨g, 0, rfl, c0, c1, c2⟩

theorem size_any (t : Tok) (w : World) : Calls Tryz.prog 43 #[tv t] w fun e w' => e = .returned (.int .i64 (sz t)) ∧ Below w.heap.size w w' := by
  obtain ⟨l, n, d⟩ := t
  by_cases h1 : n = 0
  · subst h1
    have e : sz (l, 0, d) = 1 := by simp [sz]
    rw [e]
    go_enter Tryz.func43, Tryz.ntmps43
    go_wp2
    go_ret
    exact ⟨rfl, (Below.refl _ _).alloc (Nat.le_refl _) _⟩
  · have q : (n == 0) = false := by simp [h1]
    by_cases h2 : n < 0
    · have e : sz (l, n, d) = 0 := by simp [sz, h1, h2]
      rw [e]
      go_enter Tryz.func43, Tryz.ntmps43
      go_wp2
      go_ret
      exact ⟨rfl, (Below.refl _ _).alloc (Nat.le_refl _) _⟩
    · by_cases h3 : 258 < n
      · have e : sz (l, n, d) = 0 := by simp [sz, h1, h3]
        rw [e]
        go_enter Tryz.func43, Tryz.ntmps43
        go_wp2
        go_ret
        exact ⟨rfl, (Below.refl _ _).alloc (Nat.le_refl _) _⟩
      · have e : ((sz (l, n, d) : Nat) : Int) = n := by simp [sz, h1, h2, h3]; omega
        rw [e]
        clear e
        go_enter Tryz.func43, Tryz.ntmps43
        go_wp2
        go_ret
        exact ⟨rfl, (Below.refl _ _).alloc (Nat.le_refl _) _⟩

/-- A block of three cells. -/
def Bx (w : World) (p : Nat) (x y z : Value) : Prop := w.cell? ⟨p, 0, none⟩ = some x ∧ w.cell? ⟨p, 1, none⟩ = some y ∧ w.cell? ⟨p, 2, none⟩ = some z

theorem Bx.new (w : World) (x y z : Value) (ty : TypeId) : Bx (w.alloc (.cells #[x, y, z] ty)) w.heap.size x y z := by
  have h := World.rowIs_alloc w #[x, y, z] ty (fun j => (#[x, y, z] : Array Value).getD j undef) (fun i hi => by simp at hi; rcases i with _ | _ | _ | i <;> first | rfl | omega)
  exact ⟨h.cell (i := 0) (by simp), h.cell (i := 1) (by simp), h.cell (i := 2) (by simp)⟩

theorem Bx.keep {w w' : World} {p : Nat} {x y z : Value} (h : Bx w p x y z) (hb : Below w.heap.size w w') : Bx w' p x y z := by
  obtain ⟨h0, h1, h2⟩ := h
  refine ⟨?_, ?_, ?_⟩
  · rw [hb.cell (World.block_lt_of_cell? w _ h0)]; exact h0
  · rw [hb.cell (World.block_lt_of_cell? w _ h1)]; exact h1
  · rw [hb.cell (World.block_lt_of_cell? w _ h2)]; exact h2

end Go.Proofs.YtiahbicodlgmhaaGreatDoor.Lzz

/- stepsOf. -/
namespace Go.Proofs.YtiahbicodlgmhaaGreatDoor.Z
open Go.RowKit

theorem lit_tki {t : Lzz.Tok} (h : okS t) (h0 : t.2.1 = 0) : Tki t (.lit t.1.toNat) := by
  rcases h with ⟨h1, h2, h3, h4⟩ | ⟨h1, h2, _⟩
  · refine ⟨by omega, ?_⟩
    obtain ⟨a, b, c⟩ := t
    simp only at *
    rw [h1, h2, Int.toNat_of_nonneg h3]
  · omega

/-- Cells of two new steps. -/
theorem cells_new (w : World) (cs : List Value) (t : TypeId) : ∀ j u, cs[j]? = some u → (w.alloc (.cells cs.toArray t)).cell? ((⟨w.heap.size, 0, none⟩ : Addr).add j) = some u := by
  intro j u hu
  have hj := (List.getElem?_eq_some_iff.1 hu).1
  have h := World.rowIs_alloc w cs.toArray t (fun j => cs.getD j undef) (fun i hi => by
    have : i < cs.length := by simpa using hi
    simp [List.getD, this])
  have := h.cell (i := j) (by simpa using hj)
  rw [Addr.add_lit, Nat.zero_add, this]
  simp [List.getD, hu]

set_option maxRecDepth 100000 in
set_option maxHeartbeats 4000000 in
theorem stepsOf_any (ao : Option Addr) (n c : Nat) (ts : List Lzz.Tok) (w : World) (h : Lzz.Tk w ao n ts) (hn : n ≤ 20000) (hok : ∀ t ∈ ts, okS t) :
    Calls Tryz.prog 67 #[.slice ao n c] w fun e w' => ∃ v is, e = .returned v ∧ Its ts is ∧ w'.ownsRow w.heap.size 109 4 v (stps is ++ [eos]).length (scs (stps is ++ [eos])) ∧ Below w.heap.size w w' := by
  obtain ⟨i0, hi, hz0, hz1, hz2⟩ := info_parts Tryz.info109
  have HT : Hid (Lzz.Tk w ao n ts) := h
  have HK : Hid (∀ t ∈ ts, okS t) := hok
  have hlen := h.len
  clear h hok
  go_enter Tryz.func67, Tryz.ntmps67
  go_wp2_with fail
  go_loopw [3, 10] (fun lv iv wr => ∃ (k : Nat) (is : List It), k ≤ n ∧ iv = .int .i64 k ∧ Hid (Its (ts.take k) is) ∧ Hid (wr.ownsRow w.heap.size 109 4 lv (stps is).length (scs (stps is))) ∧ Hid (Below w.heap.size w wr)) (fun _ iv _ => n - (intOf iv).toNat)
  case atStart => exact ⟨0, [], by omega, rfl, by simp [Its]; trivial, World.ownsRow_nil _ _ _ _, Below.refl _ _⟩
  case round =>
    obtain ⟨k, is, hk, rfl, HI, HO, HB⟩ := hrel
    by_cases hlt : k < n
    · have HTK : Hid (Lzz.Tk wr ao n ts) := ⟨HT.out.len, (fun j hj => by
        obtain ⟨b, off, e, h0, h1, h2⟩ := HT.out.cells j hj
        refine ⟨b, off, e, ?_, ?_, ?_⟩
        · rw [HB.out.cell (World.block_lt_of_cell? w _ h0)]; exact h0
        · rw [HB.out.cell (World.block_lt_of_cell? w _ h1)]; exact h1
        · rw [HB.out.cell (World.block_lt_of_cell? w _ h2)]; exact h2), HT.out.byt⟩
      obtain ⟨b, off, rfl, c0, c1, c2⟩ := HTK.out.cells k hlt
      have htk : ts.take (k + 1) = ts.take k ++ [ts.getD k Lzz.tz] := Lzz.take_one ts Lzz.tz k (by omega)
      have hmem : ts.getD k Lzz.tz ∈ ts := by
        rw [List.getD, List.getElem?_eq_getElem (by omega : k < ts.length)]
        simp
      have hS := HK.out _ hmem
      have hbt := HTK.out.byt _ hmem
      have hisl := stps_le is
      have hil := HI.out.len
      rw [List.length_take] at hil
      have hC9 : (stps is).length ≤ 40000 := by omega
      obtain ⟨C, hCC⟩ : ∃ C, C = (stps is).length := ⟨_, rfl⟩
      have HCC : Hid (C = (stps is).length) := hCC
      rw [← hCC] at hC9
      have HOO : Hid (wr.ownsRow w.heap.size 109 4 u3 C (scs (stps is))) := by show wr.ownsRow _ _ _ _ _ _; rw [hCC]; exact HO.out
      obtain ⟨t, ht⟩ : ∃ t, t = ts.getD k Lzz.tz := ⟨_, rfl⟩
      rw [← ht] at htk hS hbt c0 c1 c2
      have HTT : Hid (ts.take (k + 1) = ts.take k ++ [t]) := htk
      have HSS : Hid (okS t) := hS
      clear hCC ht htk hmem hisl hil HO HTK
      obtain ⟨l, nn, dd⟩ := t
      simp only at c0 c1 c2 hbt
      have b1 : Below wr.heap.size wr (wr.alloc (Obj.cells #[Value.int .u8 l, Value.int .i64 nn, Value.int .i64 dd] 84)) := (Below.refl _ _).alloc (Nat.le_refl _) _
      have e1 : (wr.alloc (Obj.cells #[Value.int .u8 l, Value.int .i64 nn, Value.int .i64 dd] 84)).heap.size = wr.heap.size + 1 := by simp
      by_cases hz : nn = 0
      · subst hz
        have hlit : Tki (l, 0, dd) (.lit l.toNat) := lit_tki hS rfl
        have b2 := b1.alloc b1.size (Obj.cells #[Value.int .i64 0, Value.int .i64 l, Value.int .i64 0, Value.int .i64 0] 109)
        have HN3 : Hid (∀ j u, [Value.int .i64 0, Value.int .i64 l, Value.int .i64 0, Value.int .i64 0][j]? = some u → ((wr.alloc (Obj.cells #[Value.int .u8 l, Value.int .i64 0, Value.int .i64 dd] 84)).alloc (Obj.cells #[Value.int .i64 0, Value.int .i64 l, Value.int .i64 0, Value.int .i64 0] 109)).cell? ((⟨wr.heap.size + 1, 0, none⟩ : Addr).add j) = some u) := by
          have := cells_new (wr.alloc (Obj.cells #[Value.int .u8 l, Value.int .i64 0, Value.int .i64 dd] 84)) [Value.int .i64 0, Value.int .i64 l, Value.int .i64 0, Value.int .i64 0] 109
          rw [e1] at this
          exact this
        have HO4 : Hid (((wr.alloc (Obj.cells #[Value.int .u8 l, Value.int .i64 0, Value.int .i64 dd] 84)).alloc (Obj.cells #[Value.int .i64 0, Value.int .i64 l, Value.int .i64 0, Value.int .i64 0] 109)).ownsRow w.heap.size 109 4 u3 C (scs (stps is))) := own_keep HOO.out b2
        have HB4 : Hid (Below w.heap.size w ((wr.alloc (Obj.cells #[Value.int .u8 l, Value.int .i64 0, Value.int .i64 dd] 84)).alloc (Obj.cells #[Value.int .i64 0, Value.int .i64 l, Value.int .i64 0, Value.int .i64 0] 109))) := HB.out.trans (b2.mono HB.out.size)
        have HLT : Hid (∀ q, u3.ownBlock = some q → w.heap.size ≤ q ∧ q < wr.heap.size) := HOO.out.lt
        have HLI : Hid (Tki (l, 0, dd) (.lit l.toNat)) := hlit
        have HL0 : Hid (0 ≤ l) := hbt.1
        clear b1 b2 e1 hlit HOO HB hS HSS
        go_wp2_with (at_builtin; refine wpList_append_own _ rfl _ _ 58 rfl w.heap.size 109 i0 (.agg #[.int .i64 0, .int .i64 0, .int .i64 0, .int .i64 0]) 4 32 Tryz.underlying58 hi hz0 hz1 hz2 rfl (by decide) u3 C _ rfl HO4.out ⟨wr.heap.size + 1, 0, none⟩ 1 1 [.int .i64 0, .int .i64 l, .int .i64 0, .int .i64 0] rfl rfl HN3.out (by intro u hu; simp at hu; rcases hu with rfl | rfl | rfl | rfl <;> rfl) (by unfold maxLen; omega) (by omega) HB4.out.size ?_; intro v5 w5 o5 g5 n5)
        have B5 : Hid (Below w.heap.size w w5) := HB4.out.grown g5 HB4.out.size (fun q hq => (HLT.out q hq).1)
        have HO5 : Hid (w5.ownsRow w.heap.size 109 4 v5 (stps (is ++ [.lit l.toNat])).length (scs (stps (is ++ [.lit l.toNat])))) := by
          show w5.ownsRow _ _ _ _ _ _
          rw [stps_app, stps_one, scs_app, List.length_append, ← HCC.out]
          have e : scs (stp (.lit l.toNat)) = [.int .i64 0, .int .i64 l, .int .i64 0, .int .i64 0] := by
            simp only [stp, scs_one, sc, Int.toNat_of_nonneg HL0.out]
          rw [e]
          exact o5
        have HI5 : Hid (Its (ts.take (k + 1)) (is ++ [.lit l.toNat])) := by
          show Its _ _
          rw [HTT.out]
          exact HI.out.snoc HLI.out
        clear o5 g5 n5 HO4 HN3 HB4 HLT
        go_roundw
        case rel => exact ⟨k + 1, is ++ [.lit l.toNat], by omega, by go_num, HI5, HO5, B5⟩
        case measure => simp [intOf]; omega
      · have q : (nn == 0) = false := by simp [hz]
        obtain ⟨g1, g2, g3, g4, g5⟩ : l = 0 ∧ 3 ≤ nn ∧ nn ≤ 258 ∧ 1 ≤ dd ∧ dd ≤ 32768 := by
          rcases hS with h | h
          · exact absurd h.1 hz
          · exact h
        obtain ⟨vn, rfl⟩ := Int.eq_ofNat_of_zero_le (show 0 ≤ nn by omega)
        obtain ⟨vd, rfl⟩ := Int.eq_ofNat_of_zero_le (show 0 ≤ dd by omega)
        subst g1
        obtain ⟨T, hTT⟩ : ∃ T, T = wr.heap.size := ⟨_, rfl⟩
        have HTB : Hid (T = wr.heap.size) := hTT
        have x1 : ((wr.alloc (Obj.cells #[Value.int .u8 0, Value.int .i64 vn, Value.int .i64 vd] 84))).cell? ⟨T, 2, none⟩ = some (.int .i64 vd) := by
          rw [hTT]; exact (Lzz.Bx.new wr (.int .u8 0) (.int .i64 vn) (.int .i64 vd) 84).2.2
        have hst := stepOf_len vn (wr.alloc (Obj.cells #[Value.int .u8 0, Value.int .i64 vn, Value.int .i64 vd] 84)) (by omega) (by omega)
        have HB1 : Hid (Below w.heap.size w (wr.alloc (Obj.cells #[Value.int .u8 0, Value.int .i64 vn, Value.int .i64 vd] 84))) := HB.out.trans (b1.mono HB.out.size)
        have HO1 : Hid ((wr.alloc (Obj.cells #[Value.int .u8 0, Value.int .i64 vn, Value.int .i64 vd] 84)).ownsRow w.heap.size 109 4 u3 C (scs (stps is))) := own_keep HOO.out b1
        have HX1 : Hid ((wr.alloc (Obj.cells #[Value.int .u8 0, Value.int .i64 vn, Value.int .i64 vd] 84)).cell? ⟨T, 2, none⟩ = some (.int .i64 vd)) := x1
        clear b1 e1 HOO HB hS HSS hTT x1
        go_wp2_with fail
        refine hst.mono ?_
        rintro e w2 ⟨s, u, rfl, hs, hsv, hu, hb2⟩
        have HS2 : Hid ((257 ≤ s ∧ s ≤ 285) ∧ lb s + u = vn ∧ u < 2 ^ lx s) := ⟨hs, hsv, hu⟩
        obtain ⟨xs, hxs⟩ : ∃ xs, xs = lx s := ⟨_, rfl⟩
        have HXS : Hid (xs = lx s) := hxs
        rw [← hxs]
        have HB2 : Hid (Below w.heap.size w w2) := HB1.out.trans (hb2.mono HB1.out.size)
        have HO2 : Hid (w2.ownsRow w.heap.size 109 4 u3 C (scs (stps is))) := own_keep HO1.out hb2
        have b3 : Below w2.heap.size w2 (w2.alloc (Obj.cells #[Value.int .i64 0, Value.int .i64 s, Value.int .i64 u, Value.int .i64 xs] 109)) := (Below.refl _ _).alloc (Nat.le_refl _) _
        have x2 : w2.cell? ⟨T, 2, none⟩ = some (.int .i64 vd) := by rw [hb2.cell (World.block_lt_of_cell? _ _ HX1.out)]; exact HX1.out
        have x3 : (w2.alloc (Obj.cells #[Value.int .i64 0, Value.int .i64 s, Value.int .i64 u, Value.int .i64 xs] 109)).cell? ⟨T, 2, none⟩ = some (.int .i64 vd) := by rw [b3.cell (World.block_lt_of_cell? _ _ x2)]; exact x2
        have r3 := step_new w2 (0, s, u, xs) #[Value.int .i64 0, Value.int .i64 s, Value.int .i64 u, Value.int .i64 xs] rfl
        have hsd := stepOf_dist vd (w2.alloc (Obj.cells #[Value.int .i64 0, Value.int .i64 s, Value.int .i64 u, Value.int .i64 xs] 109)) (by omega) (by omega)
        have HB3 : Hid (Below w.heap.size w (w2.alloc (Obj.cells #[Value.int .i64 0, Value.int .i64 s, Value.int .i64 u, Value.int .i64 xs] 109))) := HB2.out.trans (b3.mono HB2.out.size)
        have HO3 : Hid ((w2.alloc (Obj.cells #[Value.int .i64 0, Value.int .i64 s, Value.int .i64 u, Value.int .i64 xs] 109)).ownsRow w.heap.size 109 4 u3 C (scs (stps is))) := own_keep HO2.out b3
        have HR3 : Hid ((w2.alloc (Obj.cells #[Value.int .i64 0, Value.int .i64 s, Value.int .i64 u, Value.int .i64 xs] 109)).rowIs w2.heap.size 109 4 (stc (0, s, u, xs))) := r3
        have HTB' := HTB.out
        rw [← HTB']
        have HZ2 : Hid (w.heap.size ≤ w2.heap.size ∧ ∀ q, u3.ownBlock = some q → w.heap.size ≤ q ∧ q ≠ w2.heap.size) := ⟨HB2.out.size, fun q hq => ⟨(HO2.out.lt q hq).1, fun e => by have := (HO2.out.lt q hq).2; omega⟩⟩
        clear hst hb2 hs hsv hu hxs HB1 HO1 HX1 HB2 HO2 b3 x2 r3 HTB'
        go_wp2_with fail
        refine hsd.mono ?_
        rintro e w3 ⟨t, u2, rfl, ht30, htv, hu2, hb3⟩
        have HS3 : Hid (t < 30 ∧ db t + u2 = vd ∧ u2 < 2 ^ dx t) := ⟨ht30, htv, hu2⟩
        obtain ⟨xd, hxd⟩ : ∃ xd, xd = dx t := ⟨_, rfl⟩
        have HXD : Hid (xd = dx t) := hxd
        rw [← hxd]
        obtain ⟨A, hA⟩ : ∃ A, A = w2.heap.size := ⟨_, rfl⟩
        have B3 := HB3.out.trans (hb3.mono HB3.out.size)
        have rA3 : w3.rowIs A 109 4 (stc (0, s, u, xs)) := by rw [hA]; exact HR3.out.of_block (hb3.block _ HR3.out.lt)
        have rS : (w3.setCell ⟨A, 0, none⟩ (Value.int .i64 0)).rowIs A 109 4 (stc (0, s, u, xs)) := (rA3.set 0 _).congr (fun i hi => by rcases i with _ | _ | _ | _ | i <;> first | rfl | omega)
        have hAD : A < w3.heap.size := rA3.lt
        have hA1 : ¬ A = w3.heap.size := by omega
        have hA2 : ¬ w3.heap.size = A := by omega
        have FS : Fr (fun k => k = A) w3 (w3.setCell ⟨A, 0, none⟩ (Value.int .i64 0)) := (Fr.refl (fun k => k = A) w3).setCell rfl _
        have BS : Below w.heap.size w (w3.setCell ⟨A, 0, none⟩ (Value.int .i64 0)) := B3.trans (FS.below _ B3.size (fun i hi e => by have := HZ2.out.1; omega))
        have OS : (w3.setCell ⟨A, 0, none⟩ (Value.int .i64 0)).ownsRow w.heap.size 109 4 u3 C (scs (stps is)) := ownsRow_fr (own_keep HO3.out hb3) FS (fun k hk e => (HZ2.out.2 k hk).2 (by omega))
        have eS : (w3.setCell ⟨A, 0, none⟩ (Value.int .i64 0)).heap.size = w3.heap.size := by simp [World.setCell]
        have a0 := rA3.cell (i := 0) (by omega)
        have fA := rA3.frozen 0
        have s0 := rS.cell (i := 0) (by omega)
        have s1 := rS.cell (i := 1) (by omega)
        have s2 := rS.cell (i := 2) (by omega)
        have s3 := rS.cell (i := 3) (by omega)
        simp only [stc] at a0 s0 s1 s2 s3
        rw [← hA]
        have b5 : Below (w3.setCell ⟨A, 0, none⟩ (Value.int .i64 0)).heap.size (w3.setCell ⟨A, 0, none⟩ (Value.int .i64 0)) ((w3.setCell ⟨A, 0, none⟩ (Value.int .i64 0)).alloc (Obj.cells #[Value.int .i64 1, Value.int .i64 t, Value.int .i64 u2, Value.int .i64 xd] 109)) := (Below.refl _ _).alloc (Nat.le_refl _) _
        have b6 := b5.alloc b5.size (Obj.cells #[Value.int .i64 0, Value.int .i64 s, Value.int .i64 u, Value.int .i64 xs, Value.int .i64 1, Value.int .i64 t, Value.int .i64 u2, Value.int .i64 xd] 109)
        have HB6 : Hid (Below w.heap.size w (((w3.setCell ⟨A, 0, none⟩ (Value.int .i64 0)).alloc (Obj.cells #[Value.int .i64 1, Value.int .i64 t, Value.int .i64 u2, Value.int .i64 xd] 109)).alloc (Obj.cells #[Value.int .i64 0, Value.int .i64 s, Value.int .i64 u, Value.int .i64 xs, Value.int .i64 1, Value.int .i64 t, Value.int .i64 u2, Value.int .i64 xd] 109))) := BS.trans (b6.mono BS.size)
        have HO6 : Hid ((((w3.setCell ⟨A, 0, none⟩ (Value.int .i64 0)).alloc (Obj.cells #[Value.int .i64 1, Value.int .i64 t, Value.int .i64 u2, Value.int .i64 xd] 109)).alloc (Obj.cells #[Value.int .i64 0, Value.int .i64 s, Value.int .i64 u, Value.int .i64 xs, Value.int .i64 1, Value.int .i64 t, Value.int .i64 u2, Value.int .i64 xd] 109)).ownsRow w.heap.size 109 4 u3 C (scs (stps is))) := own_keep OS b6
        have HN6 : Hid (∀ j x, [Value.int .i64 0, Value.int .i64 s, Value.int .i64 u, Value.int .i64 xs, Value.int .i64 1, Value.int .i64 t, Value.int .i64 u2, Value.int .i64 xd][j]? = some x → (((w3.setCell ⟨A, 0, none⟩ (Value.int .i64 0)).alloc (Obj.cells #[Value.int .i64 1, Value.int .i64 t, Value.int .i64 u2, Value.int .i64 xd] 109)).alloc (Obj.cells #[Value.int .i64 0, Value.int .i64 s, Value.int .i64 u, Value.int .i64 xs, Value.int .i64 1, Value.int .i64 t, Value.int .i64 u2, Value.int .i64 xd] 109)).cell? ((⟨w3.heap.size + 1, 0, none⟩ : Addr).add j) = some x) := by
          have := cells_new ((w3.setCell ⟨A, 0, none⟩ (Value.int .i64 0)).alloc (Obj.cells #[Value.int .i64 1, Value.int .i64 t, Value.int .i64 u2, Value.int .i64 xd] 109)) [Value.int .i64 0, Value.int .i64 s, Value.int .i64 u, Value.int .i64 xs, Value.int .i64 1, Value.int .i64 t, Value.int .i64 u2, Value.int .i64 xd] 109
          rw [show ((w3.setCell ⟨A, 0, none⟩ (Value.int .i64 0)).alloc (Obj.cells #[Value.int .i64 1, Value.int .i64 t, Value.int .i64 u2, Value.int .i64 xd] 109)).heap.size = w3.heap.size + 1 by simp [World.setCell]] at this
          exact this
        clear hsd hb3 ht30 htv hu2 hxd B3 rA3 rS FS BS OS b5 b6 HB3 HO3 HR3 x3 hA eS
        go_wp2_with (at_builtin; refine wpList_append_own _ rfl _ _ 58 rfl w.heap.size 109 i0 (.agg #[.int .i64 0, .int .i64 0, .int .i64 0, .int .i64 0]) 4 32 Tryz.underlying58 hi hz0 hz1 hz2 rfl (by decide) u3 C _ rfl HO6.out ⟨w3.heap.size + 1, 0, none⟩ 2 2 [.int .i64 0, .int .i64 s, .int .i64 u, .int .i64 xs, .int .i64 1, .int .i64 t, .int .i64 u2, .int .i64 xd] rfl rfl HN6.out (by intro u hu; simp at hu; rcases hu with rfl | rfl | rfl | rfl | rfl | rfl | rfl | rfl <;> rfl) (by unfold maxLen; omega) (by omega) HB6.out.size ?_; intro v5 w5 o5 g5 n5)
        have B5 : Hid (Below w.heap.size w w5) := HB6.out.grown g5 HB6.out.size (fun q hq => (HZ2.out.2 q hq).1)
        have HO5 : Hid (w5.ownsRow w.heap.size 109 4 v5 (stps (is ++ [.cpy s u t u2])).length (scs (stps (is ++ [.cpy s u t u2])))) := by
          show w5.ownsRow _ _ _ _ _ _
          rw [stps_app, stps_one, scs_app, List.length_append, ← HCC.out]
          have e : scs (stp (.cpy s u t u2)) = [.int .i64 0, .int .i64 s, .int .i64 u, .int .i64 xs, .int .i64 1, .int .i64 t, .int .i64 u2, .int .i64 xd] := by
            rw [HXS.out, HXD.out]
            rfl
          rw [e]
          exact o5
        have HI5 : Hid (Its (ts.take (k + 1)) (is ++ [.cpy s u t u2])) := by
          show Its _ _
          rw [HTT.out]
          have hk : Tki (0, (vn : Int), (vd : Int)) (.cpy s u t u2) := ⟨⟨HS2.out.1.1, HS2.out.1.2, HS2.out.2.2, HS3.out.1, HS3.out.2.2⟩, by rw [HS2.out.2.1, HS3.out.2.1]⟩
          exact HI.out.snoc hk
        clear o5 g5 n5 HO6 HN6 HB6
        go_roundw
        case rel => exact ⟨k + 1, is ++ [.cpy s u t u2], by omega, by go_num, HI5, HO5, B5⟩
        case measure => simp [intOf]; omega
    · obtain rfl : k = n := by omega
      have hisl := stps_le is
      have hil := HI.out.len
      rw [List.length_take] at hil
      have hC9 : (stps is).length ≤ 40000 := by omega
      obtain ⟨C, hCC⟩ : ∃ C, C = (stps is).length := ⟨_, rfl⟩
      have HCC : Hid (C = (stps is).length) := hCC
      rw [← hCC] at hC9
      have HII : Hid (Its ts is) := by
        have := HI.out
        rw [← hlen, List.take_length] at this
        exact this
      have b1 : Below wr.heap.size wr (wr.alloc (Obj.cells #[Value.int .i64 0, Value.int .i64 256, Value.int .i64 0, Value.int .i64 0] 109)) := (Below.refl _ _).alloc (Nat.le_refl _) _
      have HO1 : Hid ((wr.alloc (Obj.cells #[Value.int .i64 0, Value.int .i64 256, Value.int .i64 0, Value.int .i64 0] 109)).ownsRow w.heap.size 109 4 u3 C (scs (stps is))) := by show (wr.alloc _).ownsRow _ _ _ _ _ _; rw [hCC]; exact own_keep HO.out b1
      have HB1 : Hid (Below w.heap.size w (wr.alloc (Obj.cells #[Value.int .i64 0, Value.int .i64 256, Value.int .i64 0, Value.int .i64 0] 109))) := HB.out.trans (b1.mono HB.out.size)
      have HN1 : Hid (∀ j u, [Value.int .i64 0, Value.int .i64 256, Value.int .i64 0, Value.int .i64 0][j]? = some u → (wr.alloc (Obj.cells #[Value.int .i64 0, Value.int .i64 256, Value.int .i64 0, Value.int .i64 0] 109)).cell? ((⟨wr.heap.size, 0, none⟩ : Addr).add j) = some u) := cells_new wr _ 109
      have HLT : Hid (∀ q, u3.ownBlock = some q → w.heap.size ≤ q ∧ q < wr.heap.size) := HO.out.lt
      clear b1 hCC hisl hil HI HO HB
      go_wp2_with (at_builtin; refine wpList_append_own _ rfl _ _ 58 rfl w.heap.size 109 i0 (.agg #[.int .i64 0, .int .i64 0, .int .i64 0, .int .i64 0]) 4 32 Tryz.underlying58 hi hz0 hz1 hz2 rfl (by decide) u3 C _ rfl HO1.out ⟨wr.heap.size, 0, none⟩ 1 1 [.int .i64 0, .int .i64 256, .int .i64 0, .int .i64 0] rfl rfl HN1.out (by intro u hu; simp at hu; rcases hu with rfl | rfl | rfl | rfl <;> rfl) (by unfold maxLen; omega) (by omega) HB1.out.size ?_; intro v5 w5 o5 g5 n5)
      go_ret
      refine ⟨_, is, rfl, HII.out, ?_, HB1.out.grown g5 HB1.out.size (fun q hq => (HLT.out q hq).1)⟩
      rw [scs_app, List.length_append, ← HCC.out]
      exact o5

end Go.Proofs.YtiahbicodlgmhaaGreatDoor.Z

/- total, Size, Check. -/
namespace Go.Proofs.YtiahbicodlgmhaaGreatDoor.Lzz
open Go.RowKit

theorem Tk.taken {w : World} {ao : Option Addr} {n : Nat} {ts : List Tok} (h : Tk w ao n ts) (k : Nat) (hk : k < n) : tot (ts.take (k + 1)) = tot (ts.take k) + sz (ts.getD k tz) :=
  tot_take ts k (by have := h.len; omega)

theorem Tk.all {w : World} {ao : Option Addr} {n : Nat} {ts : List Tok} (h : Tk w ao n ts) : ts.take n = ts := by rw [← h.len]; exact List.take_length

theorem tot_take_max (ts : List Tok) (k : Nat) : tot (ts.take k) ≤ 258 * k := by
  have h1 := tot_max (ts.take k)
  have h2 : (ts.take k).length ≤ k := by simp; omega
  omega

theorem keep3 {w wr w1 : World} {o : Obj} (hb : Below w.heap.size w wr) (hb1 : Below (wr.alloc o).heap.size (wr.alloc o) w1) : Below w.heap.size w w1 :=
  (hb.alloc hb.size o).trans (hb1.mono (by simp; have := hb.size; omega))

set_option maxRecDepth 100000 in
theorem total_any (ao : Option Addr) (n c : Nat) (ts : List Tok) (w : World) (h : Tk w ao n ts) (hn : n ≤ 1000000) :
    Calls Tryz.prog 66 #[.slice ao n c] w fun e w' => e = .returned (.int .i64 (tot ts)) ∧ Below w.heap.size w w' := by
  go_enter Tryz.func66, Tryz.ntmps66
  go_wp2
  go_loopw [3, 8] (fun m i wr => ∃ k : Nat, k ≤ n ∧ i = .int .i64 k ∧ m = .int .i64 (tot (ts.take k)) ∧ Below w.heap.size w wr) (fun _ i _ => n - (intOf i).toNat)
  case atStart => exact ⟨0, by omega, rfl, rfl, Below.refl _ _⟩
  case round =>
    obtain ⟨k, hk, rfl, rfl, hb⟩ := hrel
    by_cases hlt : k < n
    · have hT := (h.keep hb).cells k hlt
      have e := h.taken k hlt
      have m1 := tot_take_max ts k
      have m2 := sz_le (ts.getD k tz)
      obtain ⟨t, ht⟩ : ∃ t, t = ts.getD k tz := ⟨_, rfl⟩
      obtain ⟨T, hT'⟩ : ∃ T, T = tot (ts.take k) := ⟨_, rfl⟩
      rw [← ht] at hT e m2
      rw [← hT'] at e m1 ⊢
      obtain ⟨b, off, rfl, h0, h1, h2⟩ := hT
      have hsz := fun W => size_any t W
      obtain ⟨s, hs⟩ : ∃ s, s = sz t := ⟨_, rfl⟩
      rw [← hs] at e m2
      simp only [← hs] at hsz
      have HE : Hid (tot (ts.take (k + 1)) = T + s) := e
      clear e ht hT' hs h
      obtain ⟨l, m, d⟩ := t
      go_wp2_with (go_at_call 43; refine (hsz _).mono ?_; rintro e w1 ⟨rfl, hb1⟩)
      go_roundw
      case rel => exact ⟨k + 1, by omega, by go_num, by rw [HE.out]; go_num, keep3 hb hb1⟩
      case measure => simp [intOf]; omega
    · obtain rfl : k = n := by omega
      have e := h.all
      rw [e]
      clear h
      go_wp2
      go_ret
      exact ⟨rfl, hb⟩

theorem wpList_min {ops : Array Oper} {rest : List Oper} {op : Oper} {a : Act} {w : World} {Q : Exit → Act → World → Prop} (hgd : op.guard = none) (tt : TypeId) (x y : Operand) (ho : op.op = .call { callee := .builtin .min, args := #[x, y], argTypes := #[tt, tt] })
    (p q : Int) (hx : a.eval x = .int .i64 p) (hy : a.eval y = .int .i64 q) (r : Int) (hr : r = min p q)
    (hk : wpList Tryz.prog ops Q rest (a.put op.dst (.int .i64 r)) w) : wpList Tryz.prog ops Q (op :: rest) a w := by
  refine wpList_plain hgd fun K hK => ?_
  have hk' := hK _ _ hk
  subst hr
  unfold Oper.wp
  have hm : (Builtin.min2 (.int .i64 p) (.int .i64 q)).run Tryz.prog w = .ok (.int .i64 (min p q)) w := by
    by_cases h : p < q
    · rw [show min p q = p by omega]
      simp [Builtin.min2, go_sem]; omega
    · rw [show min p q = q by omega]
      simp [Builtin.min2, go_sem]; omega
  simp [execOp, ho, resolve, invoke, builtin, hx, hy, Builtin.min_, hm, Result.andThen]
  exact hk'

theorem size_all (ao : Option Addr) (n c : Nat) (ts : List Tok) (w : World) (h : Tk w ao n ts) (hn : n ≤ 1000000) :
    Calls Tryz.prog 38 #[.slice ao n c] w fun e w' => e = .returned (.int .i64 (min (tot ts) 262145 : Nat)) ∧ Below w.heap.size w w' := by
  have ht := total_any ao n c ts w h hn
  clear h
  obtain ⟨r, hr⟩ : ∃ r, r = min (tot ts) 262145 := ⟨_, rfl⟩
  have hm : ((r : Nat) : Int) = min ((tot ts : Nat) : Int) 262145 := by omega
  rw [← hr]
  have HM : Hid (((r : Nat) : Int) = min ((tot ts : Nat) : Int) 262145) := hm
  clear hr hm
  generalize tot ts = T at *
  go_enter Tryz.func38, Tryz.ntmps38
  go_wp2_with (first | (go_at_call 66; refine ht.mono ?_; rintro e w1 ⟨rfl, hb1⟩) | (refine wpList_min rfl 2 _ _ rfl (T : Int) 262145 rfl rfl (r : Int) HM.out ?_))
  go_ret
  exact ⟨rfl, hb1⟩

end Go.Proofs.YtiahbicodlgmhaaGreatDoor.Lzz
