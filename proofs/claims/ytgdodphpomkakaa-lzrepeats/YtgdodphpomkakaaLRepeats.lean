/- The walk of LzRepeats. -/
import Derived.Test.YtgdodphpomkakaaWKnown
namespace Go.Proofs.Ytgdodphpomkakaa
open Go.RowKit

/-- A row, k times. -/
def rp (xs : List Int) : Nat → List Int
  | 0 => []
  | k + 1 => rp xs k ++ xs

theorem rp_len (xs : List Int) (k : Nat) : (rp xs k).length = k * xs.length := by
  induction k with
  | zero => simp [rp]
  | succ k ih => simp [rp, ih, Nat.add_mul]

theorem rp_byt (xs : List Int) (hb : ∀ x ∈ xs, 0 ≤ x ∧ x < 256) (k : Nat) : ∀ x ∈ rp xs k, 0 ≤ x ∧ x < 256 := by
  induction k with
  | zero => intro x hx; cases hx
  | succ k ih =>
    intro x hx
    rcases List.mem_append.1 hx with h | h
    · exact ih x h
    · exact hb x h

theorem rp_get (xs : List Int) (k i : Nat) (h : i < k * xs.length) : (rp xs k).getD i 0 = xs.getD (i % xs.length) 0 := by
  induction k with
  | zero => omega
  | succ k ih =>
    have hl := rp_len xs k
    show (rp xs k ++ xs).getD i 0 = _
    rcases Nat.lt_or_ge i (k * xs.length) with h' | h'
    · rw [getD_app _ _ _ _ (by omega)]
      exact ih h'
    · rw [Nat.add_mul] at h
      have e : i % xs.length = i - k * xs.length := by
        rw [Nat.mod_eq_sub_mul_div]
        have : i / xs.length = k := by
          apply Nat.div_eq_of_lt_le
          · exact h'
          · rw [Nat.succ_mul]; omega
        rw [this, Nat.mul_comm]
      rw [e]
      simp [List.getD, List.getElem?_append_right (show (rp xs k).length ≤ i by omega), hl]

theorem rp_per (xs : List Int) (k : Nat) : Per (rp xs k) xs.length := by
  intro i h1 h2
  rw [rp_len] at h2
  rw [rp_get xs k i h2, rp_get xs k (i - xs.length) (by omega), ← Nat.mod_eq_sub_mod h1]

/-- 'append(v, ys...)', v the call's own or nil, ys nil or not. -/
theorem wpList_append_bv {w : World} {ops : Array Oper} {rest : List Oper} {o : Oper} {a : Act} {Q : Exit → Act → World → Prop} (hgd : o.guard = none) (s x : Operand)
    (ho : o.op = .call { callee := .builtin .append, args := #[s, x], argTypes := #[26, 26] })
    (base n : Nat) (v : Value) (xs : List Int) (hs : a.eval s = v) (hown : w.ownsRow base 5 1 v n (xs.map (Value.int .u8)))
    (ao : Option Addr) (m c : Nat) (ys : List Int) (hx : a.eval x = .slice ao m c) (hr : Rd w ao m c ys) (hlim : n + m ≤ 1000000000) (hbase : base ≤ w.heap.size)
    (h : ∀ v' w', w'.ownsRow base 5 1 v' (n + m) ((xs ++ ys).map (Value.int .u8)) → w.grownBy w' v.ownBlock → wpList Try.prog ops Q rest (a.put o.dst v') w') :
    wpList Try.prog ops Q (o :: rest) a w := by
  obtain ⟨i0, hi, hz0, hz1, hz2⟩ := info_parts Try.info5
  cases ao with
  | none =>
    obtain ⟨rfl, rfl⟩ := hr.nul rfl
    have hy : ys = [] := List.eq_nil_of_length_eq_zero hr.len
    subst hy
    refine wpList_append_own_none hgd s x 26 ho base 5 i0 1 Try.underlying26 hi _ n _ hs hown hx ?_
    exact h v w (by simpa using hown) (World.grownBy.refl _ _)
  | some ad =>
    refine wpList_append_own w hgd s x 26 ho base 5 i0 (.int .u8 0) 1 1 Try.underlying26 hi hz0 hz1 hz2 rfl (by decide) _ n _ hs hown ad m c (ys.map (Value.int .u8)) hx (by simpa using hr.len) (hr.cellsOf ad rfl) (ints_oneCell _ _)
      (by unfold maxLen; omega) (by omega) hbase ?_
    intro v' w' h1 h2 _
    exact h v' w' (by simpa using h1) h2

theorem repeats_skip (bo : Option Addr) (L c : Nat) (n eff : Int) (w : World) (h : L = 0 ∨ 100 < L ∨ n < 1 ∨ 60 < n ∨ eff < 200) :
    Calls Try.prog 5 #[.slice bo L c, .int .i64 n, .int .i64 eff] w fun e w' => e = .returned (.bool true) ∧ Below w.heap.size w w' := by
  by_cases h1 : L = 0
  · subst h1
    go_enter Try.func5, Try.ntmps5
    go_wp2_with (go_at_call 7; refine (known_any _).mono ?_; rintro e w1 ⟨rfl, hb⟩)
    go_ret
    exact ⟨rfl, hb⟩
  have z1 : (L == 0) = false := by simp [h1]
  have z1' : ((L : Int) == 0) = false := by simp; omega
  by_cases h2 : 100 < L
  · have z2 : (100 : Int) < L := by omega
    go_enter Try.func5, Try.ntmps5
    go_wp2_with (go_at_call 7; refine (known_any _).mono ?_; rintro e w1 ⟨rfl, hb⟩)
    go_ret
    exact ⟨rfl, hb⟩
  have z2 : ¬ (100 : Int) < L := by omega
  by_cases h3 : n < 1
  · clear h
    go_enter Try.func5, Try.ntmps5
    go_wp2_with (go_at_call 7; refine (known_any _).mono ?_; rintro e w1 ⟨rfl, hb⟩)
    go_ret
    exact ⟨rfl, hb⟩
  by_cases h4 : 60 < n
  · clear h
    go_enter Try.func5, Try.ntmps5
    go_wp2_with (go_at_call 7; refine (known_any _).mono ?_; rintro e w1 ⟨rfl, hb⟩)
    go_ret
    exact ⟨rfl, hb⟩
  have h5 : eff < 200 := by omega
  clear h
  go_enter Try.func5, Try.ntmps5
  go_wp2_with (go_at_call 7; refine (known_any _).mono ?_; rintro e w1 ⟨rfl, hb⟩)
  go_ret
  exact ⟨rfl, hb⟩

set_option maxRecDepth 100000 in
set_option maxHeartbeats 2000000 in
theorem repeats_go (bo : Option Addr) (L c : Nat) (xs : List Int) (n : Nat) (eff : Int) (w : World) (hR : Rd w bo L c xs) (hL0 : 0 < L) (hL : L ≤ 100) (hn0 : 1 ≤ n) (hn : n ≤ 60) (he0 : 200 ≤ eff) (he : eff < 9223372036854775808) :
    Calls Try.prog 5 #[.slice bo L c, .int .i64 n, .int .i64 eff] w fun e w' => e = .returned (.bool true) ∧ Below w.heap.size w w' := by
  have z1 : (L == 0) = false := by simp; omega
  have z1' : ((L : Int) == 0) = false := by simp; omega
  have z2 : ¬ (100 : Int) < L := by omega
  have z3 : ¬ (n : Int) < 1 := by omega
  have z4 : ¬ (60 : Int) < n := by omega
  have z5 : ¬ eff < 200 := by omega
  have HR : Hid (Rd w bo L c xs) := hR
  have HL : Hid (xs.length = L) := hR.len
  clear hR
  go_enter Try.func5, Try.ntmps5
  go_wp2_with (go_at_call 7; refine (known_any _).mono ?_; rintro e w1 ⟨rfl, b1⟩)
  have HB1 : Hid (Below w.heap.size w w1) := b1
  clear b1 z1 z1' z2 z3 z4 z5
  go_loopw [7, 8] (fun bv iv wr => ∃ k : Nat, k ≤ n ∧ iv = .int .i64 k ∧ Hid (wr.ownsRow w.heap.size 5 1 bv (rp xs k).length ((rp xs k).map (Value.int .u8))) ∧ Hid (Below w.heap.size w wr)) (fun _ iv _ => n - (intOf iv).toNat)
  case atStart => exact ⟨0, by omega, rfl, World.ownsRow_nil _ _ _ _, HB1⟩
  case round =>
    clear HB1
    obtain ⟨k, hk, rfl, HO, HB⟩ := hrel
    have hkl := rp_len xs k
    rw [HL.out] at hkl
    have hkl2 : k * L ≤ 60 * 100 := Nat.mul_le_mul (by omega) hL
    by_cases hlt : k < n
    · have HRR : Hid (Rd wr bo L c xs) := HR.out.keep HB.out
      have HKL : Hid ((rp xs k).length ≤ 6000) := by show (rp xs k).length ≤ 6000; omega
      clear hkl hkl2
      go_wp2_with (refine wpList_append_bv rfl _ _ rfl w.heap.size (rp xs k).length u7 (rp xs k) rfl HO.out bo L c xs rfl HRR.out (by have := HKL.out; omega) HB.out.size ?_; intro v8 w8 o8 g8)
      have O8 : Hid (w8.ownsRow w.heap.size 5 1 v8 (rp xs (k + 1)).length ((rp xs (k + 1)).map (Value.int .u8))) := by
        have e : (rp xs (k + 1)).length = (rp xs k).length + L := by
          show (rp xs k ++ xs).length = _
          rw [List.length_append, HL.out]
        rw [e]
        exact o8
      have B8 : Hid (Below w.heap.size w w8) := HB.out.grown g8 HB.out.size (fun q hq => (HO.out.lt q hq).1)
      clear o8 g8 HO HB HRR HKL
      go_roundw
      case rel => exact ⟨k + 1, by omega, by go_num, O8, B8⟩
      case measure => simp [intOf]; omega
    · obtain rfl : k = n := by omega
      clear hlt
      have hbb := rp_byt xs HR.out.byt k
      have hper := rp_per xs k
      rw [HL.out] at hper
      obtain ⟨b, hb⟩ : ∃ b, b = rp xs k := ⟨_, rfl⟩
      rw [← hb] at hbb hper hkl HO
      obtain ⟨bo2, bc, rfl, br, _⟩ := own_rd HO.out hbb
      obtain ⟨N, hN⟩ : ∃ N, N = b.length := ⟨_, rfl⟩
      have HLN : Hid (N = b.length) := hN
      have HP : Hid (Per b L) := hper
      rw [← hN] at br hkl ⊢
      have hN9 : N ≤ 6000 := by omega
      have HBR : Hid (Rd wr bo2 N bc b) := br
      clear hb hbb hper hkl hkl2 HO br hN
      go_wp2_with fail
      refine (find_any bo2 N bc b eff wr HBR.out (by omega) he).mono ?_
      rintro e w2 ⟨v2, ts, rfl, hF, o2, b2⟩
      have B2 := HB.out.trans (b2.mono HB.out.size)
      have br2 := HBR.out.keep b2
      obtain ⟨lo, lc, rfl, _, lk, _⟩ := own_tk o2 hF.fnd.byt
      obtain ⟨C, hC⟩ : ∃ C, C = ts.length := ⟨_, rfl⟩
      have hcnt := hF.fnd.cnt
      have hall := hF.fnd.all
      have hok := hF.fnd.ok
      have hout := hF.fnd.out
      have hfew := (hF.few L HP.out (by omega) (by omega) (by omega)).fin (by omega)
      rw [← HLN.out] at hcnt hall hfew
      rw [List.take_length] at hout
      rw [← hC] at hcnt lk hfew ⊢
      have HX : Hid (tot ts = N ∧ Ok ts ts.length ∧ mks ts = b ∧ C = ts.length) := ⟨hall, hok, hout, hC⟩
      have HT : Hid (∀ t ∈ ts, 0 ≤ t.1 ∧ t.1 < 256) := hF.fnd.byt
      have HBR2 : Hid (Rd w2 bo2 N bc b) := br2
      clear hF o2 b2 hall hok hout hC HB HBR br2
      go_wp2_with fail
      refine (of_any lo C lc ts w2 lk (by omega)).mono ?_
      rintro e w3 ⟨v3, rfl, o3, b3⟩
      have B3 := B2.trans (b3.mono B2.size)
      have HBR3 : Hid (Rd w3 bo2 N bc b) := HBR2.out.keep b3
      obtain ⟨ro, rc, rfl, _, rk, _⟩ := own_tk o3 HT.out
      clear o3 b3 B2 lk HBR2
      go_wp2_with fail
      refine (xexpand_any ro C rc ts N w3 rk (by omega) (by have := HX.out.1; omega) (by omega) (by omega)).mono ?_
      rintro e w4 ⟨v4, g4, os4, rfl, x4, o4, b4⟩
      obtain ⟨rfl, rfl⟩ := x4.yes HX.out.2.1 (by rw [HX.out.1]; omega)
      have B4 := B3.trans (b4.mono B3.size)
      obtain ⟨ao4, c4, rfl, r4, _⟩ := own_rd o4 (mks_byt _ HT.out)
      rw [HX.out.2.2.1, ← HLN.out] at r4 ⊢
      have s1 := r4.str
      have s2 := (HBR3.out.keep b4).str
      have HB4 : Hid (Below w.heap.size w w4) := B4
      have q1 : (C : Int) ≤ 110 + (N : Int) / 200 := by omega
      clear x4 o4 r4 B4 B3 b4 rk HBR3
      go_wp2
      go_ret
      exact ⟨rfl, HB4.out⟩

end Go.Proofs.Ytgdodphpomkakaa
