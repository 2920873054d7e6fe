/- isCopy, isData, printable. -/
import Derived.Test.YthaibdflehnbbaaWPrint
import Derived.Test.YthaibdflehnbbaaWWin
namespace Go.Proofs.Ythaibdflehnbbaa
open Go.RowKit

/-- isCopy, isData as they are asked. -/
def icb (cp : Bool) (f n : Int) (m : Nat) : Bool := cp && decide (0 ≤ f) && decide (f ≤ 4294967295) && decide (1 ≤ n) && decide (n ≤ 65536) && decide (m = 0)
def idb (cp : Bool) (f n : Int) (m : Nat) : Bool := !cp && decide (f = 0) && decide (n = 0) && decide (1 ≤ m) && decide (m ≤ 127)

set_option maxRecDepth 100000 in
set_option maxHeartbeats 1000000 in
theorem isCopy_any (cp : Bool) (f n : Int) (sa : Option Addr) (m sc : Nat) (w : World) :
    Calls Try.prog 36 #[.agg #[.bool cp, .int .i64 f, .int .i64 n, .slice sa m sc]] w fun e w' => e = .returned (.bool (icb cp f n m)) ∧ Below w.heap.size w w' := by
  have hB := new_below w (.cells #[.bool cp, .int .i64 f, .int .i64 n, .slice sa m sc] 42)
  cases cp with
  | false =>
    have HE : Hid (icb false f n m = false) := rfl
    go_enter Try.func36, Try.ntmps36
    go_wp2
    go_ret
    rw [HE.out]
    exact ⟨rfl, hB⟩
  | true =>
    by_cases h1 : 0 ≤ f
    · by_cases h2 : f ≤ 4294967295
      · by_cases h3 : 1 ≤ n
        · by_cases h4 : n ≤ 65536
          · by_cases h5 : m = 0
            · have HE : Hid (icb true f n m = true) := by show _ = _; simp [icb, h1, h2, h3, h4, h5]
              subst h5
              go_enter Try.func36, Try.ntmps36
              go_wp2
              go_ret
              rw [HE.out]
              exact ⟨rfl, hB⟩
            · have HE : Hid (icb true f n m = false) := by show _ = _; simp [icb, h1, h2, h3, h4, h5]
              have q : ((m : Int) == 0) = false := by simp; omega
              go_enter Try.func36, Try.ntmps36
              go_wp2
              go_ret
              rw [HE.out]
              exact ⟨rfl, hB⟩
          · have HE : Hid (icb true f n m = false) := by show _ = _; simp [icb, h4]
            go_enter Try.func36, Try.ntmps36
            go_wp2
            go_ret
            rw [HE.out]
            exact ⟨rfl, hB⟩
        · have HE : Hid (icb true f n m = false) := by show _ = _; simp [icb, h3]
          go_enter Try.func36, Try.ntmps36
          go_wp2
          go_ret
          rw [HE.out]
          exact ⟨rfl, hB⟩
      · have HE : Hid (icb true f n m = false) := by show _ = _; simp [icb, h2]
        go_enter Try.func36, Try.ntmps36
        go_wp2
        go_ret
        rw [HE.out]
        exact ⟨rfl, hB⟩
    · have HE : Hid (icb true f n m = false) := by show _ = _; simp [icb, h1]
      go_enter Try.func36, Try.ntmps36
      go_wp2
      go_ret
      rw [HE.out]
      exact ⟨rfl, hB⟩

set_option maxRecDepth 100000 in
set_option maxHeartbeats 1000000 in
theorem isData_any (cp : Bool) (f n : Int) (sa : Option Addr) (m sc : Nat) (w : World) :
    Calls Try.prog 37 #[.agg #[.bool cp, .int .i64 f, .int .i64 n, .slice sa m sc]] w fun e w' => e = .returned (.bool (idb cp f n m)) ∧ Below w.heap.size w w' := by
  have hB := new_below w (.cells #[.bool cp, .int .i64 f, .int .i64 n, .slice sa m sc] 42)
  cases cp with
  | true =>
    have HE : Hid (idb true f n m = false) := rfl
    go_enter Try.func37, Try.ntmps37
    go_wp2
    go_ret
    rw [HE.out]
    exact ⟨rfl, hB⟩
  | false =>
    by_cases h1 : f = 0
    · by_cases h2 : n = 0
      · by_cases h3 : 1 ≤ m
        · have z3 : (1 : Int) ≤ m := by omega
          by_cases h4 : m ≤ 127
          · have z4 : (m : Int) ≤ 127 := by omega
            have HE : Hid (idb false f n m = true) := by show _ = _; simp [idb, h1, h2, h3, h4]
            subst h1 h2
            go_enter Try.func37, Try.ntmps37
            go_wp2
            go_ret
            rw [HE.out]
            exact ⟨rfl, hB⟩
          · have z4 : ¬ (m : Int) ≤ 127 := by omega
            have HE : Hid (idb false f n m = false) := by show _ = _; simp [idb, h4]
            subst h1 h2
            go_enter Try.func37, Try.ntmps37
            go_wp2
            go_ret
            rw [HE.out]
            exact ⟨rfl, hB⟩
        · obtain rfl : m = 0 := by omega
          have HE : Hid (idb false f n 0 = false) := by show _ = _; simp [idb]
          subst h1 h2
          go_enter Try.func37, Try.ntmps37
          go_wp2
          go_ret
          rw [HE.out]
          exact ⟨rfl, hB⟩
      · have HE : Hid (idb false f n m = false) := by show _ = _; simp [idb, h2]
        have q : (n == 0) = false := by simp [h2]
        subst h1
        go_enter Try.func37, Try.ntmps37
        go_wp2
        go_ret
        rw [HE.out]
        exact ⟨rfl, hB⟩
    · have HE : Hid (idb false f n m = false) := by show _ = _; simp [idb, h1]
      have q : (f == 0) = false := by simp [h1]
      go_enter Try.func37, Try.ntmps37
      go_wp2
      go_ret
      rw [HE.out]
      exact ⟨rfl, hB⟩

theorem okp_icb (o : Op) (m : Nat) (h : o.da.length = m) : okp o ↔ icb o.cp o.fr o.n m = true ∨ idb o.cp o.fr o.n m = true := by
  subst h
  simp only [okp, isC, isD, icb, idb, Bool.and_eq_true, decide_eq_true_eq, Bool.not_eq_true', and_assoc]

theorem okps_take (l : List Op) (k : Nat) (hk : k < l.length) : (∀ o ∈ l.take (k + 1), okp o) ↔ (∀ o ∈ l.take k, okp o) ∧ okp (l.getD k oz) := by
  rw [take_snoc l oz k hk]
  constructor
  · intro h
    exact ⟨fun o ho => h o (List.mem_append_left _ ho), h _ (by simp)⟩
  · rintro ⟨h1, h2⟩ o ho
    rcases List.mem_append.1 ho with h | h
    · exact h1 o h
    · simp at h; subst h; exact h2

set_option maxRecDepth 100000 in
set_option maxHeartbeats 1000000 in
theorem printable_any (ao : Option Addr) (n c : Nat) (xs : List MO) (l : List Op) (w : World) (h : Os w ao n xs l) (hn : n ≤ 1000000) :
    Calls Try.prog 27 #[.slice ao n c] w fun e w' => e = .returned (.bool (decide (∀ o ∈ l, okp o))) ∧ Below w.heap.size w w' := by
  have hlen := h.len
  have HT : Hid (Os w ao n xs l) := h
  clear h
  go_enter Try.func27, Try.ntmps27
  go_wp2
  go_loopw [7] (fun i wr => ∃ k : Nat, k ≤ n ∧ i = .int .i64 k ∧ Hid (∀ o ∈ l.take k, okp o) ∧ Hid (Below w.heap.size w wr)) (fun i _ => n - (intOf i).toNat)
  case atStart => exact ⟨0, by omega, rfl, (fun o ho => by simp at ho), Below.refl _ _⟩
  case round =>
    obtain ⟨k, hk, rfl, hw, hb⟩ := hrel
    by_cases hlt : k < n
    · have ho := HT.out.keep (hb.out.mono (Nat.le_refl _))
      obtain ⟨b, off, rfl, h0, h1, h2, h3⟩ := ho.cells k hlt
      have his := ho.is k hlt
      have HW : Hid ((∀ o ∈ l.take (k + 1), okp o) ↔ (∀ o ∈ l.take k, okp o) ∧ okp (l.getD k oz)) := okps_take l k (by omega)
      have HL : Hid ((∀ o ∈ l, okp o) → okp (l.getD k oz)) := fun h => h _ (HT.out.at k hlt)
      have hoi := okp_icb (l.getD k oz) (xs.getD k mz).m his.rd.len
      clear ho
      generalize xs.getD k mz = x at *
      generalize l.getD k oz = o at *
      obtain ⟨e1, e2, e3, _⟩ := his
      obtain ⟨xc, xf, xn, xa, xm, xk⟩ := x
      obtain ⟨oc, of, on, od⟩ := o
      simp only at e1 e2 e3 h0 h1 h2 h3 hoi
      subst e1 e2 e3
      have B2 : Below w.heap.size w (wr.alloc (.cells #[.bool xc, .int .i64 xf, .int .i64 xn, .slice xa xm xk] 42)) := hb.out.alloc hb.out.size _
      have r2 := fo_new wr (.bool xc) (.int .i64 xf) (.int .i64 xn) (.slice xa xm xk) 42
      have hic := fun W => isCopy_any xc xf xn xa xm xk W
      have hid := fun W => isData_any xc xf xn xa xm xk W
      have HOI := hoi
      cases hci : icb xc xf xn xm with
      | true =>
        simp only [hci] at hic
        have hw' : Hid (∀ o ∈ l.take (k + 1), okp o) := HW.out.2 ⟨hw.out, hoi.2 (.inl hci)⟩
        clear hw hb HW HL hoi hid HOI hci
        go_wp2_with (first
          | (go_at_call 36; refine (hic _).mono ?_; rintro e w1 ⟨rfl, hb1⟩))
        have B3 : Hid (Below w.heap.size w w1) := B2.trans (hb1.mono B2.size)
        clear B2 hb1
        go_roundw
        case rel => exact ⟨k + 1, by omega, by go_num, hw', B3⟩
        case measure => simp [intOf]; omega
      | false =>
        simp only [hci] at hic
        cases hdi : idb xc xf xn xm with
        | true =>
          simp only [hdi] at hid
          have hw' : Hid (∀ o ∈ l.take (k + 1), okp o) := HW.out.2 ⟨hw.out, hoi.2 (.inr hdi)⟩
          clear hw hb HW HL hoi HOI hci hdi
          go_wp2_with (first
            | (go_at_call 36; refine (hic _).mono ?_; rintro e w1 ⟨rfl, hb1⟩; have r3 := r2.of_block (hb1.block _ r2.lt); have d0 := r3.cell (i := 0) (by omega); have d1 := r3.cell (i := 1) (by omega); have d2 := r3.cell (i := 2) (by omega); have d3 := r3.cell (i := 3) (by omega); simp only [fo] at d0 d1 d2 d3)
            | (go_at_call 37; refine (hid _).mono ?_; rintro e w2 ⟨rfl, hb2⟩))
          have B3 := B2.trans (hb1.mono B2.size)
          have B4 : Hid (Below w.heap.size w w2) := B3.trans (hb2.mono B3.size)
          clear B2 B3 hb1 hb2 d0 d1 d2 d3 r3 r2
          go_roundw
          case rel => exact ⟨k + 1, by omega, by go_num, hw', B4⟩
          case measure => simp [intOf]; omega
        | false =>
          simp only [hdi] at hid
          have HE : Hid (decide (∀ o ∈ l, okp o) = false) := decide_eq_false (fun h => by
            have := hoi.1 (HL.out h)
            rw [hci, hdi] at this
            simp at this)
          clear hw hb HW HL hoi HOI hci hdi
          go_wp2_with (first
            | (go_at_call 36; refine (hic _).mono ?_; rintro e w1 ⟨rfl, hb1⟩; have r3 := r2.of_block (hb1.block _ r2.lt); have d0 := r3.cell (i := 0) (by omega); have d1 := r3.cell (i := 1) (by omega); have d2 := r3.cell (i := 2) (by omega); have d3 := r3.cell (i := 3) (by omega); simp only [fo] at d0 d1 d2 d3)
            | (go_at_call 37; refine (hid _).mono ?_; rintro e w2 ⟨rfl, hb2⟩))
          have B3 := B2.trans (hb1.mono B2.size)
          have B4 : Hid (Below w.heap.size w w2) := B3.trans (hb2.mono B3.size)
          clear B2 B3 hb1 hb2 d0 d1 d2 d3 r3 r2
          go_ret
          rw [HE.out]
          exact ⟨rfl, B4.out⟩
    · obtain rfl : k = n := by omega
      have HE : Hid (decide (∀ o ∈ l, okp o) = true) := decide_eq_true (by have := hw.out; rwa [← hlen, List.take_length] at this)
      clear hw
      go_wp2
      go_ret
      rw [HE.out]
      exact ⟨rfl, hb.out⟩

end Go.Proofs.Ythaibdflehnbbaa
