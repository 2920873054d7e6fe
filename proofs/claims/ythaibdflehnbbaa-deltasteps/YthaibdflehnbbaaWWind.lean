/- Windows: fits, newWindow, roll. -/
import Derived.Test.YthaibdflehnbbaaWPutp
namespace Go.Proofs.Ythaibdflehnbbaa
open Go.RowKit

/-- A window's cells. -/
def wc (bo : Option Addr) (N C p : Nat) (s : Int) : Nat → Value
  | 0 => .slice bo N C
  | 1 => .int .i64 p
  | _ => .int .u32 s

theorem wc_new (w : World) (bo : Option Addr) (N C p : Nat) (s : Int) : (w.alloc (.cells #[.slice bo N C, .int .i64 p, .int .u32 s] 93)).rowIs w.heap.size 93 3 (wc bo N C p s) :=
  World.rowIs_alloc w #[.slice bo N C, .int .i64 p, .int .u32 s] 93 (wc bo N C p s) (fun i hi => by simp at hi; rcases i with _ | _ | _ | i <;> first | rfl | omega)

theorem wc_set2 {w : World} {b : Nat} {bo : Option Addr} {N C p : Nat} {s : Int} (h : w.rowIs b 93 3 (wc bo N C p s)) (s' : Int) : (w.setCell ⟨b, 2, none⟩ (.int .u32 s')).rowIs b 93 3 (wc bo N C p s') :=
  (h.set 2 (.int .u32 s')).congr (fun i hi => by rcases i with _ | _ | _ | i <;> first | rfl | omega)

theorem wc_set1 {w : World} {b : Nat} {bo : Option Addr} {N C p : Nat} {s : Int} (h : w.rowIs b 93 3 (wc bo N C p s)) (p' : Nat) : (w.setCell ⟨b, 1, none⟩ (.int .i64 p')).rowIs b 93 3 (wc bo N C p' s) :=
  (h.set 1 (.int .i64 p')).congr (fun i hi => by rcases i with _ | _ | _ | i <;> first | rfl | omega)

set_option maxRecDepth 100000 in
set_option maxHeartbeats 1000000 in
theorem fits_any (R : Nat) (bo : Option Addr) (N C p : Nat) (s : Int) (w : World) (h : w.rowIs R 93 3 (wc bo N C p s)) (hp : p ≤ 2000000) :
    Calls Try.prog 56 #[.pointer (some ⟨R, 0, none⟩)] w fun e w' => e = .returned (.bool (decide (p + 16 ≤ N))) ∧ Below w.heap.size w w' := by
  have c0 := h.cell (i := 0) (by omega)
  have c1 := h.cell (i := 1) (by omega)
  simp only [wc] at c0 c1
  clear h
  by_cases hk : p + 16 ≤ N
  · have z : (p : Int) + 16 ≤ N := by omega
    have HE : Hid (decide (p + 16 ≤ N) = true) := decide_eq_true hk
    go_enter Try.func56, Try.ntmps56
    go_wp2
    go_region
    go_wp2
    go_ret
    rw [HE.out]
    exact ⟨rfl, drew_keep w⟩
  · have z : (N : Int) < (p : Int) + 16 := by omega
    have z2 : decide ((p : Int) + 16 ≤ (N : Int)) = false := decide_eq_false (by omega)
    have HE : Hid (decide (p + 16 ≤ N) = false) := decide_eq_false hk
    go_enter Try.func56, Try.ntmps56
    go_wp2
    go_region
    go_wp2
    go_ret
    rw [HE.out]
    exact ⟨rfl, drew_keep w⟩

theorem u32_range (x : Int) : 0 ≤ IntKind.u32.wrap x ∧ IntKind.u32.wrap x < 4294967296 := by
  have e : IntKind.u32.wrap x = x % 4294967296 := by simp [IntKind.wrap, IntKind.bits, IntKind.signed]
  rw [e]
  omega

set_option maxRecDepth 100000 in
set_option maxHeartbeats 1000000 in
theorem newWindow_any (bo : Option Addr) (N C : Nat) (b : List Int) (p : Nat) (w : World) (hb : Rd w bo N C b) (hp : p ≤ N) (hN : N ≤ 1000000) :
    Calls Try.prog 55 #[.slice bo N C, .int .i64 p] w fun e w' => ∃ (R : Nat) (s : Int), e = .returned (.pointer (some ⟨R, 0, none⟩)) ∧ w'.rowIs R 93 3 (wc bo N C p s) ∧ 0 ≤ s ∧ s < 4294967296 ∧ w.heap.size ≤ R ∧ Below w.heap.size w w' := by
  have r0 := wc_new w bo N C p 0
  have HB : Hid (Rd w bo N C b) := hb
  have hf := fits_any w.heap.size bo N C p 0 _ r0 (by omega)
  have hbl := hb.len
  clear hb
  by_cases hk : p + 16 ≤ N
  · have hd : decide (p + 16 ≤ N) = true := decide_eq_true hk
    rw [hd] at hf
    clear hd
    go_enter Try.func55, Try.ntmps55
    go_wp2_with (first
      | (go_at_call 56; refine hf.mono ?_; rintro e w1 ⟨rfl, hB1⟩)
      | (refine wpList_sub rfl _ _ _ rfl ((HB.out.keep (new_below w (.cells #[.slice bo N C, .int .i64 p, .int .u32 0] 93))).keep hB1) p 16 hk rfl (.inl rfl) (.inl (by rw [Int.natCast_add]; rfl)) ?_; intro ao2 c2 hr2 hs2))
    have r1 := r0.of_block (hB1.block _ r0.lt)
    have F1 : Hid (Below w.heap.size w w1) := (new_below w _).trans (hB1.mono (by simp))
    obtain ⟨R, hR⟩ : ∃ R, R = w.heap.size := ⟨_, rfl⟩
    have HR : Hid (R = w.heap.size) := hR
    rw [← hR] at r1 ⊢
    have HR2 : Hid (Rd w1 ao2 16 c2 ((b.drop p).take 16)) := hr2
    have HS2 : Hid (∀ ad, ao2 = some ad → ad.block < w.heap.size) := fun ad e => by
      obtain ⟨a0, e0, e1⟩ := hs2 ad e
      rw [e1]
      exact HB.out.blk a0 e0 (by omega)
    clear r0 hf hB1 hr2 hs2 hR
    go_loopw [20] (fun i wr => ∃ (k : Nat) (s : Int), k ≤ 16 ∧ i = .int .i64 k ∧ 0 ≤ s ∧ s < 4294967296 ∧ wr.rowIs R 93 3 (wc bo N C p s) ∧ Hid (Below w.heap.size w wr) ∧ Hid (Fr (fun q => q = R) w1 wr)) (fun i _ => 16 - (intOf i).toNat)
    case atStart => exact ⟨0, 0, by omega, rfl, by omega, by omega, r1, F1, Fr.refl _ _⟩
    case round =>
      obtain ⟨k, s, hk16, rfl, hs0, hs1, hr, hbe, hfr⟩ := hrel
      clear r1 F1
      by_cases hlt : k < 16
      · have rd := HR2.out.fr hfr.out (fun ad e _ e2 => by have := HS2.out ad e; have := HR.out; omega)
        obtain ⟨B1, o1, rfl, hc1⟩ := rd.plain (by omega)
        have d0 := hc1 k (by omega)
        have hby := getD_byt _ rd.byt k
        generalize ((b.drop p).take 16).getD k 0 = x at *
        have hx0 := hby.1
        have hx1 := hby.2
        have q2 := hr.cell (i := 2) (by omega)
        have q3 := hr.frozen 2
        simp only [wc] at q2
        have z16 : (k : Int) < 16 := by omega
        have rs := wc_set2 hr ((s * 2654435761 + x) % 4294967296)
        have b2 : Hid (Below w.heap.size w (wr.setCell ⟨R, 2, none⟩ (.int .u32 ((s * 2654435761 + x) % 4294967296)))) := hbe.out.trans ((set_fr wr ⟨R, 2, none⟩ _).below _ hbe.out.size (fun i hi e => by have : i = R := e; have := HR.out; omega))
        have f2 : Hid (Fr (fun q => q = R) w1 (wr.setCell ⟨R, 2, none⟩ (.int .u32 ((s * 2654435761 + x) % 4294967296)))) := hfr.out.setCell (p := ⟨R, 2, none⟩) rfl _
        clear hc1 hby rd hr
        go_wp2
        go_roundw
        case rel => exact ⟨k + 1, (s * 2654435761 + x) % 4294967296, by omega, by go_num, by omega, by omega, rs, b2, f2⟩
        case measure => simp [intOf]; omega
      · obtain rfl : k = 16 := by omega
        have RR : Hid (wr.rowIs R 93 3 (wc bo N C p s)) := hr
        clear hr
        go_wp2
        go_ret
        exact ⟨R, s, rfl, RR.out, hs0, hs1, by have := HR.out; omega, hbe.out⟩
  · have hd : decide (p + 16 ≤ N) = false := decide_eq_false hk
    rw [hd] at hf
    clear hd
    go_enter Try.func55, Try.ntmps55
    go_wp2_with (first
      | (go_at_call 56; refine hf.mono ?_; rintro e w1 ⟨rfl, hB1⟩))
    have r1 := r0.of_block (hB1.block _ r0.lt)
    have F1 : Hid (Below w.heap.size w w1) := (new_below w _).trans (hB1.mono (by simp))
    go_ret
    exact ⟨w.heap.size, 0, rfl, r1, by omega, by omega, Nat.le_refl _, F1.out⟩

set_option maxRecDepth 100000 in
set_option maxHeartbeats 2000000 in
theorem roll_any (R : Nat) (bo : Option Addr) (N C p : Nat) (s : Int) (b : List Int) (w : World) (h : w.rowIs R 93 3 (wc bo N C p s)) (hb : Rd w bo N C b) (hne : ∀ ad, bo = some ad → 0 < N → ad.block ≠ R) (hp : p + 16 ≤ N) (hN : N ≤ 1000000) (hs0 : 0 ≤ s) (hs1 : s < 4294967296) :
    Calls Try.prog 58 #[.pointer (some ⟨R, 0, none⟩)] w fun e w' => ∃ s', e = .returned (.tuple #[]) ∧ w'.rowIs R 93 3 (wc bo N C (p + 1) s') ∧ 0 ≤ s' ∧ s' < 4294967296 ∧ Fr (fun k => k = R) w w' := by
  have c0 := h.cell (i := 0) (by omega)
  have c1 := h.cell (i := 1) (by omega)
  simp only [wc] at c0 c1
  obtain ⟨B1, o1, rfl, hc1⟩ := hb.plain (by omega)
  have d0 := hc1 p (by omega)
  have hpN : p < N := by omega
  have hby := getD_byt _ hb.byt p
  have HH : Hid (w.rowIs R 93 3 (wc (some ⟨B1, o1, none⟩) N C p s)) := h
  have HB : Hid (Rd w (some ⟨B1, o1, none⟩) N C b) := hb
  have HNE : Hid (B1 ≠ R) := hne _ rfl (by omega)
  generalize b.getD p 0 = x at *
  clear h hb hne hc1
  go_enter Try.func58, Try.ntmps58
  go_wp2
  go_region
  have r1 := HH.out.of_block (w' := w.drew) rfl
  have e1 := r1.cell (i := 1) (by omega)
  have e2 := r1.frozen 1
  simp only [wc] at e1
  go_wp2_with fail
  have rr : (w.setCell ⟨R, 1, none⟩ (.int .i64 ((p : Int) + 1))).drew.rowIs R 93 3 (wc (some ⟨B1, o1, none⟩) N C (p + 1) s) := by
    have := wc_set1 HH.out (p + 1)
    rw [show ((p + 1 : Nat) : Int) = (p : Int) + 1 by omega] at this
    exact this.of_block rfl
  have ff : Fr (fun k => k = R) w (w.setCell ⟨R, 1, none⟩ (.int .i64 ((p : Int) + 1))).drew := (set_fr w ⟨R, 1, none⟩ _).drew
  have rdd := HB.out.fr ff (fun ad e _ e2 => by cases e; exact HNE.out e2)
  have hf := fits_any R (some ⟨B1, o1, none⟩) N C (p + 1) s _ rr (by omega)
  clear r1 e1 e2 c0 c1 d0 HH HB
  have hx0 := hby.1
  have hx1 := hby.2
  by_cases hk : p + 1 + 16 ≤ N
  · have hd : decide (p + 1 + 16 ≤ N) = true := decide_eq_true hk
    rw [hd] at hf
    refine hf.mono ?_
    rintro e w2 ⟨rfl, hB2⟩
    have r2 := rr.of_block (hB2.block _ rr.lt)
    have rd2 := rdd.keep hB2
    have f2 : Fr (fun k => k = R) w w2 := ff.trans (P' := fun _ => False) (Fr.ofBelow hB2) (fun _ _ h => h.elim)
    have k0 := r2.cell (i := 0) (by omega)
    have k1 := r2.cell (i := 1) (by omega)
    have k2 := r2.cell (i := 2) (by omega)
    have k3 := r2.frozen 2
    simp only [wc] at k0 k1 k2
    obtain ⟨B9, o9, e9, hc9⟩ := rd2.plain (by omega)
    cases e9
    have d9 := hc9 (p + 1 + 15) (by omega)
    have hb9 := getD_byt _ rd2.byt (p + 1 + 15)
    generalize b.getD (p + 1 + 15) 0 = y at *
    have hy0 := hb9.1
    have hy1 := hb9.2
    have i9 : ((p + 1 : Nat) : Int) + 16 - 1 = ((p + 1 + 15 : Nat) : Int) := by omega
    have i8 : (p : Int) + 1 + 16 - 1 = ((p + 1 + 15 : Nat) : Int) := by omega
    have i7 : p + 1 + 15 < N := by omega
    clear rr rdd ff hf hB2 hc9 hd
    have FIN := wc_set2 r2 ((s * 2654435761 + y - x * 1586123521) % 4294967296)
    have F9 : Fr (fun k => k = R) w (w2.setCell ⟨R, 2, none⟩ (.int .u32 ((s * 2654435761 + y - x * 1586123521) % 4294967296))).drew := (f2.setCell (p := ⟨R, 2, none⟩) rfl _).drew
    have F8 := FIN.of_block (w' := (w2.setCell ⟨R, 2, none⟩ (.int .u32 ((s * 2654435761 + y - x * 1586123521) % 4294967296))).drew) rfl
    go_wp2
    go_region
    go_end0
    exact ⟨(s * 2654435761 + y - x * 1586123521) % 4294967296, rfl, F8, by omega, by omega, F9⟩
  · have hd : decide (p + 1 + 16 ≤ N) = false := decide_eq_false hk
    rw [hd] at hf
    refine hf.mono ?_
    rintro e w2 ⟨rfl, hB2⟩
    have r2 := rr.of_block (hB2.block _ rr.lt)
    have f2 : Fr (fun k => k = R) w w2 := ff.trans (P' := fun _ => False) (Fr.ofBelow hB2) (fun _ _ h => h.elim)
    clear rr rdd ff hf hB2
    go_wp2
    go_end0
    exact ⟨s, rfl, r2, hs0, hs1, f2⟩

end Go.Proofs.Ythaibdflehnbbaa
