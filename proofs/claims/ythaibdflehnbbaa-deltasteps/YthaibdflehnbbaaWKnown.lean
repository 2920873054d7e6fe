/- Bytes as a string; known. -/
import Derived.Test.YthaibdflehnbbaaWMake
namespace Go.Proofs.Ythaibdflehnbbaa
open Go.RowKit

theorem Rd.str {w : World} {ao : Option Addr} {n c : Nat} {xs : List Int} (h : Rd w ao n c xs) : (convert 22 9 (.slice ao n c)).run Try.prog w = .ok (.string (strOfNums xs)) w := by
  cases ao with
  | none =>
    obtain ⟨rfl, rfl⟩ := h.nul rfl
    have hx : xs = [] := List.eq_nil_of_length_eq_zero h.len
    subst hx
    rw [run_convert_bytes_nil w 22 5 Try.underlying22 Try.underlying5 0 0 9 Try.underlying9]
    rfl
  | some ad =>
    have hl : (loadCells ad n).run Try.prog w = .ok (xs.map (Value.int .u8)).toArray w := by
      have := run_loadCells_list (P := Try.prog) w ad (xs.map (Value.int .u8)) (h.cellsOf ad rfl)
      simpa [h.len] using this
    rw [run_convert_bytes_string w 22 9 5 _ n c Try.underlying22 Try.underlying5 Try.underlying9, run_bytesToString w _ n c xs hl, foldl_push_bytes]
    simp [strOfNums, ByteArray.empty, ByteArray.emptyWithCapacity]
    rfl

theorem lit_rd (w : World) (l : List Int) (cs : Array Value) (h : cs = (l.map (Value.int .u8)).toArray) (hb : ∀ x ∈ l, 0 ≤ x ∧ x < 256) : Rd (w.alloc (Obj.cells cs 5)) (some ⟨w.heap.size, 0, none⟩) l.length l.length l := by
  subst h
  have hr := World.rowIs_alloc w (l.map (Value.int .u8)).toArray 5 (fun j => .int .u8 (l.getD j 0)) (fun i hi => by
    have hi' : i < l.length := by simpa using hi
    simp [List.getD, List.getElem?_eq_getElem hi'])
  refine ⟨rfl, Nat.le_refl _, (fun e => by cases e), fun ad had j hj => ?_, hb⟩
  cases had
  rw [Addr.add_lit, Nat.zero_add]
  exact hr.cell (by simpa using hj)

def ks : List Int := [97, 98, 99, 100]
def kt : List Int := [97, 98, 99, 100, 120, 121]
def kd : List Int := [4, 6, 144, 4, 2, 120, 121]
def kl : List Op := [⟨true, 0, 4, []⟩, ⟨false, 0, 0, [120, 121]⟩]

theorem ks_byt : ∀ x ∈ ks, 0 ≤ x ∧ x < 256 := by decide +kernel
theorem kt_byt : ∀ x ∈ kt, 0 ≤ x ∧ x < 256 := by decide +kernel
theorem kd_byt : ∀ x ∈ kd, 0 ≤ x ∧ x < 256 := by decide +kernel
theorem apy_kd : apy ks kd 100 = (kt, 0) := by decide +kernel
theorem prs_kd : prs kd = (4, 6, kl, 0) := by kernel_rfl
theorem pnt_kl : pnt 4 6 kl = (kd, 0) := by decide +kernel
theorem str_kt : strOfNums kt = ⟨#[97, 98, 99, 100, 120, 121]⟩ := by decide +kernel

/-- What is made is applied. -/
theorem apy_made {bs ts : List Int} {l : List Op} {N M : Nat} {most : Int} (h : Made bs ts l) (hN : bs.length = N) (hM : ts.length = M) (hm : (M : Int) ≤ most) (h65 : N ≤ 65536) (h66 : M ≤ 65536) : apy bs (prt N M l) most = (ts, 0) := by
  have hp := prs_prt (N : Int) (M : Int) l (by omega) (by omega) (by omega) (by omega) h.good.ok
  have hk : ∀ o ∈ l, okr o := fun o ho => by
    rcases h.good.ok o ho with h1 | h1
    · exact ⟨fun _ => ⟨h1.2.1, by have := h1.2.2.1; omega, h1.2.2.2.1, by have := h1.2.2.2.2.1; omega, List.eq_nil_of_length_eq_zero h1.2.2.2.2.2⟩, (fun e => by rw [h1.1] at e; cases e), h.good.byt o ho⟩
    · exact ⟨(fun e => by rw [h1.1] at e; cases e), fun _ => ⟨h1.2.1, h1.2.2.1, h1.2.2.2.1, h1.2.2.2.2⟩, h.good.byt o ho⟩
  have ht : tot l = M := by
    have := mks_len bs l hk h.good.win
    rw [h.good.mks] at this
    omega
  have := apy_yes bs (prt N M l) most (by rw [hp]) (by rw [hp, hN]) (by rw [hp]; show ¬ most < (M : Int); omega) (by rw [hp]; exact h.good.win) (by rw [hp]; exact ht)
  rw [this, hp]
  show (mks bs l, _) = _
  rw [h.good.mks]

theorem made_byt {bs ts : List Int} {l : List Op} {N M : Nat} (h : Made bs ts l) : ∀ x ∈ prt N M l, 0 ≤ x ∧ x < 256 := prt_byt N M l (by omega) (by omega) h.good.ok h.good.byt

theorem made_len {bs ts : List Int} {l : List Op} {N M : Nat} (h : Made bs ts l) (hM : ts.length ≤ 65536) : (prt N M l).length ≤ 1000000 := by
  have := h.good.cost
  have := sz_len_le 9 (N : Int)
  have := sz_len_le 9 (M : Int)
  unfold prt
  simp only [List.length_append]
  omega

set_option maxRecDepth 100000 in
set_option maxHeartbeats 2000000 in
theorem known_any (w : World) : Calls Try.prog 9 #[] w fun e w' => e = .returned (.bool true) ∧ Below w.heap.size w w' := by
  have d0 : Rd (w.alloc (.cells #[.int .u8 4, .int .u8 6, .int .u8 144, .int .u8 4, .int .u8 2, .int .u8 120, .int .u8 121] 5)) (some ⟨w.heap.size, 0, none⟩) 7 7 kd := lit_rd w kd _ rfl kd_byt
  have a0 := new_below w (.cells #[.int .u8 4, .int .u8 6, .int .u8 144, .int .u8 4, .int .u8 2, .int .u8 120, .int .u8 121] 5)
  go_enter Try.func9, Try.ntmps9
  go_wp2_with (first
    | (refine wpList_conv rfl _ rfl ⟨w.heap.size + 1, 0, none⟩ 4 4 rfl ?_; intro w1 f1 c1))
  have b1 : Rd w1 (some ⟨w.heap.size + 1, 0, none⟩) 4 4 ks := by
    have := lit_rd (w.alloc (.cells #[.int .u8 4, .int .u8 6, .int .u8 144, .int .u8 4, .int .u8 2, .int .u8 120, .int .u8 121] 5)) ks #[.int .u8 97, .int .u8 98, .int .u8 99, .int .u8 100] rfl ks_byt
    rw [show (w.alloc (.cells #[.int .u8 4, .int .u8 6, .int .u8 144, .int .u8 4, .int .u8 2, .int .u8 120, .int .u8 121] 5)).heap.size = w.heap.size + 1 by simp] at this
    exact this.same c1
  have d1 : Rd w1 (some ⟨w.heap.size, 0, none⟩) 7 7 kd := (d0.keep (new_below _ _)).same c1
  have B1 : Below w.heap.size w w1 := (a0.trans ((new_below _ (.cells #[.int .u8 97, .int .u8 98, .int .u8 99, .int .u8 100] 5)).mono (by simp))).trans (f1.below _ (by simp; omega) (fun i hi e => by omega))
  have i1 := Apply_any _ 4 4 ks _ 7 7 kd 100 w1 b1 d1 (by omega) (by omega) (by omega)
  rw [apy_kd] at i1
  refine i1.mono ?_
  rintro e w2 ⟨v2, rfl, o2, g2⟩
  have B2 := B1.trans (g2.mono B1.size)
  have d2 := d1.keep g2
  obtain ⟨x2, y2, rfl, r2, _⟩ := own_rd o2 kt_byt
  clear i1 o2 f1 c1 b1 d0 a0
  go_wp2_with fail
  have i2 := Parse_any _ 7 7 kd w2 d2 (by omega)
  rw [prs_kd] at i2
  refine i2.mono ?_
  rintro e w3 ⟨v3, n3, ms3, rfl, o3, g3⟩
  have B3 := B2.trans (g3.mono B2.size)
  have d3 := d2.keep g3
  have r3 := r2.keep g3
  obtain ⟨la, lc, rfl, hlc, hOs, _⟩ := o3.os
  obtain rfl : n3 = 2 := hOs.len.symm
  clear i2 o3
  go_wp2_with fail
  have i3 := Print_any 4 6 la 2 lc ms3 kl w3 hOs (by omega) (by omega) (by omega)
  rw [pnt_kl] at i3
  refine i3.mono ?_
  rintro e w4 ⟨v4, rfl, o4, g4⟩
  have B4 := B3.trans (g4.mono B3.size)
  have d4 := d3.keep g4
  have r4 := r3.keep g4
  obtain ⟨x4, y4, rfl, p4, _⟩ := own_rd o4 kd_byt
  clear i3 o4
  go_wp2_with (first
    | (refine wpList_conv rfl _ rfl ⟨w5.heap.size, 0, none⟩ 6 6 rfl ?_; intro w6 f6 c6)
    | (refine wpList_conv rfl _ rfl ⟨w4.heap.size, 0, none⟩ 4 4 rfl ?_; intro w5 f5 c5))
  have s5 : Rd w5 (some ⟨w4.heap.size, 0, none⟩) 4 4 ks := (lit_rd w4 ks #[.int .u8 97, .int .u8 98, .int .u8 99, .int .u8 100] rfl ks_byt).same c5
  have g5 : Below w4.heap.size w4 w5 := new_fr f5
  have t6 : Rd w6 (some ⟨w5.heap.size, 0, none⟩) 6 6 kt := (lit_rd w5 kt #[.int .u8 97, .int .u8 98, .int .u8 99, .int .u8 100, .int .u8 120, .int .u8 121] rfl kt_byt).same c6
  have g6 : Below w5.heap.size w5 w6 := new_fr f6
  have s6 := s5.keep g6
  have G6 := g5.trans (g6.mono g5.size)
  have B6 := B4.trans (G6.mono B4.size)
  have d6 := d4.keep G6
  have r6 := r4.keep G6
  have p6 := p4.keep G6
  refine (Make_any _ 4 4 ks _ 6 6 kt 1 w6 s6 t6 (by omega) (by omega)).mono ?_
  rintro e w7 ⟨v7, l7, rfl, hm7, o7, g7⟩
  have B7 := B6.trans (g7.mono B6.size)
  have d7 := d6.keep g7
  have r7 := r6.keep g7
  have p7 := p6.keep g7
  have hl7 := made_len (N := 4) (M := 6) hm7 (by decide)
  obtain ⟨x7, y7, rfl, m7, _⟩ := own_rd o7 (made_byt hm7)
  have ha7 := apy_made (N := 4) (M := 6) (most := 100) hm7 rfl rfl (by decide) (by decide) (by decide)
  clear o7 s5 t6 s6 f5 c5 f6 c6 d6 r6 p6 d4 r4 p4 B6 G6 g5 g6
  go_wp2_with (first
    | (refine wpList_conv rfl _ rfl ⟨w7.heap.size, 0, none⟩ 4 4 rfl ?_; intro w8 f8 c8))
  have s8 : Rd w8 (some ⟨w7.heap.size, 0, none⟩) 4 4 ks := (lit_rd w7 ks #[.int .u8 97, .int .u8 98, .int .u8 99, .int .u8 100] rfl ks_byt).same c8
  have g8 : Below w7.heap.size w7 w8 := new_fr f8
  have i9 := Apply_any _ 4 4 ks _ _ y7 _ 100 w8 s8 (m7.keep g8) (by omega) hl7 (by omega)
  rw [ha7] at i9
  refine i9.mono ?_
  rintro e w9 ⟨v9, rfl, o9, g9⟩
  obtain ⟨x9, y9, rfl, q9, _⟩ := own_rd o9 kt_byt
  have G9 := g8.trans (g9.mono g8.size)
  have B9 := B7.trans (G9.mono B7.size)
  have d9 := (d7.keep G9).str
  have r9 := (r7.keep G9).str
  have p9 := (p7.keep G9).str
  have q9' := q9.str
  rw [str_kt] at r9 q9'
  clear i9 o9 s8 f8 c8 m7 d7 r7 p7 q9 ha7 hl7
  go_wp2
  go_ret
  exact ⟨rfl, B9⟩

end Go.Proofs.Ythaibdflehnbbaa
