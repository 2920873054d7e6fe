/- DeltaChains. -/
import Derived.Test.YthaibdflehnbbaaWKnown
import Derived.Test.YthaibdflehnbbaaArgs2
namespace Go.Proofs.Ythaibdflehnbbaa
open Go.RowKit

theorem szs_prt (base out : Int) (l : List Op) (hb0 : 0 ≤ base) (hb1 : base ≤ 9223372036854775807) (ho0 : 0 ≤ out) (ho1 : out ≤ 9223372036854775807) : szs (prt base out l) = (base, out, (sz 9 base).length + (sz 9 out).length, 0) := by
  have e : prt base out l = sz 9 base ++ (sz 9 out ++ prn l) := by unfold prt; rw [List.append_assoc]
  have s1 := sizeAns_sz base (sz 9 out ++ prn l) hb0 hb1
  have s2 := sizeAns_sz out (prn l) ho0 ho1
  unfold szs
  rw [e, s1]
  simp only [Int.toNat_natCast, List.drop_left]
  rw [s2]
  simp

theorem chains_skip (a : Option Addr) (n c : Nat) (ef : Int) (w : World) (h : n = 0 ∨ 10 < n) :
    Calls Try.prog 7 #[.slice a n c, .int .i64 ef] w fun e w' => e = .returned (.bool true) ∧ Below w.heap.size w w' := by
  by_cases h0 : n = 0
  · subst h0
    go_enter Try.func7, Try.ntmps7
    go_wp2_with (first | (go_at_call 9; refine (known_any w).mono ?_; rintro e w1 ⟨rfl, hB⟩))
    go_ret
    exact ⟨rfl, hB⟩
  · have z0 : ((n : Int) == 0) = false := by simp; omega
    have z : (10 : Int) < n := by omega
    go_enter Try.func7, Try.ntmps7
    go_wp2_with (first | (go_at_call 9; refine (known_any w).mono ?_; rintro e w1 ⟨rfl, hB⟩))
    go_ret
    exact ⟨rfl, hB⟩

/-- What is there of the texts. -/
def Tx (w : World) (b off n : Nat) (A : Nat → Option Addr) (L C : Nat → Nat) (Z : Nat → List Int) : Prop :=
  ∀ j, j < n → w.cell? ⟨b, off + j, none⟩ = some (.slice (A j) (L j) (C j)) ∧ Rd w (A j) (L j) (C j) (Z j)

theorem Tx.keep {w w' : World} {b off n : Nat} {A : Nat → Option Addr} {L C : Nat → Nat} {Z : Nat → List Int} (h : Tx w b off n A L C Z) (hb : Below w.heap.size w w') : Tx w' b off n A L C Z := fun j hj => by
  obtain ⟨h1, h2⟩ := h j hj
  exact ⟨by rw [hb.cell (World.block_lt_of_cell? w _ h1)]; exact h1, h2.keep hb⟩

set_option maxRecDepth 100000 in
set_option maxHeartbeats 2000000 in
theorem chains_go (b off n c : Nat) (A : Nat → Option Addr) (L C : Nat → Nat) (Z : Nat → List Int) (ef : Int) (w : World) (h : Tx w b off n A L C Z) (hn0 : 1 ≤ n) (hn : n ≤ 10) :
    Calls Try.prog 7 #[.slice (some ⟨b, off, none⟩) n c, .int .i64 ef] w fun e w' => e = .returned (.bool true) ∧ Below w.heap.size w w' := by
  have z0 : ((n : Int) == 0) = false := by simp; omega
  have z1 : decide ((10 : Int) < (n : Int)) = false := decide_eq_false (by omega)
  have HT : Hid (Tx w b off n A L C Z) := h
  clear h
  go_enter Try.func7, Try.ntmps7
  go_wp2_with fail
  refine (known_any w).mono ?_
  rintro e w1 ⟨rfl, B1⟩
  have HT1 : Hid (Tx w1 b off n A L C Z) := HT.out.keep B1
  have HB1 : Hid (Below w.heap.size w w1) := B1
  clear B1 HT
  go_wp2_with fail
  go_loop [5] (fun i => ∃ k : Nat, k ≤ n ∧ i = .int .i64 k ∧ Hid (∀ j, j < k → L j ≤ 400)) (fun i => n - (intOf i).toNat)
  case atStart => exact ⟨0, by omega, rfl, fun j hj => by omega⟩
  case round =>
    obtain ⟨k, hk, rfl, hall⟩ := hrel
    by_cases hlt : k < n
    · have zk : (k : Int) < n := by omega
      have hc := (HT1.out k hlt).1
      by_cases h4 : 400 < L k
      · have z4 : (400 : Int) < L k := by omega
        go_wp2
        go_ret
        exact ⟨rfl, HB1.out⟩
      · have z4 : decide ((400 : Int) < (L k : Int)) = false := decide_eq_false (by omega)
        have z5 : (L k : Int) ≤ 400 := by omega
        have ha2 : Hid (∀ j, j < k + 1 → L j ≤ 400) := fun j hj => by
          rcases Nat.lt_or_ge j k with h' | h'
          · exact hall.out j h'
          · obtain rfl : j = k := by omega
            omega
        go_wp2
        go_round
        case rel => exact ⟨k + 1, by omega, by go_num, ha2⟩
        case measure => simp [intOf]; omega
    · obtain rfl : k = n := by omega
      have c0 := (HT1.out 0 (by omega)).1
      rw [Nat.add_zero] at c0
      have hk0 : 0 < k := by omega
      have hk1 : (0 : Int) < k := by omega
      have H0 : Hid (Tx w1 b off k A L C Z ∧ Rd w1 (A 0) (L 0) (C 0) (Z 0) ∧ Below w.heap.size w w1) := ⟨HT1.out, (HT1.out 0 (by omega)).2, HB1.out⟩
      have HALL : Hid (∀ j, j < k → L j ≤ 400) := hall
      clear hall hk
      go_wp2_with fail
      go_loopw [6, 7] (fun nv iv wr => ∃ (i j : Nat) (na : Option Addr) (nc : Nat), i ≤ k ∧ iv = .int .i64 i ∧ Hid (i = j + 1) ∧ nv = .slice na (L j) nc ∧ Hid (Tx wr b off k A L C Z ∧ Rd wr na (L j) nc (Z j) ∧ Below w.heap.size w wr)) (fun _ iv _ => k - (intOf iv).toNat)
      case atStart => exact ⟨1, 0, A 0, C 0, by omega, rfl, rfl, rfl, H0⟩
      case round =>
        clear H0 c0
        obtain ⟨i, j, na, nc, hik, rfl, HIJ, rfl, HY⟩ := hrel
        obtain ⟨hTx, hNow, hBe⟩ := HY.out
        have ij : (i : Int) - 1 = j := by have := HIJ.out; omega
        have hjk : j < k := by have := HIJ.out; omega
        have wj : IntKind.i64.wrap (j : Int) = j := wraps_i64 _ (by omega) (by omega)
        have zi10 : (i : Int) ≤ 10 := by omega
        have zi0 : (1 : Int) ≤ i := by have := HIJ.out; omega
        have zj0 : (0 : Int) ≤ j := by omega
        have zjk : (j : Int) < k := by omega
        have hLj := HALL.out j hjk
        obtain ⟨g0, r0⟩ := hTx j hjk
        have hZj := r0.len
        by_cases hlt : i < k
        · have zi : (i : Int) < k := by omega
          have hLi := HALL.out i hlt
          obtain ⟨g1, r1⟩ := hTx i hlt
          have hZi := r1.len
          have hmk := Make_any (A j) (L j) (C j) (Z j) (A i) (L i) (C i) (Z i) ef wr.drew (r0.keep (drew_keep wr)) (r1.keep (drew_keep wr)) (by omega) (by omega)
          have HZJ : Hid ((Z j).length = L j) := hZj
          have HZI : Hid ((Z i).length = L i) := hZi
          clear HY hZj hZi
          go_wp2_with fail
          go_region_held3 (fun w' => w'.cell? ⟨b, off + j, none⟩ = some (.slice (A j) (L j) (C j)) ∧ w'.cell? ⟨b, off + i, none⟩ = some (.slice (A i) (L i) (C i))) (go_keep)
            ((go_at_call 20; refine hmk.mono ?_; rintro e w3 ⟨v3, l, rfl, hm, o3, b3⟩; have k3 : w3.cell? ⟨b, off + j, none⟩ = some (.slice (A j) (L j) (C j)) := (b3.cell (p := ⟨b, off + j, none⟩) (World.block_lt_of_cell? wr _ g0)).trans g0; have k4 : w3.cell? ⟨b, off + i, none⟩ = some (.slice (A i) (L i) (C i)) := (b3.cell (p := ⟨b, off + i, none⟩) (World.block_lt_of_cell? wr _ g1)).trans g1))
          have bb3 : Below wr.heap.size wr w3 := (drew_keep wr).trans b3
          have hNow3 := hNow.keep bb3
          have hTx3 := hTx.keep bb3
          have B3 := hBe.trans (bb3.mono hBe.size)
          have hl3 := made_len (N := L j) (M := L i) hm (by have := HZI.out; omega)
          obtain ⟨da, dc, rfl, rd3, _⟩ := own_rd o3 (made_byt hm)
          have hap := apy_made (N := L j) (M := L i) (most := 400) hm HZJ.out HZI.out (by omega) (by omega) (by omega)
          have hsz := szs_prt (L j : Int) (L i : Int) l (by omega) (by omega) (by omega) (by omega)
          have hszs := Sizes_any da _ dc _ w3 rd3 hl3
          rw [hsz] at hszs
          have hapl := Apply_any na (L j) nc (Z j) da _ dc _ 400 w3 hNow3 rd3 (by omega) hl3 (by omega)
          rw [hap] at hapl
          have HBYI : Hid (∀ x ∈ Z i, 0 ≤ x ∧ x < 256) := r1.byt
          generalize (prt (L j) (L i) l).length = dn at *
          clear hmk o3 r0 r1 g0 g1 hNow hTx hBe b3 bb3 hap hsz hl3 k3 k4
          go_wp2_with fail
          refine hszs.mono ?_
          rintro e w3' ⟨rfl, rfl⟩
          go_wp2_with fail
          refine hapl.mono ?_
          rintro e w4 ⟨v4, rfl, o4, g4⟩
          have B4 := B3.trans (g4.mono B3.size)
          have hTx4 := hTx3.keep g4
          have c1 := (hTx4 j hjk).1
          have c2 := (hTx4 i hlt).1
          obtain ⟨xa, xc, rfl, x4, _⟩ := own_rd o4 HBYI.out
          rw [HZI.out] at x4 ⊢
          have HN : Hid (Tx w4 b off k A L C Z ∧ Rd w4 xa (L i) xc (Z i) ∧ Below w.heap.size w w4) := ⟨hTx4, x4, B4⟩
          clear hszs hapl o4 x4 hTx4 hTx3 hNow3 rd3 B3 B4
          go_wp2
          go_roundw
          case rel => exact ⟨i + 1, i, xa, xc, by omega, by go_num, rfl, rfl, HN⟩
          case measure => simp [intOf]; omega
        · obtain rfl : i = k := by omega
          have s1 := fun q => (hNow.same (w' := wr.drewN q) (fun _ => rfl)).str
          have s2 := fun q => (r0.same (w' := wr.drewN q) (fun _ => rfl)).str
          have HBB : Hid (Below w.heap.size w wr) := hBe
          clear HY hTx hNow r0 hBe
          go_wp2_with fail
          go_quiet (fail)
          have B9 : Below w.heap.size w (wr.drewN nq) := HBB.out.trans (⟨rfl, rfl, rfl, Nat.le_refl _, fun _ _ => rfl⟩ : Below w.heap.size wr (wr.drewN nq))
          go_wp2
          go_ret
          exact ⟨by simp, B9⟩

end Go.Proofs.Ythaibdflehnbbaa
