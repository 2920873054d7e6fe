/- ZRuns, ZRow. -/
import Derived.Test.YtiahbicodlgmhaaGreatDoorM09
import Derived.Test.YtiahbicodlgmhaaGreatDoorM11
import Derived.Laws.ResultCell
/- sameAtFront, run, runs. -/
namespace Go.Proofs.YtiahbicodlgmhaaGreatDoor.Z
open Go.RowKit

theorem results_row2 {P : Program} {fn : Func} {p u : Tmp} {ty : TypeId} (h : fn.results = #[.cell p ty, .tmp u]) (tmps : Array Value) {w : World} {b t n : Nat} {f : Nat → Value} {d : TypeDesc} (hp : tmps.getD p undef = .pointer (some ⟨b, 0, none⟩)) (hr : w.rowIs b t n f)
    (hu : P.underlying ty = some d) (hd : d.isRow = true) (hi : (P.info? ty).map (·.size) = some n) : (results fn tmps).run P w = .ok (.tuple #[row f n, tmps.getD u undef]) w := by
  rw [results_cell_tmp h, hp]
  have := load_all (P := P) ty d hr hu hd hi
  simp [asAddr, this, Result.andThen]

/-- A symbol by which lengths stand, as a step. -/
def clst : Cl → Stp
  | .len x => (0, (x : Int), 0, 0)
  | .rep v => (0, 16, (v : Int), 2)
  | .few v => (0, 17, (v : Int), 3)
  | .many v => (0, 18, (v : Int), 7)

/-- What a symbol says at a place of the lengths. -/
def vl (L : Nat → Int) (a : Nat) : Cl → Int
  | .len x => x
  | .rep _ => L (a - 1)
  | _ => 0

def okR (a : Nat) : Cl → Prop
  | .len x => x ≤ 15
  | .rep v => v < 4 ∧ 0 < a
  | .few v => v < 8
  | .many v => v < 128

/-- A symbol that run may answer at the place a. -/
structure Rn (L : Nat → Int) (n a : Nat) (q : Cl) : Prop where
  ok : okR a q
  le : a + q.cnt ≤ n
  val : ∀ j, j < q.cnt → L (a + j) = vl L a q
  nz : L a ≠ 0 → q.sym = 16 ∨ (q.sym : Int) = L a
  zr : L a = 0 → q.sym = 0 ∨ 17 ≤ q.sym
  rp : 0 < a → L a ≠ 0 → a + 2 < n → L (a - 1) = L a → L (a + 1) = L a → L (a + 2) = L a → q.sym = 16

set_option maxRecDepth 100000 in
set_option maxHeartbeats 1000000 in
theorem same_front (b off n c : Nat) (L : Nat → Int) (w : World) (h : Ri w (some ⟨b, off, none⟩) n c L) (h1 : 1 ≤ n) (hn : n ≤ 400) :
    Calls Tryz.prog 148 #[.slice (some ⟨b, off, none⟩) n c] w fun e w' => ∃ k : Nat, e = .returned (.int .i64 k) ∧ 1 ≤ k ∧ k ≤ n ∧ (∀ j, j < k → L j = L 0) ∧ (k < n → L k ≠ L 0) ∧ Below w.heap.size w w' := by
  have HR : Hid (∀ W, Below w.heap.size w W → Ri W (some ⟨b, off, none⟩) n c L) := fun W hW => h.keep hW
  clear h
  go_enter Tryz.func148, Tryz.ntmps148
  go_wp2_with fail
  go_loopw [3] (fun nv wr => ∃ k : Nat, 1 ≤ k ∧ k ≤ n ∧ nv = .int .i64 k ∧ Hid (∀ j, j < k → L j = L 0) ∧ Hid (Below w.heap.size w wr)) (fun nv _ => n - (intOf nv).toNat)
  case atStart => exact ⟨1, by omega, by omega, rfl, (fun j hj => by have e : j = 0 := (by omega); rw [e]), Below.refl _ _⟩
  case round =>
    obtain ⟨k, hk1, hk, rfl, HS, HB⟩ := hrel
    have c0 := (HR.out _ HB.out).cells _ rfl 0 (by omega)
    rw [Addr.add_lit, Nat.add_zero] at c0
    have HBD : Hid (Below w.heap.size w wr.drew) := HB.out.drew
    by_cases hlt : k < n
    · have ck := (HR.out _ HB.out).cells _ rfl k hlt
      rw [Addr.add_lit] at ck
      have z1 : 0 < n := by omega
      by_cases he : L k = L 0
      · rw [he] at ck
        have HE : Hid (L k = L 0) := he
        generalize L 0 = x at *
        clear he
        go_wp2_with fail
        go_region
        go_wp2
        go_roundw
        case rel => exact ⟨k + 1, by omega, by omega, by go_num, (fun j hj => by
          rcases Nat.lt_or_ge j k with h' | h'
          · exact HS.out j h'
          · have e : j = k := (by omega)
            rw [e]; exact HE.out), HBD⟩
        case measure => simp [intOf]; omega
      · have q : (L k == L 0) = false := by simp [he]
        have HE : Hid (L k ≠ L 0) := he
        clear he
        go_wp2_with fail
        go_region
        go_wp2
        go_ret
        exact ⟨k, rfl, hk1, hk, HS.out, fun _ => HE.out, HBD.out⟩
    · obtain rfl : k = n := by omega
      go_wp2_with fail
      go_region
      go_wp2
      go_ret
      exact ⟨k, rfl, hk1, hk, HS.out, fun h => by omega, HBD.out⟩

set_option maxRecDepth 100000 in
set_option maxHeartbeats 4000000 in
theorem run_any (b n a c c' : Nat) (L : Nat → Int) (w : World) (hA : Ri w (some ⟨b, 0, none⟩) a c L) (hL : Ri w (some ⟨b, a, none⟩) (n - a) c' (fun j => L (a + j))) (ha : a < n) (hn : n ≤ 400) (hb : ∀ j, j < n → 0 ≤ L j ∧ L j ≤ 15) :
    Calls Tryz.prog 135 #[.slice (some ⟨b, 0, none⟩) a c, .slice (some ⟨b, a, none⟩) (n - a) c'] w fun e w' => ∃ q : Cl, e = .returned (.tuple #[sv (clst q), .int .i64 q.cnt]) ∧ Rn L n a q ∧ Below w.heap.size w w' := by
  have b1 : Below w.heap.size w (w.alloc (Obj.cells #[Value.int .i64 0, Value.int .i64 0, Value.int .i64 0, Value.int .i64 0] 109)) := (Below.refl _ _).alloc (Nat.le_refl _) _
  have r1 := step_new w sz0 #[Value.int .i64 0, Value.int .i64 0, Value.int .i64 0, Value.int .i64 0] rfl
  have hsf := same_front b a (n - a) c' (fun j => L (a + j)) _ (hL.keep b1) (by omega) (by omega)
  have HA : Hid (∀ W, Below w.heap.size w W → Ri W (some ⟨b, 0, none⟩) a c L) := fun W hW => hA.keep hW
  have HL : Hid (∀ W, Below w.heap.size w W → Ri W (some ⟨b, a, none⟩) (n - a) c' (fun j => L (a + j))) := fun W hW => hL.keep hW
  have HB1 : Hid (Below w.heap.size w (w.alloc (Obj.cells #[Value.int .i64 0, Value.int .i64 0, Value.int .i64 0, Value.int .i64 0] 109))) := b1
  have HR1 : Hid ((w.alloc (Obj.cells #[Value.int .i64 0, Value.int .i64 0, Value.int .i64 0, Value.int .i64 0] 109)).rowIs w.heap.size 109 4 (stc sz0)) := r1
  have HV : Hid (∀ j, j < n → 0 ≤ L j ∧ L j ≤ 15) := hb
  clear b1 r1 hA hL hb
  go_enter Tryz.func135, Tryz.ntmps135
  go_wp2_with fail
  refine hsf.mono ?_
  rintro e w2 ⟨k, rfl, k1, kn, ks, kx, hb2⟩
  have B2 : Below w.heap.size w w2 := HB1.out.trans (hb2.mono HB1.out.size)
  have r2 : w2.rowIs w.heap.size 109 4 (stc sz0) := HR1.out.of_block (hb2.block _ HR1.out.lt)
  have HB2 : Hid (Below w.heap.size w w2) := B2
  have HR2 : Hid (w2.rowIs w.heap.size 109 4 (stc sz0)) := r2
  have HKS : Hid ((∀ j, j < k → L (a + j) = L a) ∧ (k < n - a → L (a + k) ≠ L a)) := ⟨fun j hj => by have := ks j hj; simpa using this, fun h => by have := kx h; simpa using this⟩
  have v0 := (HL.out _ B2).cells _ rfl 0 (by omega)
  rw [Addr.add_lit] at v0
  simp only [Nat.add_zero] at v0
  have z1 : 0 < n - a := by omega
  have hv0 := HV.out a ha
  clear hsf hb2 B2 r2 ks kx HB1 HR1
  by_cases hz : L a = 0
  · rw [hz] at v0
    by_cases h11 : 11 ≤ k
    · obtain ⟨m, hm⟩ : ∃ m, m = min k 138 := ⟨_, rfl⟩
      have HM : Hid ((m : Int) = min (k : Int) 138) := by show (m : Int) = min (k : Int) 138; omega
      obtain ⟨v, hv⟩ : ∃ v, m = v + 11 := ⟨m - 11, by omega⟩
      have t1 : (m : Int) - 11 = v := by omega
      have hRn : Rn L n a (.many v) := by
        refine ⟨by show v < 128; omega, by show a + (11 + v) ≤ n; omega, fun j hj => ?_, fun h => absurd hz h, fun _ => .inr (by simp [Cl.sym]), fun _ h => absurd hz h⟩
        have : j < 11 + v := hj
        show L (a + j) = 0
        rw [HKS.out.1 j (by omega), hz]
      have HRN : Hid (Rn L n a (.many v)) := hRn
      have HMV : Hid (m = 11 + v) := by show m = 11 + v; omega
      have m9 : m ≤ 138 := by omega
      clear hRn hm hv
      go_wp2_with (first
        | (refine Lzz.wpList_min rfl 3 _ _ rfl (k : Int) 138 rfl rfl (m : Int) HM.out ?_)
        | (refine wpList_st rfl 109 _ _ rfl w.heap.size rfl (stc (0, 18, v, 7)) rfl HR2.out size109 (stc_one _) ?_; intro w5 h5 f5))
      have HB5 : Below w.heap.size w w5 := HB2.out.trans (f5.below w.heap.size HB2.out.size (fun j hj e => by omega))
      refine bodyPost_ret (results_row2 rfl _ rfl h5 Tryz.underlying109 rfl size109) rfl ⟨.many v, ?_, HRN.out, HB5⟩
      show Ending.returned (.tuple #[row (stc (0, 18, (v : Int), 7)) 4, .int .i64 (m : Int)]) = _
      rw [HMV.out]
      rfl
    · by_cases h3 : 3 ≤ k
      · obtain ⟨v, hv⟩ : ∃ v, k = v + 3 := ⟨k - 3, by omega⟩
        have t1 : (k : Int) - 3 = v := by omega
        have hRn : Rn L n a (.few v) := by
          refine ⟨by show v < 8; omega, by show a + (3 + v) ≤ n; omega, fun j hj => ?_, fun h => absurd hz h, fun _ => .inr (by simp [Cl.sym]), fun _ h => absurd hz h⟩
          have : j < 3 + v := hj
          show L (a + j) = 0
          rw [HKS.out.1 j (by omega), hz]
        have HRN : Hid (Rn L n a (.few v)) := hRn
        have HMV : Hid (k = 3 + v) := by show k = 3 + v; omega
        clear hRn hv
        go_wp2_with (refine wpList_st rfl 109 _ _ rfl w.heap.size rfl (stc (0, 17, v, 3)) rfl HR2.out size109 (stc_one _) ?_; intro w5 h5 f5)
        have HB5 : Below w.heap.size w w5 := HB2.out.trans (f5.below w.heap.size HB2.out.size (fun j hj e => by omega))
        refine bodyPost_ret (results_row2 rfl _ rfl h5 Tryz.underlying109 rfl size109) rfl ⟨.few v, ?_, HRN.out, HB5⟩
        show Ending.returned (.tuple #[row (stc (0, 17, (v : Int), 3)) 4, .int .i64 (k : Int)]) = _
        rw [HMV.out]
        rfl
      · have hRn : Rn L n a (.len 0) := by
          refine ⟨by show 0 ≤ 15; omega, by show a + 1 ≤ n; omega, fun j hj => ?_, fun h => absurd hz h, fun _ => .inl (by simp [Cl.sym]), fun _ h => absurd hz h⟩
          have : j < 1 := hj
          show L (a + j) = 0
          rw [HKS.out.1 j (by omega), hz]
        have HRN : Hid (Rn L n a (.len 0)) := hRn
        have HR2D : Hid (w2.drew.rowIs w.heap.size 109 4 (stc sz0)) := HR2.out.drew
        have HB2D : Hid (Below w.heap.size w w2.drew) := HB2.out.drew
        have d3 : decide ((3 : Int) ≤ k) = false := by simp; omega
        have d4 : decide ((11 : Int) ≤ k) = false := by simp; omega
        clear hRn
        go_wp2_with fail
        go_region
        go_wp2_with (refine wpList_st rfl 109 _ _ rfl w.heap.size rfl (stc (0, 0, 0, 0)) rfl HR2D.out size109 (stc_one _) ?_; intro w5 h5 f5)
        have HB5 : Below w.heap.size w w5 := HB2D.out.trans (f5.below w.heap.size HB2D.out.size (fun j hj e => by omega))
        refine bodyPost_ret (results_row2 rfl _ rfl h5 Tryz.underlying109 rfl size109) rfl ⟨.len 0, ?_, HRN.out, HB5⟩
        rfl
  · obtain ⟨x, hx⟩ := Int.eq_ofNat_of_zero_le hv0.1
    have hx0 : 0 < x := by omega
    have hx15 : x ≤ 15 := by omega
    have v0' := v0
    rw [hx] at v0'
    have HX : Hid (L a = x) := hx
    clear v0
    by_cases h3 : k < 3
    · have d3 : decide ((3 : Int) ≤ k) = false := by simp; omega
      have hRn : Rn L n a (.len x) := by
        refine ⟨by show x ≤ 15; omega, by show a + 1 ≤ n; omega, fun j hj => ?_, fun _ => .inr (by show ((x : Nat) : Int) = L a; omega), fun h => absurd h hz, fun p1 p2 p3 p4 p5 p6 => ?_⟩
        · have : j < 1 := hj
          show L (a + j) = x
          rw [show a + j = a by omega]
          omega
        · exfalso
          have q1 := HKS.out.2
          have q3 : k = 1 ∨ k = 2 := by omega
          rcases q3 with rfl | rfl
          · exact q1 (by omega) p5
          · exact q1 (by omega) p6
      have HRN : Hid (Rn L n a (.len x)) := hRn
      have HR2D : Hid (w2.drew.rowIs w.heap.size 109 4 (stc sz0)) := HR2.out.drew
      have HB2D : Hid (Below w.heap.size w w2.drew) := HB2.out.drew
      have z0 : ((x : Int) == 0) = false := by simp; omega
      
      clear hRn
      go_wp2_with fail
      go_region
      go_wp2_with (refine wpList_st rfl 109 _ _ rfl w.heap.size rfl (stc (0, x, 0, 0)) rfl HR2D.out size109 (stc_one _) ?_; intro w5 h5 f5)
      have HB5 : Below w.heap.size w w5 := HB2D.out.trans (f5.below w.heap.size HB2D.out.size (fun j hj e => by omega))
      exact bodyPost_ret (results_row2 rfl _ rfl h5 Tryz.underlying109 rfl size109) rfl ⟨.len x, rfl, HRN.out, HB5⟩
    · have d3 : decide ((3 : Int) ≤ k) = true := by simp; omega
      by_cases ha0 : a = 0
      · have d5 : decide ((0 : Int) < a) = false := by simp; omega
        have d6 : ¬ 0 < a := by omega
        have hRn : Rn L n a (.len x) := by
          refine ⟨by show x ≤ 15; omega, by show a + 1 ≤ n; omega, fun j hj => ?_, fun _ => .inr (by show ((x : Nat) : Int) = L a; omega), fun h => absurd h hz, fun p1 p2 p3 p4 p5 p6 => ?_⟩
          · have : j < 1 := hj
            show L (a + j) = x
            rw [show a + j = a by omega]
            omega
          · exfalso
            omega
        have HRN : Hid (Rn L n a (.len x)) := hRn
        have HR2D : Hid (w2.drew.rowIs w.heap.size 109 4 (stc sz0)) := HR2.out.drew
        have HB2D : Hid (Below w.heap.size w w2.drew) := HB2.out.drew
        have z0 : ((x : Int) == 0) = false := by simp; omega
        
        clear hRn ha0
        go_wp2_with fail
        go_region
        go_wp2_with (refine wpList_st rfl 109 _ _ rfl w.heap.size rfl (stc (0, x, 0, 0)) rfl HR2D.out size109 (stc_one _) ?_; intro w5 h5 f5)
        have HB5 : Below w.heap.size w w5 := HB2D.out.trans (f5.below w.heap.size HB2D.out.size (fun j hj e => by omega))
        exact bodyPost_ret (results_row2 rfl _ rfl h5 Tryz.underlying109 rfl size109) rfl ⟨.len x, rfl, HRN.out, HB5⟩
      · have d5 : decide ((0 : Int) < a) = true := by simp; omega
        have d6 : 0 < a := by omega
        obtain ⟨a1, rfl⟩ : ∃ a1, a = a1 + 1 := ⟨a - 1, by omega⟩
        have w0 := (HA.out _ HB2.out).cells _ rfl a1 (by omega)
        rw [Addr.add_lit, Nat.zero_add] at w0
        have t1 : ((a1 + 1 : Nat) : Int) - 1 = a1 := by omega
        by_cases he : L a1 = x
        · rw [he] at w0
          obtain ⟨m, hm⟩ : ∃ m, m = min k 6 := ⟨_, rfl⟩
          have HM : Hid ((m : Int) = min (k : Int) 6) := by show (m : Int) = min (k : Int) 6; omega
          obtain ⟨v, hv⟩ : ∃ v, m = v + 3 := ⟨m - 3, by omega⟩
          have t2 : (m : Int) - 3 = v := by omega
          have hRn : Rn L n (a1 + 1) (.rep v) := by
            refine ⟨⟨by omega, by omega⟩, by show a1 + 1 + (3 + v) ≤ n; omega, fun j hj => ?_, fun _ => .inl rfl, fun h => absurd h hz, fun _ _ _ _ _ _ => rfl⟩
            have : j < 3 + v := hj
            show L (a1 + 1 + j) = L (a1 + 1 - 1)
            rw [HKS.out.1 j (by omega), show a1 + 1 - 1 = a1 by omega, he, HX.out]
          have HRN : Hid (Rn L n (a1 + 1) (.rep v)) := hRn
          have HMV : Hid (m = 3 + v) := by show m = 3 + v; omega
          have HR2D : Hid (w2.drew.rowIs w.heap.size 109 4 (stc sz0)) := HR2.out.drew
          have HB2D : Hid (Below w.heap.size w w2.drew) := HB2.out.drew
          have z0 : ((x : Int) == 0) = false := by simp; omega
          have m9 : m ≤ 6 := by omega
          clear hRn hm hv
          go_wp2_with fail
          go_region
          go_wp2_with (first
            | (refine Lzz.wpList_min rfl 3 _ _ rfl (k : Int) 6 rfl rfl (m : Int) HM.out ?_)
            | (refine wpList_st rfl 109 _ _ rfl w.heap.size rfl (stc (0, 16, v, 2)) rfl HR2D.out size109 (stc_one _) ?_; intro w5 h5 f5))
          have HB5 : Below w.heap.size w w5 := HB2D.out.trans (f5.below w.heap.size HB2D.out.size (fun j hj e => by omega))
          refine bodyPost_ret (results_row2 rfl _ rfl h5 Tryz.underlying109 rfl size109) rfl ⟨.rep v, ?_, HRN.out, HB5⟩
          show Ending.returned (.tuple #[row (stc (0, 16, (v : Int), 2)) 4, .int .i64 (m : Int)]) = _
          rw [HMV.out]
          rfl
        · have q9 : (L a1 == (x : Int)) = false := by simp [he]
          have hRn : Rn L n (a1 + 1) (.len x) := by
            refine ⟨by show x ≤ 15; omega, by show a1 + 1 + 1 ≤ n; omega, fun j hj => ?_, fun _ => .inr (by show ((x : Nat) : Int) = L (a1 + 1); omega), fun h => absurd h hz, fun p1 p2 p3 p4 p5 p6 => ?_⟩
            · have : j < 1 := hj
              show L (a1 + 1 + j) = x
              rw [show a1 + 1 + j = a1 + 1 by omega]
              omega
            · exfalso
              rw [show a1 + 1 - 1 = a1 by omega] at p4
              exact he (by omega)
          have HRN : Hid (Rn L n (a1 + 1) (.len x)) := hRn
          have HR2D : Hid (w2.drew.rowIs w.heap.size 109 4 (stc sz0)) := HR2.out.drew
          have HB2D : Hid (Below w.heap.size w w2.drew) := HB2.out.drew
          have z0 : ((x : Int) == 0) = false := by simp; omega
          
          clear hRn
          go_wp2_with fail
          go_region
          go_wp2_with (refine wpList_st rfl 109 _ _ rfl w.heap.size rfl (stc (0, x, 0, 0)) rfl HR2D.out size109 (stc_one _) ?_; intro w5 h5 f5)
          have HB5 : Below w.heap.size w w5 := HB2D.out.trans (f5.below w.heap.size HB2D.out.size (fun j hj e => by omega))
          exact bodyPost_ret (results_row2 rfl _ rfl h5 Tryz.underlying109 rfl size109) rfl ⟨.len x, rfl, HRN.out, HB5⟩

end Go.Proofs.YtiahbicodlgmhaaGreatDoor.Z

/- runs: lengths as symbols. -/
namespace Go.Proofs.YtiahbicodlgmhaaGreatDoor.Z
open Go.RowKit

/-- Symbols that tell the first a lengths. -/
inductive Rns (L : Nat → Int) (n : Nat) : Nat → List Cl → Prop
  | nil : Rns L n 0 []
  | snoc (a : Nat) (qs : List Cl) (q : Cl) : Rns L n a qs → Rn L n a q → Rns L n (a + q.cnt) (qs ++ [q])

theorem Rns.len {L : Nat → Int} {n a : Nat} {qs : List Cl} (h : Rns L n a qs) : qs.length ≤ a := by
  induction h with
  | nil => simp
  | snoc a qs q _ _ ih =>
    have := q.cnt_pos
    rw [List.length_append, List.length_singleton]
    omega

set_option maxRecDepth 100000 in
set_option maxHeartbeats 4000000 in
theorem runs_any (b n c : Nat) (L : Nat → Int) (w : World) (h : Ri w (some ⟨b, 0, none⟩) n c L) (hn : n ≤ 400) (hb : ∀ j, j < n → 0 ≤ L j ∧ L j ≤ 15) :
    Calls Tryz.prog 104 #[.slice (some ⟨b, 0, none⟩) n c] w fun e w' => ∃ v qs, e = .returned v ∧ Rns L n n qs ∧ w'.ownsRow w.heap.size 109 4 v qs.length (scs (qs.map clst)) ∧ Below w.heap.size w w' := by
  obtain ⟨i0, hi, hz0, hz1, hz2⟩ := info_parts Tryz.info109
  have HR : Hid (∀ W, Below w.heap.size w W → Ri W (some ⟨b, 0, none⟩) n c L) := fun W hW => h.keep hW
  have HV : Hid (∀ j, j < n → 0 ≤ L j ∧ L j ≤ 15) := hb
  have hle := h.le
  clear h hb
  go_enter Tryz.func104, Tryz.ntmps104
  go_wp2_with fail
  go_loopw [3, 4] (fun lv av wr => ∃ (a : Nat) (qs : List Cl), a ≤ n ∧ av = .int .i64 a ∧ Hid (Rns L n a qs) ∧ Hid (wr.ownsRow w.heap.size 109 4 lv qs.length (scs (qs.map clst))) ∧ Hid (Below w.heap.size w wr)) (fun _ av _ => n - (intOf av).toNat)
  case atStart => exact ⟨0, [], by omega, rfl, .nil, World.ownsRow_nil _ _ _ _, Below.refl _ _⟩
  case round =>
    obtain ⟨a, qs, ha, rfl, HQ, HO, HB⟩ := hrel
    by_cases hlt : a < n
    · skip
      have hrun : ∀ W, Below w.heap.size w W → Calls Tryz.prog 135 #[.slice (some ⟨b, 0, none⟩) a c, .slice (some ⟨b, a, none⟩) (n - a) (c - a)] W fun e w' => ∃ q : Cl, e = .returned (.tuple #[sv (clst q), .int .i64 q.cnt]) ∧ Rn L n a q ∧ Below W.heap.size W w' := fun W hW => by
        have hri := HR.out _ hW
        refine run_any b n a c (c - a) L W ⟨by omega, (fun e => by cases e), fun ad had j hj => hri.cells ad had j (by omega)⟩ ⟨by omega, (fun e => by cases e), fun ad had j hj => ?_⟩ hlt hn HV.out
        cases had
        have := hri.cells _ rfl (a + j) (by omega)
        rw [Addr.add_lit, Nat.zero_add] at this
        rw [Addr.add_lit]
        exact this
      have HBD : Hid (Below w.heap.size w wr.drew) := HB.out.drew
      have bA : Below wr.heap.size wr (wr.alloc (Obj.cells #[Value.int .i64 0, Value.int .i64 0, Value.int .i64 0, Value.int .i64 0] 109)) := (Below.refl _ _).alloc (Nat.le_refl _) _
      have HBA : Hid (Below w.heap.size w (wr.alloc (Obj.cells #[Value.int .i64 0, Value.int .i64 0, Value.int .i64 0, Value.int .i64 0] 109)).drew) := (HB.out.trans (bA.mono HB.out.size)).drew
      have HRA : Hid ((wr.alloc (Obj.cells #[Value.int .i64 0, Value.int .i64 0, Value.int .i64 0, Value.int .i64 0] 109)).drew.rowIs wr.heap.size 109 4 (stc sz0)) := (step_new wr sz0 #[Value.int .i64 0, Value.int .i64 0, Value.int .i64 0, Value.int .i64 0] rfl).drew
      have z1 : ¬ c = a := by omega
      have z2 : a ≤ c := by omega
      have hql := HQ.out.len
      obtain ⟨C, hC⟩ : ∃ C, C = qs.length := ⟨_, rfl⟩
      have HCC : Hid (C = qs.length) := hC
      have HO' : Hid (wr.ownsRow w.heap.size 109 4 u3 C (scs (qs.map clst))) := by show wr.ownsRow _ _ _ _ _ _; rw [hC]; exact HO.out
      have hC9 : C ≤ 400 := by omega
      clear hC HO hql bA
      go_wp2_with fail
      go_region_with (go_at_call 135; first
        | (with_reducible refine (hrun wr.drew HBD.out).mono ?_; rintro e w2 ⟨q, rfl, hrn, hb2⟩)
        | (with_reducible refine (hrun _ HBA.out).mono ?_; rintro e w2 ⟨q, rfl, hrn, hb2⟩; have r2 : w2.rowIs wr.heap.size 109 4 (stc sz0) := HRA.out.of_block (hb2.block _ HRA.out.lt); have s0 := r2.cell (i := 0) (by omega); have s1 := r2.cell (i := 1) (by omega); have s2 := r2.cell (i := 2) (by omega); have s3 := r2.cell (i := 3) (by omega); have f0 := r2.frozen 0; have f1 := r2.frozen 1; have f2 := r2.frozen 2; have f3 := r2.frozen 3))
      · obtain ⟨W, hW⟩ : ∃ W, W = w2.alloc (Obj.cells #[Value.int .i64 (clst q).1, Value.int .i64 (clst q).2.1, Value.int .i64 (clst q).2.2.1, Value.int .i64 (clst q).2.2.2] 109) := ⟨_, rfl⟩
        obtain ⟨T, hT⟩ : ∃ T, T = w2.heap.size := ⟨_, rfl⟩
        have b3 : Below w2.heap.size w2 (w2.alloc (Obj.cells #[Value.int .i64 (clst q).1, Value.int .i64 (clst q).2.1, Value.int .i64 (clst q).2.2.1, Value.int .i64 (clst q).2.2.2] 109)) := (Below.refl _ _).alloc (Nat.le_refl _) _
        have HRW : Hid (W.rowIs T 109 4 (stc (clst q))) := by show W.rowIs _ _ _ _; rw [hW, hT]; exact step_new w2 (clst q) _ rfl
        have B2 := HBD.out.trans (hb2.mono HBD.out.size)
        have HBW : Hid (Below w.heap.size w W) := by show Below _ _ _; rw [hW]; exact B2.trans (b3.mono B2.size)
        have HOW : Hid (W.ownsRow w.heap.size 109 4 u3 C (scs (qs.map clst))) := by show W.ownsRow _ _ _ _ _ _; rw [hW]; exact own_keep (own_keep (ownsRow_fr HO'.out (Fr.refl (fun _ => False) _).drew (fun _ _ h => h)) hb2) b3
        rw [← hW, ← hT]
        clear hW hT b3 B2
        obtain ⟨⟨y0, y1, y2, y3⟩, hy⟩ : ∃ y, y = clst q := ⟨_, rfl⟩
        have HY : Hid ((y0, y1, y2, y3) = clst q) := hy
        rw [← hy] at HRW ⊢
        obtain ⟨ct, hct⟩ : ∃ ct, ct = q.cnt := ⟨_, rfl⟩
        have HCT : Hid (ct = q.cnt) := hct
        have hcl := hrn.le
        rw [← hct] at hcl ⊢
        have hc1 : 1 ≤ ct := by rw [hct]; exact q.cnt_pos
        have HRN : Hid (Rn L n a q) := hrn
        have c0 := HRW.out.cell (i := 0) (by omega)
        have c1 := HRW.out.cell (i := 1) (by omega)
        have c2 := HRW.out.cell (i := 2) (by omega)
        have c3 := HRW.out.cell (i := 3) (by omega)
        simp only [stc] at c0 c1 c2 c3
        have b1 : Below W.heap.size W (W.alloc (Obj.cells #[Value.int .i64 y0, Value.int .i64 y1, Value.int .i64 y2, Value.int .i64 y3] 109)) := (Below.refl _ _).alloc (Nat.le_refl _) _
        have HN1 : Hid (∀ j u, [Value.int .i64 y0, Value.int .i64 y1, Value.int .i64 y2, Value.int .i64 y3][j]? = some u → (W.alloc (Obj.cells #[Value.int .i64 y0, Value.int .i64 y1, Value.int .i64 y2, Value.int .i64 y3] 109)).cell? ((⟨W.heap.size, 0, none⟩ : Addr).add j) = some u) := cells_new W _ 109
        have HO1 : Hid ((W.alloc (Obj.cells #[Value.int .i64 y0, Value.int .i64 y1, Value.int .i64 y2, Value.int .i64 y3] 109)).ownsRow w.heap.size 109 4 u3 C (scs (qs.map clst))) := own_keep HOW.out b1
        have HB1 : Hid (Below w.heap.size w (W.alloc (Obj.cells #[Value.int .i64 y0, Value.int .i64 y1, Value.int .i64 y2, Value.int .i64 y3] 109))) := HBW.out.trans (b1.mono HBW.out.size)
        have HLT : Hid (∀ q, u3.ownBlock = some q → w.heap.size ≤ q) := fun q hq => (HOW.out.lt q hq).1
        clear hrun hrn hb2 hy hct b1 HOW HBW HRW HBA HRA HBD HB HO'
        go_wp2_with (at_builtin; refine wpList_append_own _ rfl _ _ 58 rfl w.heap.size 109 i0 (.agg #[.int .i64 0, .int .i64 0, .int .i64 0, .int .i64 0]) 4 32 Tryz.underlying58 hi hz0 hz1 hz2 rfl (by decide) u3 C _ rfl HO1.out ⟨W.heap.size, 0, none⟩ 1 1 [.int .i64 y0, .int .i64 y1, .int .i64 y2, .int .i64 y3] rfl rfl HN1.out (by intro u hu; simp at hu; rcases hu with rfl | rfl | rfl | rfl <;> rfl) (by unfold maxLen; omega) (by omega) HB1.out.size ?_; intro v5 w5 o5 g5 n5)
        have B5 : Hid (Below w.heap.size w w5) := HB1.out.grown g5 HB1.out.size (fun q hq => HLT.out q hq)
        have HO5 : Hid (w5.ownsRow w.heap.size 109 4 v5 (qs ++ [q]).length (scs ((qs ++ [q]).map clst))) := by
          show w5.ownsRow _ _ _ _ _ _
          rw [List.map_append, scs_app, List.length_append, ← HCC.out]
          have e : scs ([q].map clst) = [.int .i64 y0, .int .i64 y1, .int .i64 y2, .int .i64 y3] := by
            show scs [clst q] = _
            rw [scs_one, ← HY.out]
            rfl
          rw [e]
          exact o5
        have HQ5 : Hid (Rns L n (a + ct) (qs ++ [q])) := by
          show Rns _ _ _ _
          rw [HCT.out]
          exact .snoc a qs q HQ.out HRN.out
        clear o5 g5 n5 HO1 HN1 HB1 HLT
        go_roundw
        case rel => exact ⟨a + ct, qs ++ [q], by omega, by go_num, HQ5, HO5, B5⟩
        case measure => simp [intOf]; omega
      · obtain ⟨W, hW⟩ : ∃ W, W = (((w2.setCell ⟨wr.heap.size, 0, none⟩ (Value.int .i64 (clst q).1)).setCell ⟨wr.heap.size, 1, none⟩ (Value.int .i64 (clst q).2.1)).setCell ⟨wr.heap.size, 2, none⟩ (Value.int .i64 (clst q).2.2.1)).setCell ⟨wr.heap.size, 3, none⟩ (Value.int .i64 (clst q).2.2.2) := ⟨_, rfl⟩
        obtain ⟨T, hT⟩ : ∃ T, T = wr.heap.size := ⟨_, rfl⟩
        have HRW : Hid (W.rowIs T 109 4 (stc (clst q))) := by
          show W.rowIs _ _ _ _
          rw [hW, hT]
          exact ((((r2.set 0 _).set 1 _).set 2 _).set 3 _).congr (fun i hi => by rcases i with _ | _ | _ | _ | i <;> first | rfl | omega)
        have B2 := HBA.out.trans (hb2.mono HBA.out.size)
        have FW : Fr (fun k => k = wr.heap.size) w2 W := by
          rw [hW]
          exact ((((Fr.refl (fun k => k = wr.heap.size) w2).setCell rfl _).setCell rfl _).setCell rfl _).setCell rfl _
        have HBW : Hid (Below w.heap.size w W) := B2.trans (FW.below _ B2.size (fun i hi e => by have := HB.out.size; omega))
        have bA : Below wr.heap.size wr (wr.alloc (Obj.cells #[Value.int .i64 0, Value.int .i64 0, Value.int .i64 0, Value.int .i64 0] 109)).drew := ((Below.refl _ _).alloc (Nat.le_refl _) _ : Below wr.heap.size wr (wr.alloc (Obj.cells #[Value.int .i64 0, Value.int .i64 0, Value.int .i64 0, Value.int .i64 0] 109))).drew
        have HOW : Hid (W.ownsRow w.heap.size 109 4 u3 C (scs (qs.map clst))) := ownsRow_fr (own_keep (own_keep HO'.out bA) hb2) FW (fun k hk e => by have := (HO'.out.lt k hk).2; omega)
        rw [← hW, ← hT]
        clear hW hT B2 FW bA r2 s0 s1 s2 s3 f0 f1 f2 f3
        obtain ⟨⟨y0, y1, y2, y3⟩, hy⟩ : ∃ y, y = clst q := ⟨_, rfl⟩
        have HY : Hid ((y0, y1, y2, y3) = clst q) := hy
        rw [← hy] at HRW ⊢
        obtain ⟨ct, hct⟩ : ∃ ct, ct = q.cnt := ⟨_, rfl⟩
        have HCT : Hid (ct = q.cnt) := hct
        have hcl := hrn.le
        rw [← hct] at hcl ⊢
        have hc1 : 1 ≤ ct := by rw [hct]; exact q.cnt_pos
        have HRN : Hid (Rn L n a q) := hrn
        have c0 := HRW.out.cell (i := 0) (by omega)
        have c1 := HRW.out.cell (i := 1) (by omega)
        have c2 := HRW.out.cell (i := 2) (by omega)
        have c3 := HRW.out.cell (i := 3) (by omega)
        simp only [stc] at c0 c1 c2 c3
        have b1 : Below W.heap.size W (W.alloc (Obj.cells #[Value.int .i64 y0, Value.int .i64 y1, Value.int .i64 y2, Value.int .i64 y3] 109)) := (Below.refl _ _).alloc (Nat.le_refl _) _
        have HN1 : Hid (∀ j u, [Value.int .i64 y0, Value.int .i64 y1, Value.int .i64 y2, Value.int .i64 y3][j]? = some u → (W.alloc (Obj.cells #[Value.int .i64 y0, Value.int .i64 y1, Value.int .i64 y2, Value.int .i64 y3] 109)).cell? ((⟨W.heap.size, 0, none⟩ : Addr).add j) = some u) := cells_new W _ 109
        have HO1 : Hid ((W.alloc (Obj.cells #[Value.int .i64 y0, Value.int .i64 y1, Value.int .i64 y2, Value.int .i64 y3] 109)).ownsRow w.heap.size 109 4 u3 C (scs (qs.map clst))) := own_keep HOW.out b1
        have HB1 : Hid (Below w.heap.size w (W.alloc (Obj.cells #[Value.int .i64 y0, Value.int .i64 y1, Value.int .i64 y2, Value.int .i64 y3] 109))) := HBW.out.trans (b1.mono HBW.out.size)
        have HLT : Hid (∀ q, u3.ownBlock = some q → w.heap.size ≤ q) := fun q hq => (HOW.out.lt q hq).1
        clear hrun hrn hb2 hy hct b1 HOW HBW HRW HBA HRA HBD HB HO'
        go_wp2_with (at_builtin; refine wpList_append_own _ rfl _ _ 58 rfl w.heap.size 109 i0 (.agg #[.int .i64 0, .int .i64 0, .int .i64 0, .int .i64 0]) 4 32 Tryz.underlying58 hi hz0 hz1 hz2 rfl (by decide) u3 C _ rfl HO1.out ⟨W.heap.size, 0, none⟩ 1 1 [.int .i64 y0, .int .i64 y1, .int .i64 y2, .int .i64 y3] rfl rfl HN1.out (by intro u hu; simp at hu; rcases hu with rfl | rfl | rfl | rfl <;> rfl) (by unfold maxLen; omega) (by omega) HB1.out.size ?_; intro v5 w5 o5 g5 n5)
        have B5 : Hid (Below w.heap.size w w5) := HB1.out.grown g5 HB1.out.size (fun q hq => HLT.out q hq)
        have HO5 : Hid (w5.ownsRow w.heap.size 109 4 v5 (qs ++ [q]).length (scs ((qs ++ [q]).map clst))) := by
          show w5.ownsRow _ _ _ _ _ _
          rw [List.map_append, scs_app, List.length_append, ← HCC.out]
          have e : scs ([q].map clst) = [.int .i64 y0, .int .i64 y1, .int .i64 y2, .int .i64 y3] := by
            show scs [clst q] = _
            rw [scs_one, ← HY.out]
            rfl
          rw [e]
          exact o5
        have HQ5 : Hid (Rns L n (a + ct) (qs ++ [q])) := by
          show Rns _ _ _ _
          rw [HCT.out]
          exact .snoc a qs q HQ.out HRN.out
        clear o5 g5 n5 HO1 HN1 HB1 HLT
        go_roundw
        case rel => exact ⟨a + ct, qs ++ [q], by omega, by go_num, HQ5, HO5, B5⟩
        case measure => simp [intOf]; omega
    · obtain rfl : a = n := by omega
      go_wp2
      go_ret
      exact ⟨_, qs, rfl, HQ.out, HO.out, HB.out⟩

/-- They tell all lengths. -/
theorem Rns.cls {L : Nat → Int} {n : Nat} {C : Nat → Int} {fs : List Int} (hfs : ∀ j, j < n → fs.getD j 0 = L j) (hl : fs.length = n) {a : Nat} {qs : List Cl} (h : Rns L n a qs) :
    cls qs [] = fs.take a ∧ ((∀ q ∈ qs, 0 < C q.sym ∧ C q.sym ≤ 15) → clsOk C qs []) ∧ a ≤ n := by
  have capp : ∀ (xs : List Cl) (q : Cl) (ls : List Int), Go.Proofs.YtiahbicodlgmhaaGreatDoor.cls (xs ++ [q]) ls = Go.Proofs.YtiahbicodlgmhaaGreatDoor.cls xs ls ++ List.replicate q.cnt (q.val (Go.Proofs.YtiahbicodlgmhaaGreatDoor.cls xs ls)) := by
    intro xs q
    induction xs with
    | nil => intro ls; rfl
    | cons x xs ih => intro ls; exact ih _
  have oapp : ∀ (xs : List Cl) (q : Cl) (ls : List Int), clsOk C xs ls → q.ok (Go.Proofs.YtiahbicodlgmhaaGreatDoor.cls xs ls) → 0 < C q.sym → C q.sym ≤ 15 → clsOk C (xs ++ [q]) ls := by
    intro xs q
    induction xs with
    | nil => intro ls _ h1 h2 h3; exact ⟨h1, h2, h3, trivial⟩
    | cons x xs ih => intro ls h0 h1 h2 h3; exact ⟨h0.1, h0.2.1, h0.2.2.1, ih _ h0.2.2.2 h1 h2 h3⟩
  induction h with
  | nil => exact ⟨by simp [Go.Proofs.YtiahbicodlgmhaaGreatDoor.cls], fun _ => trivial, by omega⟩
  | snoc a qs q _ hr ih =>
    obtain ⟨i1, i2, i3⟩ := ih
    have hle := hr.le
    have hv : q.val (fs.take a) = vl L a q := by
      cases q with
      | len x => rfl
      | rep v =>
        have h0 : 0 < a := hr.ok.2
        show (fs.take a).getD ((fs.take a).length - 1) 0 = L (a - 1)
        rw [← hfs (a - 1) (by omega), List.length_take, Nat.min_eq_left (by omega), Lzz.getD_take _ _ _ _ (by omega)]
      | few v => rfl
      | many v => rfl
    refine ⟨?_, fun hC => ?_, hle⟩
    · rw [capp, i1, hv]
      apply List.ext_getElem?
      intro i
      by_cases h1 : i < a
      · rw [List.getElem?_append_left (by simp; omega), List.getElem?_take, List.getElem?_take, if_pos h1, if_pos (by omega)]
      · rw [List.getElem?_append_right (by simp; omega)]
        have e0 : (fs.take a).length = a := by simp; omega
        rw [e0, List.getElem?_take]
        by_cases h2 : i < a + q.cnt
        · rw [if_pos h2]
          have h3 := hr.val (i - a) (by omega)
          rw [show a + (i - a) = i by omega] at h3
          have h4 := hfs i (by omega)
          rw [List.getD, List.getElem?_eq_getElem (by omega)] at h4
          rw [List.getElem?_eq_getElem (by simp; omega), List.getElem?_eq_getElem (by omega)]
          simp only [List.getElem_replicate, Option.some.injEq]
          simp only [Option.getD_some] at h4
          rw [h4, h3]
        · rw [if_neg h2, List.getElem?_eq_none (by simp; omega)]
    · have hq := hC q (by simp)
      refine oapp qs q [] (i2 (fun x hx => hC x (by simp [hx]))) ?_ hq.1 hq.2
      rw [i1]
      have ho := hr.ok
      cases q with
      | len x => exact ho
      | rep v => exact ⟨ho.1, fun e => by
          have h0 : 0 < a := ho.2
          have : (fs.take a).length = 0 := by rw [e]; rfl
          rw [List.length_take] at this
          omega⟩
      | few v => exact ho
      | many v => exact ho

end Go.Proofs.YtiahbicodlgmhaaGreatDoor.Z
