/- putStored. -/
import Derived.Test.YtiahbicodlgmhaaGreatDoorM25
import Derived.Test.YtiahbicodlgmhaaGreatDoorM26
import Derived.Deep.LoopGhost
namespace Go.Proofs.YtiahbicodlgmhaaGreatDoor.Z
open Go.RowKit

/-- The bytes of stored block k. -/
def zsl (bs : List Int) (k : Nat) : List Int := (bs.drop (65535 * k)).take 65535

/-- A stored block's fields. -/
def sto1 (f : Int) (cs : List Int) : List Fd := (f, 1) :: (0, 2) :: (0, 5) :: ((cs.length : Int), 16) :: (65535 - (cs.length : Int), 16) :: bfs cs

/-- Those of the first k. -/
def stk (last : Bool) (bs : List Int) : Nat → List Fd
  | 0 => []
  | k + 1 => stk last bs k ++ sto1 (lb1 (last && decide (bs.length ≤ 65535 * (k + 1)))) (zsl bs k)

/-- How many. -/
def nck (n : Nat) : Nat := max 1 ((n + 65534) / 65535)

theorem zsl_len (bs : List Int) (k : Nat) : (zsl bs k).length = min 65535 (bs.length - 65535 * k) := by simp [zsl]

theorem sto1_fb (f : Int) (cs : List Int) : fb (sto1 f cs) = 40 + 8 * cs.length := by
  simp only [sto1, fb, bfs_fb]
  omega

theorem stk_fb (last : Bool) (bs : List Int) (k : Nat) (h : k ≤ nck bs.length) : fb (stk last bs k) = 40 * k + 8 * min (65535 * k) bs.length := by
  induction k with
  | zero => simp [stk, fb]
  | succ k ih =>
    have h1 : 65535 * k ≤ bs.length := by unfold nck at h; omega
    simp only [stk, fb_app, ih (by omega), sto1_fb, zsl_len]
    omega

theorem neg_mod (n : Nat) (h : n ≤ 65535) : (-(n : Int) - 1) % 2 ^ 16 = 65535 - (n : Int) := by
  have : (2 : Int) ^ 16 = 65536 := by decide
  rw [this]
  omega

theorem bxor_neg (n : Nat) (h : n ≤ 65535) : bits .xor .i64 (-1) (n : Int) = -(n : Int) - 1 := by
  show IntKind.i64.wrap ((BitVec.ofInt 64 (-1) ^^^ BitVec.ofInt 64 (n : Int)).toNat : Nat) = _
  rw [show BitVec.ofInt 64 (-1) = BitVec.allOnes 64 from by decide, BitVec.ofInt_natCast, ← BitVec.not_def, BitVec.toNat_not, BitVec.toNat_ofNat, Nat.mod_eq_of_lt (by omega), IntKind.wrap_i64]
  omega

theorem bfs_take (cs : List Int) (j : Nat) (h : j < cs.length) : bfs (cs.take (j + 1)) = bfs (cs.take j) ++ [(cs.getD j 0, 8)] := by
  rw [Lzz.take_one cs 0 j h]
  simp [bfs]

set_option maxRecDepth 100000 in
set_option maxHeartbeats 4000000 in
theorem putStored_any (x B Q : Nat) (A : Nat → Prop) (l : List Fd) (da : Option Addr) (N dc : Nat) (bs : List Int) (last : Bool) (f : Nat → Value) (w : World) (hx : ∀ W, Zw B A w W → W.rowIs x 66 9 f) (hf0 : f 0 = .slice da N dc) (hf1 : f 1 = .bool last) (hr : ∀ W, Zw B A w W → Rd W da N dc bs) (hN : N ≤ 1000000) (hW : Wz w B Q A l) (hl : fb l ≤ 100000000) (h8 : fb l % 8 = 0) :
    Calls Tryz.prog 32 #[.pointer (some ⟨x, 0, none⟩), .pointer (some ⟨Q, 0, none⟩)] w fun e w' => e = .returned (.tuple #[]) ∧ Wz w' B Q A (l ++ stk last bs (nck N)) ∧ Zw B A w w' := by
  have q0 := (hx w (Zw.refl _ _ _)).cell (i := 0) (by omega)
  rw [hf0] at q0
  have HX : Hid (∀ W, Zw B A w W → W.cell? ⟨x, 1, none⟩ = some (.bool last)) := fun W hz => by
    have := (hx W hz).cell (i := 1) (by omega)
    rw [hf1] at this
    exact this
  have HR : Hid (∀ W, Zw B A w W → Rd W da (N - 65535 * 0) dc (bs.drop (65535 * 0))) := fun W hz => by simpa using hr W hz
  have HLN : Hid (bs.length = N) := (hr w (Zw.refl _ _ _)).len
  have HBY : Hid (∀ x ∈ bs, 0 ≤ x ∧ x < 256) := (hr w (Zw.refl _ _ _)).byt
  have HL : Hid (fb l ≤ 100000000 ∧ fb l % 8 = 0) := ⟨hl, h8⟩
  have HW0 : Hid (Wz w B Q A (l ++ stk last bs 0)) := by show Wz _ _ _ _ _; simpa [stk] using hW
  have hc1 : 1 ≤ nck N := by unfold nck; omega
  clear hx hf0 hf1 hr hW hl h8
  go_enter Tryz.func32, Tryz.ntmps32
  go_wp2_with fail
  clear q0
  go_loopg [4, 5] (nck N) (fun gk dv ev wr => Hid (Zw B A w wr) ∧ ((ev = .bool false ∧ ∃ (k : Nat) (a : Option Addr) (c : Nat), Hid (gk + k = nck N ∧ k < nck N) ∧ dv = .slice a (N - 65535 * k) c ∧ Hid (∀ W, Zw B A w W → Rd W a (N - 65535 * k) c (bs.drop (65535 * k))) ∧ Hid (Wz wr B Q A (l ++ stk last bs k))) ∨ (ev = .bool true ∧ Hid (Wz wr B Q A (l ++ stk last bs (nck N))))))
  case atStart => exact ⟨Zw.refl _ _ _, .inl ⟨rfl, 0, da, dc, ⟨by omega, by omega⟩, rfl, HR, HW0⟩⟩
  case round =>
    clear HR HW0
    obtain ⟨HZ, ⟨rfl, k, a, c, HK, rfl, HR, HW⟩ | ⟨rfl, HW⟩⟩ := hrel
    · obtain ⟨rem, hrem⟩ : ∃ rem, rem = N - 65535 * k := ⟨_, rfl⟩
      have HRM : Hid (rem = N - 65535 * k) := hrem
      have hrN : rem ≤ 1000000 := by omega
      rw [← hrem] at HR ⊢
      have HFB : Hid (fb (l ++ stk last bs k) ≤ 150000000 ∧ fb (l ++ stk last bs k) % 8 = 0) := by
        rw [fb_app, stk_fb last bs k (by rw [HLN.out]; have := HK.out; omega)]
        have h1 := HK.out
        have h2 := HL.out
        have h3 : nck N ≤ 100 := by unfold nck; omega
        exact ⟨by have := HLN.out; omega, by omega⟩
      have hfbb := HFB.out.1
      clear hrem
      cases last
      · by_cases hfin : rem ≤ 65535
        · skip
          
          have hcl : (zsl bs k).length = rem := by rw [zsl_len, HLN.out, ← HRM.out]; omega
          have HMN : Hid (((rem : Nat) : Int) = min (rem : Int) 65535) := by show ((rem : Nat) : Int) = min (rem : Int) 65535; omega
          
          have hflag : lb1 (false && decide (bs.length ≤ 65535 * (k + 1))) = 0 := by
            rw [HLN.out]
            have hrm := HRM.out
            have : decide (N ≤ 65535 * (k + 1)) = true := by simp; omega
            rw [this]
            rfl
          have hhd := zhead_any B Q A (l ++ stk false bs k) false 0 wr HW.out (by omega) (by omega)
          have x1 := HX.out wr HZ.out
          have e1 : ∀ W, Zw B A w W → (Instr.slice 22 (.slice a rem c) none (some (.int .i64 rem)) none).run Tryz.prog W = .ok (.slice (if c = 0 then a else Option.map (fun x => x.add 0) a) rem (c - 0)) W := fun W hz => by skip; exact Sum.run_sub (p := 0) (m := rem) (HR.out W hz) (by omega) none (some (.int .i64 rem)) (.inr ⟨rfl, rfl⟩) (.inl (by rw [Nat.zero_add]))
          have e2 : ∀ W, Zw B A w W → (Instr.slice 22 (.slice a rem c) (some (.int .i64 rem)) none none).run Tryz.prog W = .ok (.slice (if c = rem then a else Option.map (fun x => x.add rem) a) (rem - rem) (c - rem)) W := fun W hz => Sum.run_sub (p := rem) (m := rem - rem) (HR.out W hz) (by omega) (some (.int .i64 rem)) none (.inl rfl) (.inr ⟨rfl, by omega⟩)
          have HS1 : Hid (∀ W, Zw B A w W → Rd W (if c = 0 then a else Option.map (fun x => x.add 0) a) rem (c - 0) (zsl bs k)) := fun W hz => by
            skip
            have := (HR.out W hz).sub 0 rem (by omega)
            rw [List.drop_zero] at this
            have e : (bs.drop (65535 * k)).take rem = zsl bs k := by
              unfold zsl
              rw [List.take_of_length_le (by simp; have := HLN.out; have := HRM.out; omega), List.take_of_length_le (by simp; have := HLN.out; have := HRM.out; omega)]
            rw [e] at this
            exact this
          have HS2 : Hid (∀ W, Zw B A w W → Rd W (if c = rem then a else Option.map (fun x => x.add rem) a) (rem - rem) (c - rem) (bs.drop (65535 * k + rem))) := fun W hz => by
            have := (HR.out W hz).sub rem (rem - rem) (by omega)
            rw [List.drop_drop, List.take_of_length_le (by simp; have := HLN.out; have := HRM.out; omega)] at this
            exact this
          have HE1 : Hid (∀ W, Zw B A w W → (Instr.slice 22 (.slice a rem c) none (some (.int .i64 rem)) none).run Tryz.prog W = .ok (.slice (if c = 0 then a else Option.map (fun x => x.add 0) a) rem (c - 0)) W) := e1
          have HE2 : Hid (∀ W, Zw B A w W → (Instr.slice 22 (.slice a rem c) (some (.int .i64 rem)) none none).run Tryz.prog W = .ok (.slice (if c = rem then a else Option.map (fun x => x.add rem) a) (rem - rem) (c - rem)) W) := e2
          have HCL : Hid ((zsl bs k).length = rem) := hcl
          have HFLAG : Hid (lb1 (false && decide (bs.length ≤ 65535 * (k + 1))) = 0) := hflag
          have HCB : Hid (∀ x ∈ zsl bs k, 0 ≤ x ∧ x < 256) := fun x hx => HBY.out x (List.mem_of_mem_drop (List.mem_of_mem_take hx))
          have HNM : Hid (bits .xor .i64 (-1) ((rem : Nat) : Int) % 2 ^ 16 = 65535 - ((rem : Nat) : Int)) := by show _ = _; rw [bxor_neg rem (by omega)]; exact neg_mod rem (by omega)
          obtain ⟨cs, hcs⟩ : ∃ cs, cs = zsl bs k := ⟨_, rfl⟩
          have HCS : Hid (cs = zsl bs k) := hcs
          rw [← hcs] at HS1 HCL HCB
          obtain ⟨a1, ha1⟩ : ∃ a1, a1 = (if c = 0 then a else Option.map (fun x => x.add 0) a) := ⟨_, rfl⟩
          obtain ⟨a2, ha2⟩ : ∃ a2, a2 = (if c = rem then a else Option.map (fun x => x.add rem) a) := ⟨_, rfl⟩
          rw [← ha1] at HS1 HE1
          rw [← ha2] at HS2 HE2
          clear hcl hflag e1 e2 hcs ha1 ha2 HW HR
          simp only [lb1, if_false, Bool.false_eq_true] at hhd
          go_wp2_with (refine Lzz.wpList_min rfl 3 _ _ rfl (rem : Int) 65535 rfl rfl ((rem : Nat) : Int) HMN.out ?_)
          refine hhd.mono ?_
          rintro e w1 ⟨rfl, hw1, hz1⟩
          have z1 := HZ.out.trans hz1
          have hfb1 : fb (l ++ stk false bs k ++ [(0, 1), (((0 : Nat) : Int), 2)]) = fb (l ++ stk false bs k) + 3 := by rw [fb_app (l ++ stk false bs k)]; simp [fb]
          have hal := zalign_any B Q A _ w1 hw1 (by rw [hfb1]; have := HFB.out.1; omega) (by rw [hfb1]; have := HFB.out.2; omega)
          have HZ1 : Hid (Zw B A w w1) := z1
          clear hhd hw1 hz1 z1 x1 hfb1
          go_wp2_with fail
          refine hal.mono ?_
          rintro e w2 ⟨rfl, hw2, hz2⟩
          have z2 := HZ1.out.trans hz2
          have hp1 := zput_any B Q A _ ((rem : Nat) : Int) ((rem : Nat) : Int) 16 w2 hw2 (by omega) (by rw [fb_app, fb_app (l ++ stk false bs k)]; simp only [fb]; have := HFB.out.1; omega) (Int.emod_eq_of_lt (by omega) (by omega))
          have HZ2 : Hid (Zw B A w w2) := z2
          clear hal hw2 hz2 z2
          go_wp2_with fail
          refine hp1.mono ?_
          rintro e w3 ⟨rfl, hw3, hz3⟩
          have z3 := HZ2.out.trans hz3
          have hp2 := zput_any B Q A _ (bits .xor .i64 (-1) ((rem : Nat) : Int)) (65535 - ((rem : Nat) : Int)) 16 w3 hw3 (by omega) (by rw [fb_app, fb_app, fb_app (l ++ stk false bs k)]; simp only [fb]; have := HFB.out.1; omega) HNM.out
          have HZ3 : Hid (Zw B A w w3) := z3
          clear hp1 hw3 hz3 z3
          go_wp2_with fail
          refine hp2.mono ?_
          rintro e w4 ⟨rfl, hw4, hz4⟩
          have z4 := HZ3.out.trans hz4
          have q1 := HE1.out w4 z4
          obtain ⟨l4, hl4⟩ : ∃ l4, l4 = l ++ stk false bs k ++ [(0, 1), (((0 : Nat) : Int), 2)] ++ [(0, 5)] ++ [(((rem : Nat) : Int), 16)] ++ [(65535 - ((rem : Nat) : Int), 16)] := ⟨_, rfl⟩
          have HL4 : Hid (l4 = l ++ stk false bs k ++ [(0, 1), (((0 : Nat) : Int), 2)] ++ [(0, 5)] ++ [(((rem : Nat) : Int), 16)] ++ [(65535 - ((rem : Nat) : Int), 16)]) := hl4
          have HF4 : Hid (fb l4 ≤ 150000100 ∧ fb l4 % 8 = 0) := by
            rw [hl4, fb_app, fb_app, fb_app, fb_app (l ++ stk false bs k)]
            simp only [fb]
            have := HFB.out
            exact ⟨by omega, by omega⟩
          have HW4 : Hid (Wz w4 B Q A (l4 ++ bfs (cs.take 0))) := by show Wz _ _ _ _ _; rw [hl4]; simpa [bfs] using hw4
          have HZ4 : Hid (Zw B A w w4) := z4
          clear hp2 hw4 hz4 z4 hl4 HFB hfbb
          
          go_wp2_with fail
          clear q1
          go_loopw [44] (fun iv wr => ∃ j : Nat, j ≤ rem ∧ iv = .int .i64 j ∧ Hid (Wz wr B Q A (l4 ++ bfs (cs.take j))) ∧ Hid (Zw B A w wr)) (fun iv _ => rem - (intOf iv).toNat)
          case atStart => exact ⟨0, by omega, rfl, HW4, HZ4⟩
          case round =>
            clear HW4 HZ4 HZ1 HZ2 HZ3 HZ
            obtain ⟨j, hj, rfl, HW, HZ⟩ := hrel
            by_cases hlt : j < rem
            · obtain ⟨b, off, he, hcl⟩ := (HS1.out _ HZ.out).plain (by omega)
              have cj := hcl j hlt
              have hbt : 0 ≤ cs.getD j 0 ∧ cs.getD j 0 < 256 := by
                rw [List.getD, List.getElem?_eq_getElem (by rw [HCL.out]; exact hlt)]
                exact HCB.out _ (by simp)
              have hby := zbyte_any B Q A (l4 ++ bfs (cs.take j)) (cs.getD j 0) _ HW.out (by rw [fb_app, bfs_fb, List.length_take]; have := HF4.out; have := HCL.out; omega) (by rw [fb_app, bfs_fb]; have := HF4.out; omega) hbt.1 hbt.2
              have HE : Hid (l4 ++ bfs (cs.take (j + 1)) = l4 ++ bfs (cs.take j) ++ [(cs.getD j 0, 8)]) := by
                show _ = _
                rw [bfs_take cs j (by rw [HCL.out]; exact hlt), List.append_assoc]
              generalize cs.getD j 0 = y at *
              subst he
              clear hcl hbt HW
              go_wp2_with fail
              refine hby.mono ?_
              rintro e w5 ⟨rfl, hw5, hz5⟩
              rw [← HE.out] at hw5
              have HW5 : Hid (Wz w5 B Q A (l4 ++ bfs (cs.take (j + 1)))) := hw5
              have HZ5 : Hid (Zw B A w w5) := HZ.out.trans hz5
              clear hby hw5 hz5 HE HZ cj
              go_wp2
              go_roundw
              case rel => exact ⟨j + 1, by omega, by go_num, HW5, HZ5⟩
              case measure => simp [intOf]; omega
            · have HJN : Hid (j = rem) := by show j = rem; omega
              have dj : decide ((j : Int) < ((rem : Nat) : Int)) = false := by simp; omega
              have q2 := HE2.out _ HZ.out
              have HWF : Hid (Wz wr B Q A (l ++ stk false bs (k + 1))) := by
                have h := HW.out
                rw [List.take_of_length_le (by rw [HCL.out]; have := HJN.out; omega), HL4.out] at h
                show Wz _ _ _ _ _
                have e : l ++ stk false bs (k + 1) = l ++ stk false bs k ++ [(0, 1), (((0 : Nat) : Int), 2)] ++ [(0, 5)] ++ [(((rem : Nat) : Int), 16)] ++ [(65535 - ((rem : Nat) : Int), 16)] ++ bfs cs := by
                  simp only [stk, sto1]
                  rw [HFLAG.out, ← HCS.out, HCL.out]
                  simp
                rw [e]
                exact h
              clear HW
              go_wp2
              go_roundg (gk - 1)
              case measure => have := HK.out; omega
              case rel =>
                refine ⟨HZ, .inr ⟨rfl, ?_⟩⟩
                have e : nck N = k + 1 := by unfold nck; have := HRM.out; have := HK.out; unfold nck at this; omega
                rw [e]
                exact HWF
        · skip
          obtain ⟨M, hM⟩ : ∃ M : Nat, M = 65535 := ⟨_, rfl⟩
          have HM : Hid (M = 65535) := hM
          have hM9 : M ≤ 100000 := by omega
          have hcl : (zsl bs k).length = 65535 := by rw [zsl_len, HLN.out, ← HRM.out]; omega
          have HMN : Hid (((65535 : Nat) : Int) = min (rem : Int) 65535) := by show ((65535 : Nat) : Int) = min (rem : Int) 65535; omega
          have d1 : ((65535 : Int) == (rem : Int)) = false := by simp; omega
          have hflag : lb1 (false && decide (bs.length ≤ 65535 * (k + 1))) = 0 := by
            rw [HLN.out]
            have hrm := HRM.out
            have : decide (N ≤ 65535 * (k + 1)) = false := by simp; omega
            rw [this]
            rfl
          have hhd := zhead_any B Q A (l ++ stk false bs k) false 0 wr HW.out (by omega) (by omega)
          have x1 := HX.out wr HZ.out
          have e1 : ∀ W, Zw B A w W → (Instr.slice 22 (.slice a rem c) none (some (.int .i64 65535)) none).run Tryz.prog W = .ok (.slice (if c = 0 then a else Option.map (fun x => x.add 0) a) M (c - 0)) W := fun W hz => by skip; rw [hM]; exact Sum.run_sub (p := 0) (m := 65535) (HR.out W hz) (by omega) none (some (.int .i64 65535)) (.inr ⟨rfl, rfl⟩) (.inl (by rw [Nat.zero_add]; rfl))
          have e2 : ∀ W, Zw B A w W → (Instr.slice 22 (.slice a rem c) (some (.int .i64 65535)) none none).run Tryz.prog W = .ok (.slice (if c = 65535 then a else Option.map (fun x => x.add 65535) a) (rem - 65535) (c - 65535)) W := fun W hz => Sum.run_sub (p := 65535) (m := rem - 65535) (HR.out W hz) (by omega) (some (.int .i64 65535)) none (.inl rfl) (.inr ⟨rfl, by omega⟩)
          have HS1 : Hid (∀ W, Zw B A w W → Rd W (if c = 0 then a else Option.map (fun x => x.add 0) a) M (c - 0) (zsl bs k)) := fun W hz => by
            skip; rw [hM]
            have := (HR.out W hz).sub 0 65535 (by omega)
            rw [List.drop_zero] at this
            have e : (bs.drop (65535 * k)).take 65535 = zsl bs k := by
              unfold zsl
              rfl
            rw [e] at this
            exact this
          have HS2 : Hid (∀ W, Zw B A w W → Rd W (if c = 65535 then a else Option.map (fun x => x.add 65535) a) (rem - 65535) (c - 65535) (bs.drop (65535 * k + 65535))) := fun W hz => by
            have := (HR.out W hz).sub 65535 (rem - 65535) (by omega)
            rw [List.drop_drop, List.take_of_length_le (by simp; have := HLN.out; have := HRM.out; omega)] at this
            exact this
          have HE1 : Hid (∀ W, Zw B A w W → (Instr.slice 22 (.slice a rem c) none (some (.int .i64 65535)) none).run Tryz.prog W = .ok (.slice (if c = 0 then a else Option.map (fun x => x.add 0) a) M (c - 0)) W) := e1
          have HE2 : Hid (∀ W, Zw B A w W → (Instr.slice 22 (.slice a rem c) (some (.int .i64 65535)) none none).run Tryz.prog W = .ok (.slice (if c = 65535 then a else Option.map (fun x => x.add 65535) a) (rem - 65535) (c - 65535)) W) := e2
          have HCL : Hid ((zsl bs k).length = 65535) := hcl
          have HFLAG : Hid (lb1 (false && decide (bs.length ≤ 65535 * (k + 1))) = 0) := hflag
          have HCB : Hid (∀ x ∈ zsl bs k, 0 ≤ x ∧ x < 256) := fun x hx => HBY.out x (List.mem_of_mem_drop (List.mem_of_mem_take hx))
          have HNM : Hid (bits .xor .i64 (-1) ((65535 : Nat) : Int) % 2 ^ 16 = 65535 - ((65535 : Nat) : Int)) := by show _ = _; rw [bxor_neg 65535 (by omega)]; exact neg_mod 65535 (by omega)
          obtain ⟨cs, hcs⟩ : ∃ cs, cs = zsl bs k := ⟨_, rfl⟩
          have HCS : Hid (cs = zsl bs k) := hcs
          rw [← hcs] at HS1 HCL HCB
          obtain ⟨a1, ha1⟩ : ∃ a1, a1 = (if c = 0 then a else Option.map (fun x => x.add 0) a) := ⟨_, rfl⟩
          obtain ⟨a2, ha2⟩ : ∃ a2, a2 = (if c = 65535 then a else Option.map (fun x => x.add 65535) a) := ⟨_, rfl⟩
          rw [← ha1] at HS1 HE1
          rw [← ha2] at HS2 HE2
          clear hcl hflag e1 e2 hcs ha1 ha2 HW HR hM hM9
          simp only [lb1, if_false, Bool.false_eq_true] at hhd
          go_wp2_with (refine Lzz.wpList_min rfl 3 _ _ rfl (rem : Int) 65535 rfl rfl ((65535 : Nat) : Int) HMN.out ?_)
          refine hhd.mono ?_
          rintro e w1 ⟨rfl, hw1, hz1⟩
          have z1 := HZ.out.trans hz1
          have hfb1 : fb (l ++ stk false bs k ++ [(0, 1), (((0 : Nat) : Int), 2)]) = fb (l ++ stk false bs k) + 3 := by rw [fb_app (l ++ stk false bs k)]; simp [fb]
          have hal := zalign_any B Q A _ w1 hw1 (by rw [hfb1]; have := HFB.out.1; omega) (by rw [hfb1]; have := HFB.out.2; omega)
          have HZ1 : Hid (Zw B A w w1) := z1
          clear hhd hw1 hz1 z1 x1 hfb1
          go_wp2_with fail
          refine hal.mono ?_
          rintro e w2 ⟨rfl, hw2, hz2⟩
          have z2 := HZ1.out.trans hz2
          have hp1 := zput_any B Q A _ ((65535 : Nat) : Int) ((65535 : Nat) : Int) 16 w2 hw2 (by omega) (by rw [fb_app, fb_app (l ++ stk false bs k)]; simp only [fb]; have := HFB.out.1; omega) (Int.emod_eq_of_lt (by omega) (by omega))
          have HZ2 : Hid (Zw B A w w2) := z2
          clear hal hw2 hz2 z2
          go_wp2_with fail
          refine hp1.mono ?_
          rintro e w3 ⟨rfl, hw3, hz3⟩
          have z3 := HZ2.out.trans hz3
          have hp2 := zput_any B Q A _ (bits .xor .i64 (-1) ((65535 : Nat) : Int)) (65535 - ((65535 : Nat) : Int)) 16 w3 hw3 (by omega) (by rw [fb_app, fb_app, fb_app (l ++ stk false bs k)]; simp only [fb]; have := HFB.out.1; omega) HNM.out
          have HZ3 : Hid (Zw B A w w3) := z3
          clear hp1 hw3 hz3 z3
          go_wp2_with fail
          refine hp2.mono ?_
          rintro e w4 ⟨rfl, hw4, hz4⟩
          have z4 := HZ3.out.trans hz4
          have q1 := HE1.out w4 z4
          obtain ⟨l4, hl4⟩ : ∃ l4, l4 = l ++ stk false bs k ++ [(0, 1), (((0 : Nat) : Int), 2)] ++ [(0, 5)] ++ [(((65535 : Nat) : Int), 16)] ++ [(65535 - ((65535 : Nat) : Int), 16)] := ⟨_, rfl⟩
          have HL4 : Hid (l4 = l ++ stk false bs k ++ [(0, 1), (((0 : Nat) : Int), 2)] ++ [(0, 5)] ++ [(((65535 : Nat) : Int), 16)] ++ [(65535 - ((65535 : Nat) : Int), 16)]) := hl4
          have HF4 : Hid (fb l4 ≤ 150000100 ∧ fb l4 % 8 = 0) := by
            rw [hl4, fb_app, fb_app, fb_app, fb_app (l ++ stk false bs k)]
            simp only [fb]
            have := HFB.out
            exact ⟨by omega, by omega⟩
          have HW4 : Hid (Wz w4 B Q A (l4 ++ bfs (cs.take 0))) := by show Wz _ _ _ _ _; rw [hl4]; simpa [bfs] using hw4
          have HZ4 : Hid (Zw B A w w4) := z4
          clear hp2 hw4 hz4 z4 hl4 HFB hfbb
          have HFIN : Hid (¬ rem ≤ 65535) := hfin
          have hM9 : M ≤ 100000 := by have := HM.out; omega
          clear hfin
          go_wp2_with fail
          clear q1
          go_loopw [44] (fun iv wr => ∃ j : Nat, j ≤ M ∧ iv = .int .i64 j ∧ Hid (Wz wr B Q A (l4 ++ bfs (cs.take j))) ∧ Hid (Zw B A w wr)) (fun iv _ => M - (intOf iv).toNat)
          case atStart => exact ⟨0, by omega, rfl, HW4, HZ4⟩
          case round =>
            clear HW4 HZ4 HZ1 HZ2 HZ3 HZ
            obtain ⟨j, hj, rfl, HW, HZ⟩ := hrel
            by_cases hlt : j < M
            · obtain ⟨b, off, he, hcl⟩ := (HS1.out _ HZ.out).plain (by omega)
              have cj := hcl j hlt
              have hbt : 0 ≤ cs.getD j 0 ∧ cs.getD j 0 < 256 := by
                rw [List.getD, List.getElem?_eq_getElem (by rw [HCL.out, ← HM.out]; exact hlt)]
                exact HCB.out _ (by simp)
              have hby := zbyte_any B Q A (l4 ++ bfs (cs.take j)) (cs.getD j 0) _ HW.out (by rw [fb_app, bfs_fb, List.length_take]; have := HF4.out; have := HCL.out; omega) (by rw [fb_app, bfs_fb]; have := HF4.out; omega) hbt.1 hbt.2
              have HE : Hid (l4 ++ bfs (cs.take (j + 1)) = l4 ++ bfs (cs.take j) ++ [(cs.getD j 0, 8)]) := by
                show _ = _
                rw [bfs_take cs j (by rw [HCL.out, ← HM.out]; exact hlt), List.append_assoc]
              generalize cs.getD j 0 = y at *
              subst he
              clear hcl hbt HW
              go_wp2_with fail
              refine hby.mono ?_
              rintro e w5 ⟨rfl, hw5, hz5⟩
              rw [← HE.out] at hw5
              have HW5 : Hid (Wz w5 B Q A (l4 ++ bfs (cs.take (j + 1)))) := hw5
              have HZ5 : Hid (Zw B A w w5) := HZ.out.trans hz5
              clear hby hw5 hz5 HE HZ cj
              go_wp2
              go_roundw
              case rel => exact ⟨j + 1, by omega, by go_num, HW5, HZ5⟩
              case measure => simp [intOf]; omega
            · have HJN : Hid (j = M) := by show j = M; omega
              have dj : decide ((j : Int) < ((M : Nat) : Int)) = false := by simp; omega
              have q2 := HE2.out _ HZ.out
              have HWF : Hid (Wz wr B Q A (l ++ stk false bs (k + 1))) := by
                have h := HW.out
                rw [List.take_of_length_le (by rw [HCL.out]; have := HJN.out; have := HM.out; omega), HL4.out] at h
                show Wz _ _ _ _ _
                have e : l ++ stk false bs (k + 1) = l ++ stk false bs k ++ [(0, 1), (((0 : Nat) : Int), 2)] ++ [(0, 5)] ++ [(((65535 : Nat) : Int), 16)] ++ [(65535 - ((65535 : Nat) : Int), 16)] ++ bfs cs := by
                  simp only [stk, sto1]
                  rw [HFLAG.out, ← HCS.out, HCL.out]
                  simp
                rw [e]
                exact h
              clear HW
              go_wp2
              go_roundg (gk - 1)
              case measure => have := HK.out; omega
              case rel =>
                refine ⟨HZ, .inl ⟨rfl, k + 1, a2, c - 65535, ⟨by have := HK.out; omega, ?_⟩, ?_, ?_, HWF⟩⟩
                · unfold nck; have := HRM.out; have := HFIN.out; omega
                · rw [show N - 65535 * (k + 1) = rem - 65535 by have := HRM.out; omega]
                · intro W hz
                  have := HS2.out W hz
                  rw [show 65535 * k + 65535 = 65535 * (k + 1) by omega, show rem - 65535 = N - 65535 * (k + 1) by have := HRM.out; omega] at this
                  exact this
      · by_cases hfin : rem ≤ 65535
        · skip
          
          have hcl : (zsl bs k).length = rem := by rw [zsl_len, HLN.out, ← HRM.out]; omega
          have HMN : Hid (((rem : Nat) : Int) = min (rem : Int) 65535) := by show ((rem : Nat) : Int) = min (rem : Int) 65535; omega
          
          have hflag : lb1 (true && decide (bs.length ≤ 65535 * (k + 1))) = 1 := by
            rw [HLN.out]
            have hrm := HRM.out
            have : decide (N ≤ 65535 * (k + 1)) = true := by simp; omega
            rw [this]
            rfl
          have hhd := zhead_any B Q A (l ++ stk true bs k) true 0 wr HW.out (by omega) (by omega)
          have x1 := HX.out wr HZ.out
          have e1 : ∀ W, Zw B A w W → (Instr.slice 22 (.slice a rem c) none (some (.int .i64 rem)) none).run Tryz.prog W = .ok (.slice (if c = 0 then a else Option.map (fun x => x.add 0) a) rem (c - 0)) W := fun W hz => by skip; exact Sum.run_sub (p := 0) (m := rem) (HR.out W hz) (by omega) none (some (.int .i64 rem)) (.inr ⟨rfl, rfl⟩) (.inl (by rw [Nat.zero_add]))
          have e2 : ∀ W, Zw B A w W → (Instr.slice 22 (.slice a rem c) (some (.int .i64 rem)) none none).run Tryz.prog W = .ok (.slice (if c = rem then a else Option.map (fun x => x.add rem) a) (rem - rem) (c - rem)) W := fun W hz => Sum.run_sub (p := rem) (m := rem - rem) (HR.out W hz) (by omega) (some (.int .i64 rem)) none (.inl rfl) (.inr ⟨rfl, by omega⟩)
          have HS1 : Hid (∀ W, Zw B A w W → Rd W (if c = 0 then a else Option.map (fun x => x.add 0) a) rem (c - 0) (zsl bs k)) := fun W hz => by
            skip
            have := (HR.out W hz).sub 0 rem (by omega)
            rw [List.drop_zero] at this
            have e : (bs.drop (65535 * k)).take rem = zsl bs k := by
              unfold zsl
              rw [List.take_of_length_le (by simp; have := HLN.out; have := HRM.out; omega), List.take_of_length_le (by simp; have := HLN.out; have := HRM.out; omega)]
            rw [e] at this
            exact this
          have HS2 : Hid (∀ W, Zw B A w W → Rd W (if c = rem then a else Option.map (fun x => x.add rem) a) (rem - rem) (c - rem) (bs.drop (65535 * k + rem))) := fun W hz => by
            have := (HR.out W hz).sub rem (rem - rem) (by omega)
            rw [List.drop_drop, List.take_of_length_le (by simp; have := HLN.out; have := HRM.out; omega)] at this
            exact this
          have HE1 : Hid (∀ W, Zw B A w W → (Instr.slice 22 (.slice a rem c) none (some (.int .i64 rem)) none).run Tryz.prog W = .ok (.slice (if c = 0 then a else Option.map (fun x => x.add 0) a) rem (c - 0)) W) := e1
          have HE2 : Hid (∀ W, Zw B A w W → (Instr.slice 22 (.slice a rem c) (some (.int .i64 rem)) none none).run Tryz.prog W = .ok (.slice (if c = rem then a else Option.map (fun x => x.add rem) a) (rem - rem) (c - rem)) W) := e2
          have HCL : Hid ((zsl bs k).length = rem) := hcl
          have HFLAG : Hid (lb1 (true && decide (bs.length ≤ 65535 * (k + 1))) = 1) := hflag
          have HCB : Hid (∀ x ∈ zsl bs k, 0 ≤ x ∧ x < 256) := fun x hx => HBY.out x (List.mem_of_mem_drop (List.mem_of_mem_take hx))
          have HNM : Hid (bits .xor .i64 (-1) ((rem : Nat) : Int) % 2 ^ 16 = 65535 - ((rem : Nat) : Int)) := by show _ = _; rw [bxor_neg rem (by omega)]; exact neg_mod rem (by omega)
          obtain ⟨cs, hcs⟩ : ∃ cs, cs = zsl bs k := ⟨_, rfl⟩
          have HCS : Hid (cs = zsl bs k) := hcs
          rw [← hcs] at HS1 HCL HCB
          obtain ⟨a1, ha1⟩ : ∃ a1, a1 = (if c = 0 then a else Option.map (fun x => x.add 0) a) := ⟨_, rfl⟩
          obtain ⟨a2, ha2⟩ : ∃ a2, a2 = (if c = rem then a else Option.map (fun x => x.add rem) a) := ⟨_, rfl⟩
          rw [← ha1] at HS1 HE1
          rw [← ha2] at HS2 HE2
          clear hcl hflag e1 e2 hcs ha1 ha2 HW HR
          simp only [lb1, if_true] at hhd
          go_wp2_with (refine Lzz.wpList_min rfl 3 _ _ rfl (rem : Int) 65535 rfl rfl ((rem : Nat) : Int) HMN.out ?_)
          refine hhd.mono ?_
          rintro e w1 ⟨rfl, hw1, hz1⟩
          have z1 := HZ.out.trans hz1
          have hfb1 : fb (l ++ stk true bs k ++ [(1, 1), (((0 : Nat) : Int), 2)]) = fb (l ++ stk true bs k) + 3 := by rw [fb_app (l ++ stk true bs k)]; simp [fb]
          have hal := zalign_any B Q A _ w1 hw1 (by rw [hfb1]; have := HFB.out.1; omega) (by rw [hfb1]; have := HFB.out.2; omega)
          have HZ1 : Hid (Zw B A w w1) := z1
          clear hhd hw1 hz1 z1 x1 hfb1
          go_wp2_with fail
          refine hal.mono ?_
          rintro e w2 ⟨rfl, hw2, hz2⟩
          have z2 := HZ1.out.trans hz2
          have hp1 := zput_any B Q A _ ((rem : Nat) : Int) ((rem : Nat) : Int) 16 w2 hw2 (by omega) (by rw [fb_app, fb_app (l ++ stk true bs k)]; simp only [fb]; have := HFB.out.1; omega) (Int.emod_eq_of_lt (by omega) (by omega))
          have HZ2 : Hid (Zw B A w w2) := z2
          clear hal hw2 hz2 z2
          go_wp2_with fail
          refine hp1.mono ?_
          rintro e w3 ⟨rfl, hw3, hz3⟩
          have z3 := HZ2.out.trans hz3
          have hp2 := zput_any B Q A _ (bits .xor .i64 (-1) ((rem : Nat) : Int)) (65535 - ((rem : Nat) : Int)) 16 w3 hw3 (by omega) (by rw [fb_app, fb_app, fb_app (l ++ stk true bs k)]; simp only [fb]; have := HFB.out.1; omega) HNM.out
          have HZ3 : Hid (Zw B A w w3) := z3
          clear hp1 hw3 hz3 z3
          go_wp2_with fail
          refine hp2.mono ?_
          rintro e w4 ⟨rfl, hw4, hz4⟩
          have z4 := HZ3.out.trans hz4
          have q1 := HE1.out w4 z4
          obtain ⟨l4, hl4⟩ : ∃ l4, l4 = l ++ stk true bs k ++ [(1, 1), (((0 : Nat) : Int), 2)] ++ [(0, 5)] ++ [(((rem : Nat) : Int), 16)] ++ [(65535 - ((rem : Nat) : Int), 16)] := ⟨_, rfl⟩
          have HL4 : Hid (l4 = l ++ stk true bs k ++ [(1, 1), (((0 : Nat) : Int), 2)] ++ [(0, 5)] ++ [(((rem : Nat) : Int), 16)] ++ [(65535 - ((rem : Nat) : Int), 16)]) := hl4
          have HF4 : Hid (fb l4 ≤ 150000100 ∧ fb l4 % 8 = 0) := by
            rw [hl4, fb_app, fb_app, fb_app, fb_app (l ++ stk true bs k)]
            simp only [fb]
            have := HFB.out
            exact ⟨by omega, by omega⟩
          have HW4 : Hid (Wz w4 B Q A (l4 ++ bfs (cs.take 0))) := by show Wz _ _ _ _ _; rw [hl4]; simpa [bfs] using hw4
          have HZ4 : Hid (Zw B A w w4) := z4
          clear hp2 hw4 hz4 z4 hl4 HFB hfbb
          
          go_wp2_with fail
          clear q1
          go_loopw [44] (fun iv wr => ∃ j : Nat, j ≤ rem ∧ iv = .int .i64 j ∧ Hid (Wz wr B Q A (l4 ++ bfs (cs.take j))) ∧ Hid (Zw B A w wr)) (fun iv _ => rem - (intOf iv).toNat)
          case atStart => exact ⟨0, by omega, rfl, HW4, HZ4⟩
          case round =>
            clear HW4 HZ4 HZ1 HZ2 HZ3 HZ
            obtain ⟨j, hj, rfl, HW, HZ⟩ := hrel
            by_cases hlt : j < rem
            · obtain ⟨b, off, he, hcl⟩ := (HS1.out _ HZ.out).plain (by omega)
              have cj := hcl j hlt
              have hbt : 0 ≤ cs.getD j 0 ∧ cs.getD j 0 < 256 := by
                rw [List.getD, List.getElem?_eq_getElem (by rw [HCL.out]; exact hlt)]
                exact HCB.out _ (by simp)
              have hby := zbyte_any B Q A (l4 ++ bfs (cs.take j)) (cs.getD j 0) _ HW.out (by rw [fb_app, bfs_fb, List.length_take]; have := HF4.out; have := HCL.out; omega) (by rw [fb_app, bfs_fb]; have := HF4.out; omega) hbt.1 hbt.2
              have HE : Hid (l4 ++ bfs (cs.take (j + 1)) = l4 ++ bfs (cs.take j) ++ [(cs.getD j 0, 8)]) := by
                show _ = _
                rw [bfs_take cs j (by rw [HCL.out]; exact hlt), List.append_assoc]
              generalize cs.getD j 0 = y at *
              subst he
              clear hcl hbt HW
              go_wp2_with fail
              refine hby.mono ?_
              rintro e w5 ⟨rfl, hw5, hz5⟩
              rw [← HE.out] at hw5
              have HW5 : Hid (Wz w5 B Q A (l4 ++ bfs (cs.take (j + 1)))) := hw5
              have HZ5 : Hid (Zw B A w w5) := HZ.out.trans hz5
              clear hby hw5 hz5 HE HZ cj
              go_wp2
              go_roundw
              case rel => exact ⟨j + 1, by omega, by go_num, HW5, HZ5⟩
              case measure => simp [intOf]; omega
            · have HJN : Hid (j = rem) := by show j = rem; omega
              have dj : decide ((j : Int) < ((rem : Nat) : Int)) = false := by simp; omega
              have q2 := HE2.out _ HZ.out
              have HWF : Hid (Wz wr B Q A (l ++ stk true bs (k + 1))) := by
                have h := HW.out
                rw [List.take_of_length_le (by rw [HCL.out]; have := HJN.out; omega), HL4.out] at h
                show Wz _ _ _ _ _
                have e : l ++ stk true bs (k + 1) = l ++ stk true bs k ++ [(1, 1), (((0 : Nat) : Int), 2)] ++ [(0, 5)] ++ [(((rem : Nat) : Int), 16)] ++ [(65535 - ((rem : Nat) : Int), 16)] ++ bfs cs := by
                  simp only [stk, sto1]
                  rw [HFLAG.out, ← HCS.out, HCL.out]
                  simp
                rw [e]
                exact h
              clear HW
              go_wp2
              go_roundg (gk - 1)
              case measure => have := HK.out; omega
              case rel =>
                refine ⟨HZ, .inr ⟨rfl, ?_⟩⟩
                have e : nck N = k + 1 := by unfold nck; have := HRM.out; have := HK.out; unfold nck at this; omega
                rw [e]
                exact HWF
        · skip
          obtain ⟨M, hM⟩ : ∃ M : Nat, M = 65535 := ⟨_, rfl⟩
          have HM : Hid (M = 65535) := hM
          have hM9 : M ≤ 100000 := by omega
          have hcl : (zsl bs k).length = 65535 := by rw [zsl_len, HLN.out, ← HRM.out]; omega
          have HMN : Hid (((65535 : Nat) : Int) = min (rem : Int) 65535) := by show ((65535 : Nat) : Int) = min (rem : Int) 65535; omega
          have d1 : ((65535 : Int) == (rem : Int)) = false := by simp; omega
          have hflag : lb1 (true && decide (bs.length ≤ 65535 * (k + 1))) = 0 := by
            rw [HLN.out]
            have hrm := HRM.out
            have : decide (N ≤ 65535 * (k + 1)) = false := by simp; omega
            rw [this]
            rfl
          have hhd := zhead_any B Q A (l ++ stk true bs k) false 0 wr HW.out (by omega) (by omega)
          have x1 := HX.out wr HZ.out
          have e1 : ∀ W, Zw B A w W → (Instr.slice 22 (.slice a rem c) none (some (.int .i64 65535)) none).run Tryz.prog W = .ok (.slice (if c = 0 then a else Option.map (fun x => x.add 0) a) M (c - 0)) W := fun W hz => by skip; rw [hM]; exact Sum.run_sub (p := 0) (m := 65535) (HR.out W hz) (by omega) none (some (.int .i64 65535)) (.inr ⟨rfl, rfl⟩) (.inl (by rw [Nat.zero_add]; rfl))
          have e2 : ∀ W, Zw B A w W → (Instr.slice 22 (.slice a rem c) (some (.int .i64 65535)) none none).run Tryz.prog W = .ok (.slice (if c = 65535 then a else Option.map (fun x => x.add 65535) a) (rem - 65535) (c - 65535)) W := fun W hz => Sum.run_sub (p := 65535) (m := rem - 65535) (HR.out W hz) (by omega) (some (.int .i64 65535)) none (.inl rfl) (.inr ⟨rfl, by omega⟩)
          have HS1 : Hid (∀ W, Zw B A w W → Rd W (if c = 0 then a else Option.map (fun x => x.add 0) a) M (c - 0) (zsl bs k)) := fun W hz => by
            skip; rw [hM]
            have := (HR.out W hz).sub 0 65535 (by omega)
            rw [List.drop_zero] at this
            have e : (bs.drop (65535 * k)).take 65535 = zsl bs k := by
              unfold zsl
              rfl
            rw [e] at this
            exact this
          have HS2 : Hid (∀ W, Zw B A w W → Rd W (if c = 65535 then a else Option.map (fun x => x.add 65535) a) (rem - 65535) (c - 65535) (bs.drop (65535 * k + 65535))) := fun W hz => by
            have := (HR.out W hz).sub 65535 (rem - 65535) (by omega)
            rw [List.drop_drop, List.take_of_length_le (by simp; have := HLN.out; have := HRM.out; omega)] at this
            exact this
          have HE1 : Hid (∀ W, Zw B A w W → (Instr.slice 22 (.slice a rem c) none (some (.int .i64 65535)) none).run Tryz.prog W = .ok (.slice (if c = 0 then a else Option.map (fun x => x.add 0) a) M (c - 0)) W) := e1
          have HE2 : Hid (∀ W, Zw B A w W → (Instr.slice 22 (.slice a rem c) (some (.int .i64 65535)) none none).run Tryz.prog W = .ok (.slice (if c = 65535 then a else Option.map (fun x => x.add 65535) a) (rem - 65535) (c - 65535)) W) := e2
          have HCL : Hid ((zsl bs k).length = 65535) := hcl
          have HFLAG : Hid (lb1 (true && decide (bs.length ≤ 65535 * (k + 1))) = 0) := hflag
          have HCB : Hid (∀ x ∈ zsl bs k, 0 ≤ x ∧ x < 256) := fun x hx => HBY.out x (List.mem_of_mem_drop (List.mem_of_mem_take hx))
          have HNM : Hid (bits .xor .i64 (-1) ((65535 : Nat) : Int) % 2 ^ 16 = 65535 - ((65535 : Nat) : Int)) := by show _ = _; rw [bxor_neg 65535 (by omega)]; exact neg_mod 65535 (by omega)
          obtain ⟨cs, hcs⟩ : ∃ cs, cs = zsl bs k := ⟨_, rfl⟩
          have HCS : Hid (cs = zsl bs k) := hcs
          rw [← hcs] at HS1 HCL HCB
          obtain ⟨a1, ha1⟩ : ∃ a1, a1 = (if c = 0 then a else Option.map (fun x => x.add 0) a) := ⟨_, rfl⟩
          obtain ⟨a2, ha2⟩ : ∃ a2, a2 = (if c = 65535 then a else Option.map (fun x => x.add 65535) a) := ⟨_, rfl⟩
          rw [← ha1] at HS1 HE1
          rw [← ha2] at HS2 HE2
          clear hcl hflag e1 e2 hcs ha1 ha2 HW HR hM hM9
          simp only [lb1, if_false, Bool.false_eq_true] at hhd
          go_wp2_with (refine Lzz.wpList_min rfl 3 _ _ rfl (rem : Int) 65535 rfl rfl ((65535 : Nat) : Int) HMN.out ?_)
          refine hhd.mono ?_
          rintro e w1 ⟨rfl, hw1, hz1⟩
          have z1 := HZ.out.trans hz1
          have hfb1 : fb (l ++ stk true bs k ++ [(0, 1), (((0 : Nat) : Int), 2)]) = fb (l ++ stk true bs k) + 3 := by rw [fb_app (l ++ stk true bs k)]; simp [fb]
          have hal := zalign_any B Q A _ w1 hw1 (by rw [hfb1]; have := HFB.out.1; omega) (by rw [hfb1]; have := HFB.out.2; omega)
          have HZ1 : Hid (Zw B A w w1) := z1
          clear hhd hw1 hz1 z1 x1 hfb1
          go_wp2_with fail
          refine hal.mono ?_
          rintro e w2 ⟨rfl, hw2, hz2⟩
          have z2 := HZ1.out.trans hz2
          have hp1 := zput_any B Q A _ ((65535 : Nat) : Int) ((65535 : Nat) : Int) 16 w2 hw2 (by omega) (by rw [fb_app, fb_app (l ++ stk true bs k)]; simp only [fb]; have := HFB.out.1; omega) (Int.emod_eq_of_lt (by omega) (by omega))
          have HZ2 : Hid (Zw B A w w2) := z2
          clear hal hw2 hz2 z2
          go_wp2_with fail
          refine hp1.mono ?_
          rintro e w3 ⟨rfl, hw3, hz3⟩
          have z3 := HZ2.out.trans hz3
          have hp2 := zput_any B Q A _ (bits .xor .i64 (-1) ((65535 : Nat) : Int)) (65535 - ((65535 : Nat) : Int)) 16 w3 hw3 (by omega) (by rw [fb_app, fb_app, fb_app (l ++ stk true bs k)]; simp only [fb]; have := HFB.out.1; omega) HNM.out
          have HZ3 : Hid (Zw B A w w3) := z3
          clear hp1 hw3 hz3 z3
          go_wp2_with fail
          refine hp2.mono ?_
          rintro e w4 ⟨rfl, hw4, hz4⟩
          have z4 := HZ3.out.trans hz4
          have q1 := HE1.out w4 z4
          obtain ⟨l4, hl4⟩ : ∃ l4, l4 = l ++ stk true bs k ++ [(0, 1), (((0 : Nat) : Int), 2)] ++ [(0, 5)] ++ [(((65535 : Nat) : Int), 16)] ++ [(65535 - ((65535 : Nat) : Int), 16)] := ⟨_, rfl⟩
          have HL4 : Hid (l4 = l ++ stk true bs k ++ [(0, 1), (((0 : Nat) : Int), 2)] ++ [(0, 5)] ++ [(((65535 : Nat) : Int), 16)] ++ [(65535 - ((65535 : Nat) : Int), 16)]) := hl4
          have HF4 : Hid (fb l4 ≤ 150000100 ∧ fb l4 % 8 = 0) := by
            rw [hl4, fb_app, fb_app, fb_app, fb_app (l ++ stk true bs k)]
            simp only [fb]
            have := HFB.out
            exact ⟨by omega, by omega⟩
          have HW4 : Hid (Wz w4 B Q A (l4 ++ bfs (cs.take 0))) := by show Wz _ _ _ _ _; rw [hl4]; simpa [bfs] using hw4
          have HZ4 : Hid (Zw B A w w4) := z4
          clear hp2 hw4 hz4 z4 hl4 HFB hfbb
          have HFIN : Hid (¬ rem ≤ 65535) := hfin
          have hM9 : M ≤ 100000 := by have := HM.out; omega
          clear hfin
          go_wp2_with fail
          clear q1
          go_loopw [44] (fun iv wr => ∃ j : Nat, j ≤ M ∧ iv = .int .i64 j ∧ Hid (Wz wr B Q A (l4 ++ bfs (cs.take j))) ∧ Hid (Zw B A w wr)) (fun iv _ => M - (intOf iv).toNat)
          case atStart => exact ⟨0, by omega, rfl, HW4, HZ4⟩
          case round =>
            clear HW4 HZ4 HZ1 HZ2 HZ3 HZ
            obtain ⟨j, hj, rfl, HW, HZ⟩ := hrel
            by_cases hlt : j < M
            · obtain ⟨b, off, he, hcl⟩ := (HS1.out _ HZ.out).plain (by omega)
              have cj := hcl j hlt
              have hbt : 0 ≤ cs.getD j 0 ∧ cs.getD j 0 < 256 := by
                rw [List.getD, List.getElem?_eq_getElem (by rw [HCL.out, ← HM.out]; exact hlt)]
                exact HCB.out _ (by simp)
              have hby := zbyte_any B Q A (l4 ++ bfs (cs.take j)) (cs.getD j 0) _ HW.out (by rw [fb_app, bfs_fb, List.length_take]; have := HF4.out; have := HCL.out; omega) (by rw [fb_app, bfs_fb]; have := HF4.out; omega) hbt.1 hbt.2
              have HE : Hid (l4 ++ bfs (cs.take (j + 1)) = l4 ++ bfs (cs.take j) ++ [(cs.getD j 0, 8)]) := by
                show _ = _
                rw [bfs_take cs j (by rw [HCL.out, ← HM.out]; exact hlt), List.append_assoc]
              generalize cs.getD j 0 = y at *
              subst he
              clear hcl hbt HW
              go_wp2_with fail
              refine hby.mono ?_
              rintro e w5 ⟨rfl, hw5, hz5⟩
              rw [← HE.out] at hw5
              have HW5 : Hid (Wz w5 B Q A (l4 ++ bfs (cs.take (j + 1)))) := hw5
              have HZ5 : Hid (Zw B A w w5) := HZ.out.trans hz5
              clear hby hw5 hz5 HE HZ cj
              go_wp2
              go_roundw
              case rel => exact ⟨j + 1, by omega, by go_num, HW5, HZ5⟩
              case measure => simp [intOf]; omega
            · have HJN : Hid (j = M) := by show j = M; omega
              have dj : decide ((j : Int) < ((M : Nat) : Int)) = false := by simp; omega
              have q2 := HE2.out _ HZ.out
              have HWF : Hid (Wz wr B Q A (l ++ stk true bs (k + 1))) := by
                have h := HW.out
                rw [List.take_of_length_le (by rw [HCL.out]; have := HJN.out; have := HM.out; omega), HL4.out] at h
                show Wz _ _ _ _ _
                have e : l ++ stk true bs (k + 1) = l ++ stk true bs k ++ [(0, 1), (((0 : Nat) : Int), 2)] ++ [(0, 5)] ++ [(((65535 : Nat) : Int), 16)] ++ [(65535 - ((65535 : Nat) : Int), 16)] ++ bfs cs := by
                  simp only [stk, sto1]
                  rw [HFLAG.out, ← HCS.out, HCL.out]
                  simp
                rw [e]
                exact h
              clear HW
              go_wp2
              go_roundg (gk - 1)
              case measure => have := HK.out; omega
              case rel =>
                refine ⟨HZ, .inl ⟨rfl, k + 1, a2, c - 65535, ⟨by have := HK.out; omega, ?_⟩, ?_, ?_, HWF⟩⟩
                · unfold nck; have := HRM.out; have := HFIN.out; omega
                · rw [show N - 65535 * (k + 1) = rem - 65535 by have := HRM.out; omega]
                · intro W hz
                  have := HS2.out W hz
                  rw [show 65535 * k + 65535 = 65535 * (k + 1) by omega, show rem - 65535 = N - 65535 * (k + 1) by have := HRM.out; omega] at this
                  exact this
    · go_wp2
      go_end0
      exact ⟨rfl, HW.out, HZ.out⟩

end Go.Proofs.YtiahbicodlgmhaaGreatDoor.Z
