/- SumWAdler, ZPk1, ZPk2, ZPk3. -/
import Derived.Test.YtiahbicodlgmhaaGreatDoorSumCrc
import Derived.Test.YtiahbicodlgmhaaGreatDoorM26
import Derived.Test.YtiahbicodlgmhaaGreatDoorM35
/- Adler-32: the program's, the document's. -/
namespace Go.Proofs.YtiahbicodlgmhaaGreatDoor.Sum
open Go.RowKit

theorem u32_wrap (n : Int) : IntKind.u32.wrap n = n % 4294967296 := by simp [IntKind.wrap, IntKind.bits, IntKind.signed]

theorem wraps_u32 (n : Int) (h0 : 0 ≤ n) (h1 : n < 2 ^ 32) : IntKind.u32.wrap n = n := by rw [u32_wrap]; omega

theorem u32_mask (v : Int) (n : Nat) (hn : n ≤ 32) (h0 : 0 ≤ v) (h1 : v < 4294967296) : bits .and .u32 v (2 ^ n - 1) = v % 2 ^ n :=
  bits_mask .u32 32 (by decide) wraps_u32 n hn v h0 h1

theorem u32_one (v : Int) (h0 : 0 ≤ v) (h1 : v < 4294967296) : bits .and .u32 v 1 = v % 2 := u32_mask v 1 (by decide) h0 h1

theorem take_next (ys : List Int) (k : Nat) (hk : k < ys.length) : ys.take (k + 1) = ys.take k ++ [ys.getD k 0] := by
  rw [List.take_succ_eq_append_getElem hk]
  simp [List.getD, hk]


/-- Two sums as one number. -/
def ad (s1 s2 : Int) : Int := s2 * 65536 + s1

theorem ad_low (s1 s2 : Int) (h0 : 0 ≤ s1) (h1 : s1 < 65536) (h2 : 0 ≤ s2) (h3 : s2 < 65536) : bits .and .u32 (ad s1 s2) 65535 = s1 := by
  rw [show (65535 : Int) = 2 ^ 16 - 1 from rfl, u32_mask _ 16 (by decide) (by unfold ad; omega) (by unfold ad; omega)]
  unfold ad
  omega

theorem ad_high (s1 s2 : Int) (h0 : 0 ≤ s1) (h1 : s1 < 65536) : ad s1 s2 / 65536 = s2 := by
  unfold ad
  omega

theorem ad_or (s1 s2 : Int) (h0 : 0 ≤ s1) (h1 : s1 < 65536) (h2 : 0 ≤ s2) (h3 : s2 < 65536) : bits .or .u32 (s2 * 65536) s1 = ad s1 s2 := by
  have := bits_join .u32 32 (by decide) wraps_u32 16 (s2 * 65536) s1 (by omega) (by omega) (by omega) h0 (by omega) (by omega)
  rw [this]
  rfl

set_option maxHeartbeats 1000000 in
theorem halves_any (s1 s2 : Int) (w : World) (h0 : 0 ≤ s1) (h1 : s1 < 65536) (h2 : 0 ≤ s2) (h3 : s2 < 65536) :
    Calls Tryz.prog 97 #[.int .u32 (ad s1 s2)] w fun e w' => e = .returned (.tuple #[.int .u32 s1, .int .u32 s2]) ∧ w' = w := by
  have e1 := ad_low s1 s2 h0 h1 h2 h3
  have e2 := ad_high s1 s2 h0 h1
  obtain ⟨a, ha⟩ : ∃ a, a = ad s1 s2 := ⟨_, rfl⟩
  rw [← ha] at e1 e2 ⊢
  clear ha
  go_enter Tryz.func97, Tryz.ntmps97
  go_wp2_with fail
  go_ret2
  exact ⟨rfl, rfl⟩

theorem md_nn (x : Int) : 0 ≤ x % MD ∧ x % MD < 65521 := by unfold MD; omega

theorem pl_next (s1 s2 : Int) (ys : List Int) (k : Nat) (hk : k < ys.length) : (pl s1 s2 (ys.take (k + 1))).1 = (pl s1 s2 (ys.take k)).1 + ys.getD k 0 ∧ (pl s1 s2 (ys.take (k + 1))).2 = (pl s1 s2 (ys.take k)).2 + ((pl s1 s2 (ys.take k)).1 + ys.getD k 0) := by
  rw [take_next ys k hk, pl_snoc]
  exact ⟨rfl, rfl⟩

set_option maxHeartbeats 1000000 in
theorem ramore_any (s1 s2 : Int) (ao : Option Addr) (n c : Nat) (ys : List Int) (w : World) (h0 : 0 ≤ s1) (h1 : s1 < 65521) (h2 : 0 ≤ s2) (h3 : s2 < 65521) (hr : Rd w ao n c ys) (hn : n ≤ 1000000000) :
    Calls Tryz.prog 37 #[.int .u32 (ad s1 s2), .slice ao n c] w fun e w' => e = .returned (.int .u32 (ad ((pl s1 s2 ys).1 % MD) ((pl s1 s2 ys).2 % MD))) ∧ w' = w := by
  have hlen := hr.len
  have e1 := ad_low s1 s2 h0 (by omega) h2 (by omega)
  have e2 := ad_high s1 s2 h0 (by omega)
  obtain ⟨a, ha⟩ : ∃ a, a = ad s1 s2 := ⟨_, rfl⟩
  rw [← ha] at e1 e2 ⊢
  clear ha
  go_enter Tryz.func37, Tryz.ntmps37
  go_wp2_with fail
  go_loopw [5, 6, 7] (fun x y i wr => ∃ k : Nat, k ≤ n ∧ i = .int .i64 (k : Int) ∧ x = .int .u32 ((pl s1 s2 (ys.take k)).1 % MD) ∧ y = .int .u32 ((pl s1 s2 (ys.take k)).2 % MD) ∧ wr = w) (fun _ _ i _ => (n - intOf i).toNat)
  case atStart => exact ⟨0, by omega, rfl, by simp [pl]; unfold MD; omega, by simp [pl]; unfold MD; omega, rfl⟩
  case round =>
    clear e1 e2
    obtain ⟨k, hk, rfl, rfl, rfl, hw⟩ := hrel
    subst hw
    obtain ⟨p1, hp1⟩ : ∃ p, p = (pl s1 s2 (ys.take k)).1 % MD := ⟨_, rfl⟩
    obtain ⟨p2, hp2⟩ : ∃ p, p = (pl s1 s2 (ys.take k)).2 % MD := ⟨_, rfl⟩
    have b1 := md_nn (pl s1 s2 (ys.take k)).1
    have b2 := md_nn (pl s1 s2 (ys.take k)).2
    rw [← hp1] at b1
    rw [← hp2] at b2
    rw [← hp1, ← hp2]
    by_cases hlt : k < n
    · have hlt' : (k : Int) < n := by omega
      obtain ⟨b, off, rfl, hcell⟩ := hr.plain (by omega)
      have hck := hcell k hlt
      have hyb := getD_byt ys hr.byt k
      obtain ⟨q1, q2⟩ := pl_next s1 s2 ys k (by omega)
      obtain ⟨m1, m2⟩ := mod_step (pl s1 s2 (ys.take k)).1 (pl s1 s2 (ys.take k)).2 (ys.getD k 0)
      rw [← q1, ← hp1] at m1
      rw [← hp2, ← q2, ← q1] at m2
      obtain ⟨y, hy⟩ : ∃ y, y = ys.getD k 0 := ⟨_, rfl⟩
      rw [← hy] at hck hyb m1
      have M : Hid ((p1 + y) % 65521 = (pl s1 s2 (ys.take (k + 1))).1 % MD ∧ (p2 + (pl s1 s2 (ys.take (k + 1))).1 % MD) % 65521 = (pl s1 s2 (ys.take (k + 1))).2 % MD) := ⟨m1, m2⟩
      clear hcell q1 q2 m1 m2 hy hp1 hp2
      go_wp2_with fail
      exact ⟨⟨k + 1, by omega, rfl, by rw [M.out.1], by rw [← M.out.2, ← M.out.1], trivial⟩, by simp [intOf]; omega⟩
    · have hlt' : ¬ (k : Int) < n := by omega
      have hor := ad_or p1 p2 b1.1 (by omega) b2.1 (by omega)
      have M : Hid (p1 = (pl s1 s2 ys).1 % MD ∧ p2 = (pl s1 s2 ys).2 % MD) := by
        rw [List.take_of_length_le (by omega)] at hp1 hp2
        exact ⟨hp1, hp2⟩
      clear hp1 hp2 hk hlt
      go_wp2_with fail
      go_ret
      exact ⟨by rw [← M.out.1, ← M.out.2]; rfl, rfl⟩

set_option maxHeartbeats 1000000 in
theorem radler_any (ao : Option Addr) (n c : Nat) (ys : List Int) (w : World) (hr : Rd w ao n c ys) (hn : n ≤ 1000000000) :
    Calls Tryz.prog 22 #[.slice ao n c] w fun e w' => e = .returned (.int .u32 (ad ((pl 1 0 ys).1 % MD) ((pl 1 0 ys).2 % MD))) ∧ w' = w := by
  have HR : Hid (Rd w ao n c ys) := hr
  clear hr
  go_enter Tryz.func22, Tryz.ntmps22
  go_wp2_with fail
  refine (ramore_any 1 0 ao n c ys w (by omega) (by omega) (by omega) (by omega) HR.out hn).mono ?_
  rintro e w1 ⟨rfl, b1⟩
  subst b1
  go_wp2_with fail
  go_ret
  exact ⟨rfl, rfl⟩

def slen : Value → Nat
  | .slice _ n _ => n
  | _ => 0

theorem slen_ok (a : Option Addr) (n c : Nat) : slen (.slice a n c) = n := rfl

theorem wpList_min {ops : Array Oper} {rest : List Oper} {op : Oper} {a : Act} {w : World} {Q : Exit → Act → World → Prop} (hgd : op.guard = none) (x y : Operand) (ho : op.op = .call { callee := .builtin .min, args := #[x, y], argTypes := #[3, 3] })
    (p q : Int) (hx : a.eval x = .int .i64 p) (hy : a.eval y = .int .i64 q) (ht : op.type = 3) (r : Int) (hr : r = min p q)
    (hk : wpList Tryz.prog ops Q rest (a.put op.dst (.int .i64 r)) w) : wpList Tryz.prog ops Q (op :: rest) a w := by
  refine wpList_plain hgd fun K hK => ?_
  have hk' := hK _ _ hk
  subst hr
  unfold Oper.wp
  have hm : (Builtin.min2 (.int .i64 p) (.int .i64 q)).run Tryz.prog w = .ok (.int .i64 (min p q)) w := by
    by_cases h : p < q
    · rw [show min p q = p by omega]
      simp [Builtin.min2, go_sem]; omega
    · rw [show min p q = q by omega]
      simp [Builtin.min2, go_sem]; omega
  simp [execOp, ho, resolve, invoke, builtin, hx, hy, ht, Builtin.min_, hm, Result.andThen]
  exact hk'

/-- A run's bounds. -/
theorem run_bound (zs : List Int) (hb : ∀ x ∈ zs, 0 ≤ x ∧ x < 256) (hl : zs.length ≤ 5552) (a1 a2 : Int) (h1 : 0 ≤ a1 ∧ a1 < 65521) (h2 : 0 ≤ a2 ∧ a2 < 65521) (k : Nat) :
    0 ≤ (pl a1 a2 (zs.take k)).1 ∧ (pl a1 a2 (zs.take k)).1 < 1500000 ∧ 0 ≤ (pl a1 a2 (zs.take k)).2 ∧ (pl a1 a2 (zs.take k)).2 < 4294700000 := by
  obtain ⟨i1, i2, i3, i4⟩ := pl_bound (zs.take k) (fun x hx => hb x (List.mem_of_mem_take hx)) a1 a2 h1.1 h2.1
  have hm : ((zs.take k).length : Int) ≤ 5552 := by simp; omega
  have hm0 : (0 : Int) ≤ ((zs.take k).length : Int) := by omega
  generalize ((zs.take k).length : Int) = m at i2 i4 hm hm0
  refine ⟨i1, by omega, i3, ?_⟩
  have e1 : m * a1 ≤ 5552 * 65520 := Int.mul_le_mul hm (by omega) h1.1 (by omega)
  have e2 : m * m ≤ 5552 * 5552 := Int.mul_le_mul hm hm hm0 (by omega)
  omega

set_option maxRecDepth 100000 in
set_option maxHeartbeats 4000000 in
theorem amore_any (s1 s2 : Int) (ao : Option Addr) (n c : Nat) (ys : List Int) (w : World) (h0 : 0 ≤ s1) (h1 : s1 < 65521) (h2 : 0 ≤ s2) (h3 : s2 < 65521) (hr : Rd w ao n c ys) (hn : n ≤ 1000000000) :
    Calls Tryz.prog 65 #[.int .u32 (ad s1 s2), .slice ao n c] w fun e w' => e = .returned (.int .u32 (ad ((pl s1 s2 ys).1 % MD) ((pl s1 s2 ys).2 % MD))) ∧ w' = w := by
  have HL : Hid (ys.length = n ∧ Rd w ao n c ys) := ⟨hr.len, hr⟩
  have HA : Hid (0 ≤ s1 ∧ s1 < 65521 ∧ 0 ≤ s2 ∧ s2 < 65521) := ⟨h0, h1, h2, h3⟩
  obtain ⟨a, ha⟩ : ∃ a, a = ad s1 s2 := ⟨_, rfl⟩
  rw [← ha]
  have HH : Hid (a = ad s1 s2) := ha
  clear ha hr h0 h1 h2 h3
  go_enter Tryz.func65, Tryz.ntmps65
  go_wp2_with fail
  have hv := halves_any s1 s2 w HA.out.1 (by have := HA.out; omega) HA.out.2.2.1 (by have := HA.out; omega)
  rw [← HH.out] at hv
  refine hv.mono ?_
  rintro e w1 ⟨rfl, hw⟩
  subst hw
  clear hv
  go_wp2_with fail
  go_loopw [1, 5, 6, 7, 9] (fun b x y _ _ wr => ∃ (p : Nat) (ao' : Option Addr) (n' c' : Nat), b = .slice ao' n' c' ∧ p + n' = n ∧ Rd w1 ao' n' c' (ys.drop p) ∧ x = .int .u32 ((pl s1 s2 (ys.take p)).1 % MD) ∧ y = .int .u32 ((pl s1 s2 (ys.take p)).2 % MD) ∧ wr = w1) (fun b _ _ _ _ _ => slen b)
  case atStart =>
    have := HA.out
    exact ⟨0, ao, n, c, rfl, by omega, by simpa using HL.out.2, by simp [pl]; unfold MD; omega, by simp [pl]; unfold MD; omega, rfl⟩
  case round =>
    obtain ⟨p, ao', n', c', rfl, hpn, hrd, rfl, rfl, hw⟩ := hrel
    subst hw
    obtain ⟨a1, ha1⟩ : ∃ p', p' = (pl s1 s2 (ys.take p)).1 % MD := ⟨_, rfl⟩
    obtain ⟨a2, ha2⟩ : ∃ p', p' = (pl s1 s2 (ys.take p)).2 % MD := ⟨_, rfl⟩
    have b1 := md_nn (pl s1 s2 (ys.take p)).1
    have b2 := md_nn (pl s1 s2 (ys.take p)).2
    rw [← ha1] at b1
    rw [← ha2] at b2
    rw [← ha1, ← ha2]
    by_cases hn0 : 0 < n'
    · have hn0' : (0 : Int) < n' := by omega
      obtain ⟨m, hm⟩ : ∃ m, m = min n' 5552 := ⟨_, rfl⟩
      have hmi : min (n' : Int) 5552 = (m : Int) := by omega
      have HM : Hid (m ≤ n' ∧ m ≤ 5552 ∧ 0 < m ∧ p + n' = n ∧ a1 = (pl s1 s2 (ys.take p)).1 % MD ∧ a2 = (pl s1 s2 (ys.take p)).2 % MD) := ⟨by omega, by omega, by omega, hpn, ha1, ha2⟩
      clear hm ha1 ha2 hpn
      go_wp2_with (first
        | (refine wpList_min rfl _ _ rfl (n' : Int) 5552 rfl rfl rfl (m : Int) hmi.symm ?_)
        | (refine wpList_sub rfl _ _ _ rfl hrd 0 m (by have := HM.out; omega) rfl (.inr ⟨rfl, rfl⟩) (.inl (by rw [Nat.zero_add]; rfl)) ?_; intro ao2 c2 hr2 hs2))
      rw [List.drop_zero] at hr2
      obtain ⟨zs, hzs⟩ : ∃ zs, zs = (ys.drop p).take m := ⟨_, rfl⟩
      rw [← hzs] at hr2
      have hzl := hr2.len
      have HZ : Hid (zs = (ys.drop p).take m ∧ zs.length = m) := ⟨hzs, hzl⟩
      have HRB : Hid (∀ k, 0 ≤ (pl a1 a2 (zs.take k)).1 ∧ (pl a1 a2 (zs.take k)).1 < 1500000 ∧ 0 ≤ (pl a1 a2 (zs.take k)).2 ∧ (pl a1 a2 (zs.take k)).2 < 4294700000) := run_bound zs hr2.byt (by have := HM.out; omega) a1 a2 b1 b2
      have hm9 : m ≤ 5552 := HM.out.2.1
      clear hzs hs2 hmi hzl
      go_loopw [5, 6, 9, 25] (fun x y _ i wx => ∃ j : Nat, j ≤ m ∧ i = .int .i64 (j : Int) ∧ x = .int .u32 (pl a1 a2 (zs.take j)).1 ∧ y = .int .u32 (pl a1 a2 (zs.take j)).2 ∧ wx = wr) (fun _ _ _ i _ => (m - intOf i).toNat)
      case atStart => exact ⟨0, by omega, rfl, by simp [pl], by simp [pl], rfl⟩
      case round =>
        obtain ⟨j, hj, rfl, rfl, rfl, hw⟩ := hrel
        subst hw
        obtain ⟨P1, hP1⟩ : ∃ q, q = (pl a1 a2 (zs.take j)).1 := ⟨_, rfl⟩
        obtain ⟨P2, hP2⟩ : ∃ q, q = (pl a1 a2 (zs.take j)).2 := ⟨_, rfl⟩
        have bb := HRB.out j
        rw [← hP1, ← hP2] at bb
        rw [← hP1, ← hP2]
        obtain ⟨c1, c2', c3, c4⟩ := bb
        by_cases hlt : j < m
        · have hlt' : (j : Int) < m := by omega
          obtain ⟨b, off, rfl, hcell⟩ := hr2.plain (by omega)
          have hck := hcell j hlt
          have hyb := getD_byt zs hr2.byt j
          have bn := HRB.out (j + 1)
          obtain ⟨q1, q2⟩ := pl_next a1 a2 zs j (by have := HZ.out; omega)
          rw [q1, q2, ← hP1, ← hP2] at bn
          rw [← hP1] at q1
          rw [← hP1, ← hP2] at q2
          obtain ⟨y, hy⟩ : ∃ y, y = zs.getD j 0 := ⟨_, rfl⟩
          rw [← hy] at hck hyb bn q1 q2
          have bn1 : P1 + y < 4294967296 := by omega
          have bn2 : P2 + (P1 + y) < 4294967296 := by omega
          have M : Hid ((pl a1 a2 (zs.take (j + 1))).1 = P1 + y ∧ (pl a1 a2 (zs.take (j + 1))).2 = P2 + (P1 + y)) := ⟨q1, q2⟩
          clear hcell q1 q2 hy hP1 hP2 bn
          go_wp2_with fail
          exact ⟨⟨j + 1, by omega, rfl, by rw [M.out.1], by rw [M.out.2], trivial⟩, by simp [intOf]; omega⟩
        · have hlt' : ¬ (j : Int) < m := by omega
          have M : Hid (P1 % 65521 = (pl s1 s2 (ys.take (p + m))).1 % MD ∧ P2 % 65521 = (pl s1 s2 (ys.take (p + m))).2 % MD) := by
            obtain ⟨z1, z2⟩ := HZ.out
            obtain ⟨m1, m2, m3, m4, m5, m6⟩ := HM.out
            rw [List.take_of_length_le (by omega)] at hP1 hP2
            obtain ⟨k1, k2⟩ := pl_mod (pl s1 s2 (ys.take p)).1 (pl s1 s2 (ys.take p)).2 zs
            rw [← m5, ← m6, ← hP1, ← pl_app, z1, ← List.take_add] at k1
            rw [← m5, ← m6, ← hP2, ← pl_app, z1, ← List.take_add] at k2
            exact ⟨k1, k2⟩
          clear hP1 hP2 hj hlt HRB hr2
          have hmn : m ≤ n' := HM.out.1
          go_wp2_with (first
            | (refine wpList_sub rfl _ _ _ rfl hrd m (n' - m) (by omega) rfl (.inl rfl) (.inr ⟨rfl, by omega⟩) ?_; intro ao3 c3' hr3 hs3))
          rw [List.drop_drop, List.take_of_length_le (by have := HL.out.1; have := HM.out; simp; omega)] at hr3
          have := HM.out
          exact ⟨⟨p + m, ao3, n' - m, c3', rfl, by omega, hr3, by rw [← M.out.1], by rw [← M.out.2], trivial⟩, by rw [slen_ok, slen_ok]; omega⟩
    · have hn0' : ¬ (0 : Int) < n' := by omega
      have hor := ad_or a1 a2 b1.1 (by omega) b2.1 (by omega)
      have M : Hid (a1 = (pl s1 s2 ys).1 % MD ∧ a2 = (pl s1 s2 ys).2 % MD) := by
        rw [List.take_of_length_le (by have := HL.out.1; omega)] at ha1 ha2
        exact ⟨ha1, ha2⟩
      clear ha1 ha2 hn0 hpn
      go_wp2_with fail
      go_ret
      exact ⟨by rw [← M.out.1, ← M.out.2]; rfl, rfl⟩

set_option maxHeartbeats 1000000 in
theorem adler_any (ao : Option Addr) (n c : Nat) (ys : List Int) (w : World) (hr : Rd w ao n c ys) (hn : n ≤ 1000000000) :
    Calls Tryz.prog 36 #[.slice ao n c] w fun e w' => e = .returned (.int .u32 (ad ((pl 1 0 ys).1 % MD) ((pl 1 0 ys).2 % MD))) ∧ w' = w := by
  have HR : Hid (Rd w ao n c ys) := hr
  clear hr
  go_enter Tryz.func36, Tryz.ntmps36
  go_wp2_with fail
  refine (amore_any 1 0 ao n c ys w (by omega) (by omega) (by omega) (by omega) HR.out hn).mono ?_
  rintro e w1 ⟨rfl, b1⟩
  subst b1
  go_wp2_with fail
  go_ret
  exact ⟨rfl, rfl⟩

end Go.Proofs.YtiahbicodlgmhaaGreatDoor.Sum

/- slices.Grow, slices.Concat of bytes; bytes.Equal; the frame's head and sum. -/
namespace Go.Proofs.YtiahbicodlgmhaaGreatDoor.Z
open Go.RowKit

theorem wpList_append_b {w : World} {ops : Array Oper} {rest : List Oper} {o : Oper} {a : Act} {Q : Exit → Act → World → Prop} (hgd : o.guard = none) (s x : Operand)
    (ho : o.op = .call { callee := .builtin .append, args := #[s, x], argTypes := #[22, 22] })
    (base n : Nat) (v : Value) (xs : List Value) (hs : a.eval s = v) (hown : w.ownsRow base 5 1 v n xs)
    (ao : Option Addr) (m c : Nat) (ys : List Int) (hx : a.eval x = .slice ao m c) (hr : Rd w ao m c ys) (hlim : n + m ≤ 1000000000) (hbase : base ≤ w.heap.size)
    (h : ∀ v' w', w'.ownsRow base 5 1 v' (n + m) (xs ++ ys.map (Value.int .u8)) → w.grownBy w' v.ownBlock → wpList Tryz.prog ops Q rest (a.put o.dst v') w') :
    wpList Tryz.prog ops Q (o :: rest) a w := by
  obtain ⟨i0, hi, hz0, hz1, hz2⟩ := info_parts Tryz.info5
  cases ao with
  | none =>
    obtain ⟨rfl, rfl⟩ := hr.nul rfl
    have hy : ys = [] := List.eq_nil_of_length_eq_zero hr.len
    subst hy
    refine wpList_append_own_none hgd s x 22 ho base 5 i0 1 Tryz.underlying22 hi _ n _ hs hown hx ?_
    exact h v w (by simpa using hown) (World.grownBy.refl _ _)
  | some ad =>
    refine wpList_append_own w hgd s x 22 ho base 5 i0 (.int .u8 0) 1 1 Tryz.underlying22 hi hz0 hz1 hz2 rfl (by decide) _ n _ hs hown ad m c (ys.map (Value.int .u8)) hx (by rw [List.length_map, hr.len]; omega) (hr.cellsOf ad rfl) (by intro u hu; obtain ⟨y, _, rfl⟩ := List.mem_map.1 hu; rfl)
      (by unfold maxLen; omega) (by omega) hbase ?_
    intro v' w' h1 h2 h3
    exact h v' w' (by simpa using h1) h2

theorem grow_b (n : Nat) (w : World) (h0 : 0 < n) (hn : n ≤ 1000000) :
    Calls Tryz.prog 55 #[.slice none 0 0, .int .i64 n] w fun e w' => ∃ v, e = .returned v ∧ w'.ownsRow w.heap.size 5 1 v 0 [] ∧ Below w.heap.size w w' := by
  obtain ⟨i0, hi, hz0, hz1, hz2⟩ := info_parts Tryz.info5
  have d1 : decide ((n : Int) < 0) = false := by simp
  have d2 : decide ((0 : Int) < (n : Int)) = true := by simp; omega
  have hrun := Lib.run_append_nil_zeros (P := Tryz.prog) w 22 3 22 5 i0 (.int .u8 0) .i64 .i64 Tryz.underlying22 Tryz.underlying3 hi hz0 n h0 (by omega) (by omega) (by rw [hz2]; omega)
  go_enter Tryz.func55, Tryz.ntmps55
  go_wp2_with (at_builtin; refine Lib.wpList_append_run _ rfl _ _ _ _ rfl _ _ rfl rfl _ _ hrun ?_)
  go_ret
  refine ⟨_, rfl, World.ownsRow_made w _ _ (Nat.le_refl _) (grownCap_le_maxLen w n 0 5 (by unfold maxLen; omega)) ?_, ((Below.refl _ _).alloc (Nat.le_refl _) _).drew⟩
  have hge := grownCap_ge w n 0 5
  simp only [Array.size_append, size_zeroCells]
  simp
  omega

/-- All of the first k rows. -/
def cb (L : Nat → List Int) : Nat → List Int
  | 0 => []
  | k + 1 => cb L k ++ L k

set_option maxRecDepth 100000 in
set_option maxHeartbeats 1000000 in
theorem concat_b (R m : Nat) (ao : Nat → Option Addr) (n c : Nat → Nat) (L : Nat → List Int) (w : World) (hr : ∀ j, j < m → Rd w (ao j) (n j) (c j) (L j)) (hm : m ≤ 1000) (h0 : 0 < tm n m) (hn : tm n m ≤ 1000000)
    (hk : ∀ j, j < m → w.cell? ⟨R, j, none⟩ = some (.slice (ao j) (n j) (c j))) :
    Calls Tryz.prog 31 #[.slice (some ⟨R, 0, none⟩) m m] w fun e w' => ∃ v, e = .returned v ∧ w'.ownsRow w.heap.size 5 1 v (tm n m) ((cb L m).map (Value.int .u8)) ∧ Below w.heap.size w w' := by
  have HR : Hid (∀ j, j < m → Rd w (ao j) (n j) (c j) (L j)) := hr
  have HT : Hid (∀ k, k < m → tm n k + n k ≤ 1000000) := fun k hk' => by have := tm_mono n (k + 1) m (by omega); simp only [tm] at this; omega
  have HK : Hid (∀ j, j < m → w.cell? ⟨R, j, none⟩ = some (.slice (ao j) (n j) (c j))) := hk
  clear hr hk
  go_enter Tryz.func31, Tryz.ntmps31
  go_wp2
  go_loop [3, 5, 11] (fun sv _ iv => ∃ k : Nat, k ≤ m ∧ iv = .int .i64 k ∧ sv = .int .i64 (tm n k)) (fun _ _ iv => m - (intOf iv).toNat)
  case atStart => exact ⟨0, by omega, rfl, rfl⟩
  case round =>
    obtain ⟨k, hkm, rfl, rfl⟩ := hrel
    by_cases hlt : k < m
    · have ck := HK.out k hlt
      have ht := HT.out k hlt
      have q1 : decide (((tm n k : Nat) : Int) + ((n k : Nat) : Int) < 0) = false := by simp; omega
      have E : Hid (tm n (k + 1) = tm n k + n k) := rfl
      generalize n k = nk at *
      generalize tm n k = tk at *
      go_wp2
      go_round
      case rel => exact ⟨k + 1, by omega, by go_num, by rw [E.out]; go_num⟩
      case measure => simp [intOf]; omega
    · obtain rfl : k = m := by omega
      obtain ⟨N, hN⟩ : ∃ N, N = tm n k := ⟨_, rfl⟩
      rw [← hN] at h0 hn ⊢
      have HN : Hid (N = tm n k) := hN
      clear hN hlt
      go_wp2_with fail
      refine (grow_b N w h0 hn).mono ?_
      rintro e w1 ⟨v1, rfl, o1, b1⟩
      have O1 : Hid (w1.ownsRow w.heap.size 5 1 v1 0 []) := o1
      have B1 : Hid (Below w.heap.size w w1) := b1
      clear o1 b1
      go_wp2
      go_loopw [6, 8, 27] (fun rv _ iv wr => ∃ (v : Value) (j : Nat), rv = v ∧ j ≤ k ∧ iv = .int .i64 j ∧ Hid (Below w.heap.size w wr) ∧ Hid (wr.ownsRow w.heap.size 5 1 v (tm n j) ((cb L j).map (Value.int .u8)))) (fun _ _ iv _ => k - (intOf iv).toNat)
      case atStart => exact ⟨v1, 0, rfl, by omega, rfl, B1, O1⟩
      case round =>
        clear B1 O1
        obtain ⟨v, j, rfl, hj, rfl, BW, OW⟩ := hrel
        by_cases hlt : j < k
        · have ht := HT.out j hlt
          have c0 : wr.cell? ⟨R, j, none⟩ = some (.slice (ao j) (n j) (c j)) := (BW.out.cell (World.block_lt_of_cell? w _ (HK.out j hlt))).trans (HK.out j hlt)
          go_wp2_with (refine wpList_append_b rfl _ _ rfl w.heap.size (tm n j) _ ((cb L j).map (Value.int .u8)) rfl OW.out (ao j) (n j) (c j) (L j) rfl ((HR.out j hlt).keep BW.out) (by omega) BW.out.size ?_; intro v5 w5 o5 g5)
          have o5' : Hid (w5.ownsRow w.heap.size 5 1 v5 (tm n (j + 1)) ((cb L (j + 1)).map (Value.int .u8))) := by
            show World.ownsRow _ _ _ _ _ _ _
            simp only [cb, tm, List.map_append]
            exact o5
          have b5 : Hid (Below w.heap.size w w5) := BW.out.grown g5 BW.out.size (fun q hq => (OW.out.lt q hq).1)
          clear o5 g5 OW BW c0 ht
          go_wp2_with fail
          go_roundw
          case rel => exact ⟨v5, j + 1, rfl, by omega, by go_num, b5, o5'⟩
          case measure => simp [intOf]; omega
        · obtain rfl : j = k := by omega
          clear hlt
          go_wp2
          go_ret
          exact ⟨_, rfl, by rw [HN.out]; exact OW.out, BW.out⟩

theorem isHead_yes (w : World) : Calls Tryz.prog 19 #[.int .i64 120, .int .i64 156] w fun e w' => e = .returned (.bool true) ∧ w' = w := by
  go_enter Tryz.func19, Tryz.ntmps19
  go_wp2
  go_ret
  exact ⟨rfl, rfl⟩

/-- A sum's four bytes. -/
def su4 (v : Int) : List Int := [v / 16777216 % 256, v / 65536 % 256, v / 256 % 256, v % 256]
/-- Adler's sum. -/
def adl (ys : List Int) : Int := Sum.ad ((Sum.pl 1 0 ys).1 % Sum.MD) ((Sum.pl 1 0 ys).2 % Sum.MD)

end Go.Proofs.YtiahbicodlgmhaaGreatDoor.Z

/- sumOf, bytes.Equal, Pack. -/
namespace Go.Proofs.YtiahbicodlgmhaaGreatDoor.Z
open Go.RowKit

theorem adl_bound (ys : List Int) : 0 ≤ adl ys ∧ adl ys < 4294967296 := by
  unfold adl Sum.ad Sum.MD
  omega

theorem su4_byt (v : Int) : ∀ x ∈ su4 v, 0 ≤ x ∧ x < 256 := by
  intro x hx
  simp only [su4, List.mem_cons, List.not_mem_nil, or_false] at hx
  omega

theorem rd_new {w : World} {a : Array Value} {n : Nat} {xs : List Int} (h : a = (xs.map (Value.int .u8)).toArray) (hl : xs.length = n) (hb : ∀ x ∈ xs, 0 ≤ x ∧ x < 256) : Rd (w.alloc (.cells a 5)) (some ⟨w.heap.size, 0, none⟩) n n xs := by
  refine ⟨hl, Nat.le_refl _, (fun e => by cases e), fun ad had j hj => ?_, hb⟩
  cases had
  rw [Addr.add_lit, Nat.zero_add]
  have hr := World.rowIs_alloc w a 5 (fun j => .int .u8 (xs.getD j 0)) (fun i hi => by
    subst h
    simp at hi
    simp [hi])
  exact hr.cell (i := j) (by subst h; simp; omega)

set_option maxRecDepth 100000 in
theorem sumOf_any (ao : Option Addr) (n c : Nat) (ys : List Int) (w : World) (hr : Rd w ao n c ys) (hn : n ≤ 1000000000) :
    Calls Tryz.prog 21 #[.slice ao n c] w fun e w' => e = .returned (.slice (some ⟨w.heap.size, 0, none⟩) 4 4) ∧ Rd w' (some ⟨w.heap.size, 0, none⟩) 4 4 (su4 (adl ys)) ∧ Below w.heap.size w w' := by
  have had := Sum.adler_any ao n c ys w hr hn
  obtain ⟨b0, b1⟩ := adl_bound ys
  change Calls Tryz.prog 36 #[.slice ao n c] w fun e w' => e = .returned (.int .u32 (adl ys)) ∧ w' = w at had
  obtain ⟨v, hv⟩ : ∃ v, v = adl ys := ⟨_, rfl⟩
  rw [← hv] at had b0 b1 ⊢
  clear hr hv
  go_enter Tryz.func21, Tryz.ntmps21
  go_wp2_with (go_at_call 36; refine had.mono ?_; rintro e w1 ⟨rfl, hw⟩; subst w1)
  go_ret
  refine ⟨rfl, rd_new ?_ rfl (su4_byt v), (Below.refl _ _).alloc (Nat.le_refl _) _⟩
  have e : v / 16777216 % 256 = v / 16777216 := by omega
  simp [su4, e]

theorem str22 {w : World} {ao : Option Addr} {n c : Nat} {xs : List Int} (h : Rd w ao n c xs) : (convert 22 9 (.slice ao n c)).run Tryz.prog w = .ok (.string (strOfNums xs)) w := by
  cases ao with
  | none =>
    obtain ⟨rfl, rfl⟩ := h.nul rfl
    have hx : xs = [] := List.eq_nil_of_length_eq_zero h.len
    subst hx
    rw [run_convert_bytes_nil w 22 5 Tryz.underlying22 Tryz.underlying5 0 0 9 Tryz.underlying9]
    rfl
  | some ad =>
    have hl : (loadCells ad n).run Tryz.prog w = .ok (xs.map (Value.int .u8)).toArray w := by
      have := run_loadCells_list (P := Tryz.prog) w ad (xs.map (Value.int .u8)) (h.cellsOf ad rfl)
      simpa [h.len] using this
    rw [run_convert_bytes_string w 22 9 5 _ n c Tryz.underlying22 Tryz.underlying5 Tryz.underlying9, run_bytesToString w _ n c xs hl, foldl_push_bytes]
    simp [strOfNums, ByteArray.empty, ByteArray.emptyWithCapacity]
    rfl

theorem equal_yes (ao : Option Addr) (n c : Nat) (bo : Option Addr) (m d : Nat) (xs : List Int) (w : World) (h : Rd w ao n c xs) (k : Rd w bo m d xs) :
    Calls Tryz.prog 20 #[.slice ao n c, .slice bo m d] w fun e w' => e = .returned (.bool true) ∧ Below w.heap.size w w' := by
  have q1 := str22 h
  have q2 := str22 k
  clear h k
  go_enter Tryz.func20, Tryz.ntmps20
  go_wp2_with fail
  go_ret
  exact ⟨rfl, Below.refl _ _⟩

end Go.Proofs.YtiahbicodlgmhaaGreatDoor.Z

/- Pack. -/
namespace Go.Proofs.YtiahbicodlgmhaaGreatDoor.Z
open Go.RowKit

theorem concat3 (W : World) (a0 a1 a2 : Option Addr) (n0 c0 n1 c1 n2 c2 : Nat) (x0 x1 x2 : List Int) (h0 : Rd W a0 n0 c0 x0) (h1 : Rd W a1 n1 c1 x1) (h2 : Rd W a2 n2 c2 x2) (hp : 0 < n0) (hn : n0 + n1 + n2 ≤ 1000000) :
    Calls Tryz.prog 31 #[.slice (some ⟨W.heap.size, 0, none⟩) 3 3] (W.alloc (Obj.cells #[.slice a0 n0 c0, .slice a1 n1 c1, .slice a2 n2 c2] 22)) fun e w' => ∃ v, e = .returned v ∧ w'.ownsRow W.heap.size 5 1 v (n0 + n1 + n2) ((x0 ++ x1 ++ x2).map (Value.int .u8)) ∧ Below W.heap.size W w' := by
  have bA : Below W.heap.size W (W.alloc (Obj.cells #[.slice a0 n0 c0, .slice a1 n1 c1, .slice a2 n2 c2] 22)) := (Below.refl _ _).alloc (Nat.le_refl _) _
  have hc := concat_b W.heap.size 3 (fun j => if j = 0 then a0 else if j = 1 then a1 else a2) (fun j => if j = 0 then n0 else if j = 1 then n1 else n2) (fun j => if j = 0 then c0 else if j = 1 then c1 else c2) (fun j => if j = 0 then x0 else if j = 1 then x1 else x2) (W.alloc (Obj.cells #[.slice a0 n0 c0, .slice a1 n1 c1, .slice a2 n2 c2] 22))
    (fun j hj => by
      rcases j with _ | _ | _ | j
      · exact h0.keep bA
      · exact h1.keep bA
      · exact h2.keep bA
      · omega) (by omega) (by simp [tm]; omega) (by simp [tm]; omega)
    (fun j hj => by
      have hr := World.rowIs_alloc W #[.slice a0 n0 c0, .slice a1 n1 c1, .slice a2 n2 c2] 22 (fun j => if j = 0 then .slice a0 n0 c0 else if j = 1 then .slice a1 n1 c1 else .slice a2 n2 c2) (fun i hi => by simp at hi; rcases i with _ | _ | _ | i <;> first | rfl | omega)
      have := hr.cell (i := j) (by simp; omega)
      rw [this]
      rcases j with _ | _ | _ | j <;> first | rfl | omega)
  refine hc.mono ?_
  rintro e w' ⟨v, rfl, o, b⟩
  have e1 : tm (fun j => if j = 0 then n0 else if j = 1 then n1 else n2) 3 = n0 + n1 + n2 := by simp [tm]
  have e2 : cb (fun j => if j = 0 then x0 else if j = 1 then x1 else x2) 3 = x0 ++ x1 ++ x2 := by simp [cb]
  rw [e1, e2] at o
  exact ⟨v, rfl, ownsRow_base o bA.size, bA.trans (b.mono bA.size)⟩

/-- A frame's bytes. -/
def pkF (F : List Fd) (bs : List Int) : List Int := [120, 156] ++ byF F ++ su4 (adl bs)

set_option maxRecDepth 100000 in
set_option maxHeartbeats 4000000 in
theorem pack_any (da : Option Addr) (N dc : Nat) (bs : List Int) (eff : Int) (w : World) (hr : Rd w da N dc bs) (hN : N ≤ 16384) (he : eff < 9223372036854775808) (hT : Tab w 1) :
    Calls Tryz.prog 14 #[.slice da N dc, .int .i64 eff] w fun e w' => ∃ v F, e = .returned v ∧ Dd bs eff N F ∧ w'.ownsRow w.heap.size 5 1 v (2 + (fb F + 7) / 8 + 4) ((pkF F bs).map (Value.int .u8)) ∧ Below w.heap.size w w' := by
  have hdf : ∀ W, Below w.heap.size w W → Calls Tryz.prog 11 #[.slice da N dc, .int .i64 eff] W fun e w' => ∃ ao c F, e = .returned (.slice ao ((fb F + 7) / 8) c) ∧ Dd bs eff N F ∧ Rd w' ao ((fb F + 7) / 8) c (byF F) ∧ Below W.heap.size W w' := fun W hW => by
    refine (deflate_any da N dc bs eff W (hr.keep hW) hN he (tab_keep hT hW)).mono ?_
    rintro e w' ⟨v, F, rfl, hd, ho, hb⟩
    obtain ⟨ao, c, rfl, hrd, _⟩ := Lzz.own_rd ho (by8_byt _ _)
    exact ⟨ao, c, F, rfl, hd, hrd, hb⟩
  have hsm : ∀ W, Below w.heap.size w W → Calls Tryz.prog 21 #[.slice da N dc] W fun e w' => e = .returned (.slice (some ⟨W.heap.size, 0, none⟩) 4 4) ∧ Rd w' (some ⟨W.heap.size, 0, none⟩) 4 4 (su4 (adl bs)) ∧ Below W.heap.size W w' := fun W hW => sumOf_any da N dc bs W (hr.keep hW) (by omega)
  have b1 : Below w.heap.size w (w.alloc (Obj.cells #[Value.int .u8 120, Value.int .u8 156] 5)) := (Below.refl _ _).alloc (Nat.le_refl _) _
  have r1 : Rd (w.alloc (Obj.cells #[Value.int .u8 120, Value.int .u8 156] 5)) (some ⟨w.heap.size, 0, none⟩) 2 2 [120, 156] := rd_new rfl rfl (by decide)
  have hd1 := hdf _ b1
  have HB1 : Hid (Below w.heap.size w (w.alloc (Obj.cells #[Value.int .u8 120, Value.int .u8 156] 5))) := b1
  have HR1 : Hid (Rd (w.alloc (Obj.cells #[Value.int .u8 120, Value.int .u8 156] 5)) (some ⟨w.heap.size, 0, none⟩) 2 2 [120, 156]) := r1
  clear hr hT hdf b1 r1
  go_enter Tryz.func14, Tryz.ntmps14
  go_wp2_with fail
  refine hd1.mono ?_
  rintro e w2 ⟨ao, c, F, rfl, hd, hrd, hb2⟩
  have b2 := HB1.out.trans (hb2.mono HB1.out.size)
  have r2 := HR1.out.keep hb2
  have hs2 := hsm w2 b2
  have HR2 : Hid (Rd w2 (some ⟨w.heap.size, 0, none⟩) 2 2 [120, 156]) := r2
  have HRD : Hid (Rd w2 ao ((fb F + 7) / 8) c (byF F)) := hrd
  have HB2 : Hid (Below w.heap.size w w2) := b2
  have HDD : Hid (Dd bs eff N F) := hd
  clear hd1 hsm HB1 HR1 hd hrd hb2 b2 r2
  go_wp2_with fail
  refine hs2.mono ?_
  rintro e w3 ⟨rfl, hrs, hb3⟩
  have hle := HDD.out.le
  have hss : ssz N ≤ 20000 := by unfold ssz nck; omega
  have hc3 := concat3 w3 (some ⟨w.heap.size, 0, none⟩) ao (some ⟨w2.heap.size, 0, none⟩) 2 2 ((fb F + 7) / 8) c 4 4 [120, 156] (byF F) (su4 (adl bs)) (HR2.out.keep hb3) (HRD.out.keep hb3) hrs (by omega) (by omega)
  have HB3 : Hid (Below w.heap.size w w3) := HB2.out.trans (hb3.mono HB2.out.size)
  clear hs2 hrs hb3 hle hss
  go_wp2_with (go_at_call 31; refine hc3.mono ?_; rintro e w4 ⟨v, rfl, o4, b4⟩)
  go_ret
  exact ⟨v, F, rfl, HDD.out, ownsRow_base o4 HB3.out.size, HB3.out.trans (b4.mono HB3.out.size)⟩

end Go.Proofs.YtiahbicodlgmhaaGreatDoor.Z
