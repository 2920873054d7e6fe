/- Adler-32: the program's, the document's. -/
import Derived.Test.YtlollkkhogofoaaWCrc
namespace Go.Proofs.Ytlollkkhogofoaa
open Go.RowKit

/-- Two sums as one number. -/
def ad (s1 s2 : Int) : Int := s2 * 65536 + s1

theorem ad_low (s1 s2 : Int) (h0 : 0 ≤ s1) (h1 : s1 < 65536) (h2 : 0 ≤ s2) (h3 : s2 < 65536) : bits .and .u32 (ad s1 s2) 65535 = s1 := by
  rw [show (65535 : Int) = 2 ^ 16 - 1 from rfl, u32_mask _ 16 (by decide) (by unfold ad; omega) (by unfold ad; omega)]
  unfold ad
  omega

theorem ad_high (s1 s2 : Int) (h0 : 0 ≤ s1) (h1 : s1 < 65536) : ad s1 s2 / 65536 = s2 := by
  unfold ad
  omega

theorem ad_or (s1 s2 : Int) (h0 : 0 ≤ s1) (h1 : s1 < 65536) (h2 : 0 ≤ s2) (h3 : s2 < 65536) : bits .or .u32 (s2 * 65536) s1 = ad s1 s2 := by
  have := bits_join .u32 32 (by decide) wraps_u32 16 (s2 * 65536) s1 (by omega) (by omega) (by omega) h0 (by omega) (by omega)
  rw [this]
  rfl

set_option maxHeartbeats 1000000 in
theorem halves_any (s1 s2 : Int) (w : World) (h0 : 0 ≤ s1) (h1 : s1 < 65536) (h2 : 0 ≤ s2) (h3 : s2 < 65536) :
    Calls Try.prog 21 #[.int .u32 (ad s1 s2)] w fun e w' => e = .returned (.tuple #[.int .u32 s1, .int .u32 s2]) ∧ w' = w := by
  have e1 := ad_low s1 s2 h0 h1 h2 h3
  have e2 := ad_high s1 s2 h0 h1
  obtain ⟨a, ha⟩ : ∃ a, a = ad s1 s2 := ⟨_, rfl⟩
  rw [← ha] at e1 e2 ⊢
  clear ha
  go_enter Try.func21, Try.ntmps21
  go_wp2_with fail
  go_ret2
  exact ⟨rfl, rfl⟩

theorem md_nn (x : Int) : 0 ≤ x % MD ∧ x % MD < 65521 := by unfold MD; omega

theorem pl_next (s1 s2 : Int) (ys : List Int) (k : Nat) (hk : k < ys.length) : (pl s1 s2 (ys.take (k + 1))).1 = (pl s1 s2 (ys.take k)).1 + ys.getD k 0 ∧ (pl s1 s2 (ys.take (k + 1))).2 = (pl s1 s2 (ys.take k)).2 + ((pl s1 s2 (ys.take k)).1 + ys.getD k 0) := by
  rw [take_next ys k hk, pl_snoc]
  exact ⟨rfl, rfl⟩

set_option maxHeartbeats 1000000 in
theorem ramore_any (s1 s2 : Int) (ao : Option Addr) (n c : Nat) (ys : List Int) (w : World) (h0 : 0 ≤ s1) (h1 : s1 < 65521) (h2 : 0 ≤ s2) (h3 : s2 < 65521) (hr : Rd w ao n c ys) (hn : n ≤ 1000000000) :
    Calls Try.prog 18 #[.int .u32 (ad s1 s2), .slice ao n c] w fun e w' => e = .returned (.int .u32 (ad ((pl s1 s2 ys).1 % MD) ((pl s1 s2 ys).2 % MD))) ∧ w' = w := by
  have hlen := hr.len
  have e1 := ad_low s1 s2 h0 (by omega) h2 (by omega)
  have e2 := ad_high s1 s2 h0 (by omega)
  obtain ⟨a, ha⟩ : ∃ a, a = ad s1 s2 := ⟨_, rfl⟩
  rw [← ha] at e1 e2 ⊢
  clear ha
  go_enter Try.func18, Try.ntmps18
  go_wp2_with fail
  go_loopw [5, 6, 7] (fun x y i wr => ∃ k : Nat, k ≤ n ∧ i = .int .i64 (k : Int) ∧ x = .int .u32 ((pl s1 s2 (ys.take k)).1 % MD) ∧ y = .int .u32 ((pl s1 s2 (ys.take k)).2 % MD) ∧ wr = w) (fun _ _ i _ => (n - intOf i).toNat)
  case atStart => exact ⟨0, by omega, rfl, by simp [pl]; unfold MD; omega, by simp [pl]; unfold MD; omega, rfl⟩
  case round =>
    clear e1 e2
    obtain ⟨k, hk, rfl, rfl, rfl, hw⟩ := hrel
    subst hw
    obtain ⟨p1, hp1⟩ : ∃ p, p = (pl s1 s2 (ys.take k)).1 % MD := ⟨_, rfl⟩
    obtain ⟨p2, hp2⟩ : ∃ p, p = (pl s1 s2 (ys.take k)).2 % MD := ⟨_, rfl⟩
    have b1 := md_nn (pl s1 s2 (ys.take k)).1
    have b2 := md_nn (pl s1 s2 (ys.take k)).2
    rw [← hp1] at b1
    rw [← hp2] at b2
    rw [← hp1, ← hp2]
    by_cases hlt : k < n
    · have hlt' : (k : Int) < n := by omega
      obtain ⟨b, off, rfl, hcell⟩ := hr.plain (by omega)
      have hck := hcell k hlt
      have hyb := getD_byt ys hr.byt k
      obtain ⟨q1, q2⟩ := pl_next s1 s2 ys k (by omega)
      obtain ⟨m1, m2⟩ := mod_step (pl s1 s2 (ys.take k)).1 (pl s1 s2 (ys.take k)).2 (ys.getD k 0)
      rw [← q1, ← hp1] at m1
      rw [← hp2, ← q2, ← q1] at m2
      obtain ⟨y, hy⟩ : ∃ y, y = ys.getD k 0 := ⟨_, rfl⟩
      rw [← hy] at hck hyb m1
      have M : Hid ((p1 + y) % 65521 = (pl s1 s2 (ys.take (k + 1))).1 % MD ∧ (p2 + (pl s1 s2 (ys.take (k + 1))).1 % MD) % 65521 = (pl s1 s2 (ys.take (k + 1))).2 % MD) := ⟨m1, m2⟩
      clear hcell q1 q2 m1 m2 hy hp1 hp2
      go_wp2_with fail
      exact ⟨⟨k + 1, by omega, rfl, by rw [M.out.1], by rw [← M.out.2, ← M.out.1], trivial⟩, by simp [intOf]; omega⟩
    · have hlt' : ¬ (k : Int) < n := by omega
      have hor := ad_or p1 p2 b1.1 (by omega) b2.1 (by omega)
      have M : Hid (p1 = (pl s1 s2 ys).1 % MD ∧ p2 = (pl s1 s2 ys).2 % MD) := by
        rw [List.take_of_length_le (by omega)] at hp1 hp2
        exact ⟨hp1, hp2⟩
      clear hp1 hp2 hk hlt
      go_wp2_with fail
      go_ret
      exact ⟨by rw [← M.out.1, ← M.out.2]; rfl, rfl⟩

set_option maxHeartbeats 1000000 in
theorem radler_any (ao : Option Addr) (n c : Nat) (ys : List Int) (w : World) (hr : Rd w ao n c ys) (hn : n ≤ 1000000000) :
    Calls Try.prog 12 #[.slice ao n c] w fun e w' => e = .returned (.int .u32 (ad ((pl 1 0 ys).1 % MD) ((pl 1 0 ys).2 % MD))) ∧ w' = w := by
  have HR : Hid (Rd w ao n c ys) := hr
  clear hr
  go_enter Try.func12, Try.ntmps12
  go_wp2_with fail
  refine (ramore_any 1 0 ao n c ys w (by omega) (by omega) (by omega) (by omega) HR.out hn).mono ?_
  rintro e w1 ⟨rfl, b1⟩
  subst b1
  go_wp2_with fail
  go_ret
  exact ⟨rfl, rfl⟩

def slen : Value → Nat
  | .slice _ n _ => n
  | _ => 0

theorem slen_ok (a : Option Addr) (n c : Nat) : slen (.slice a n c) = n := rfl

theorem wpList_min {ops : Array Oper} {rest : List Oper} {op : Oper} {a : Act} {w : World} {Q : Exit → Act → World → Prop} (hgd : op.guard = none) (x y : Operand) (ho : op.op = .call { callee := .builtin .min, args := #[x, y], argTypes := #[3, 3] })
    (p q : Int) (hx : a.eval x = .int .i64 p) (hy : a.eval y = .int .i64 q) (ht : op.type = 3) (r : Int) (hr : r = min p q)
    (hk : wpList Try.prog ops Q rest (a.put op.dst (.int .i64 r)) w) : wpList Try.prog ops Q (op :: rest) a w := by
  refine wpList_plain hgd fun K hK => ?_
  have hk' := hK _ _ hk
  subst hr
  unfold Oper.wp
  have hm : (Builtin.min2 (.int .i64 p) (.int .i64 q)).run Try.prog w = .ok (.int .i64 (min p q)) w := by
    by_cases h : p < q
    · rw [show min p q = p by omega]
      simp [Builtin.min2, go_sem]; omega
    · rw [show min p q = q by omega]
      simp [Builtin.min2, go_sem]; omega
  simp [execOp, ho, resolve, invoke, builtin, hx, hy, ht, Builtin.min_, hm, Result.andThen]
  exact hk'

/-- A run's bounds. -/
theorem run_bound (zs : List Int) (hb : ∀ x ∈ zs, 0 ≤ x ∧ x < 256) (hl : zs.length ≤ 5552) (a1 a2 : Int) (h1 : 0 ≤ a1 ∧ a1 < 65521) (h2 : 0 ≤ a2 ∧ a2 < 65521) (k : Nat) :
    0 ≤ (pl a1 a2 (zs.take k)).1 ∧ (pl a1 a2 (zs.take k)).1 < 1500000 ∧ 0 ≤ (pl a1 a2 (zs.take k)).2 ∧ (pl a1 a2 (zs.take k)).2 < 4294700000 := by
  obtain ⟨i1, i2, i3, i4⟩ := pl_bound (zs.take k) (fun x hx => hb x (List.mem_of_mem_take hx)) a1 a2 h1.1 h2.1
  have hm : ((zs.take k).length : Int) ≤ 5552 := by simp; omega
  have hm0 : (0 : Int) ≤ ((zs.take k).length : Int) := by omega
  generalize ((zs.take k).length : Int) = m at i2 i4 hm hm0
  refine ⟨i1, by omega, i3, ?_⟩
  have e1 : m * a1 ≤ 5552 * 65520 := Int.mul_le_mul hm (by omega) h1.1 (by omega)
  have e2 : m * m ≤ 5552 * 5552 := Int.mul_le_mul hm hm hm0 (by omega)
  omega

set_option maxRecDepth 100000 in
set_option maxHeartbeats 4000000 in
theorem amore_any (s1 s2 : Int) (ao : Option Addr) (n c : Nat) (ys : List Int) (w : World) (h0 : 0 ≤ s1) (h1 : s1 < 65521) (h2 : 0 ≤ s2) (h3 : s2 < 65521) (hr : Rd w ao n c ys) (hn : n ≤ 1000000000) :
    Calls Try.prog 14 #[.int .u32 (ad s1 s2), .slice ao n c] w fun e w' => e = .returned (.int .u32 (ad ((pl s1 s2 ys).1 % MD) ((pl s1 s2 ys).2 % MD))) ∧ w' = w := by
  have HL : Hid (ys.length = n ∧ Rd w ao n c ys) := ⟨hr.len, hr⟩
  have HA : Hid (0 ≤ s1 ∧ s1 < 65521 ∧ 0 ≤ s2 ∧ s2 < 65521) := ⟨h0, h1, h2, h3⟩
  obtain ⟨a, ha⟩ : ∃ a, a = ad s1 s2 := ⟨_, rfl⟩
  rw [← ha]
  have HH : Hid (a = ad s1 s2) := ha
  clear ha hr h0 h1 h2 h3
  go_enter Try.func14, Try.ntmps14
  go_wp2_with fail
  have hv := halves_any s1 s2 w HA.out.1 (by have := HA.out; omega) HA.out.2.2.1 (by have := HA.out; omega)
  rw [← HH.out] at hv
  refine hv.mono ?_
  rintro e w1 ⟨rfl, hw⟩
  subst hw
  clear hv
  go_wp2_with fail
  go_loopw [1, 5, 6, 7, 9] (fun b x y _ _ wr => ∃ (p : Nat) (ao' : Option Addr) (n' c' : Nat), b = .slice ao' n' c' ∧ p + n' = n ∧ Rd w1 ao' n' c' (ys.drop p) ∧ x = .int .u32 ((pl s1 s2 (ys.take p)).1 % MD) ∧ y = .int .u32 ((pl s1 s2 (ys.take p)).2 % MD) ∧ wr = w1) (fun b _ _ _ _ _ => slen b)
  case atStart =>
    have := HA.out
    exact ⟨0, ao, n, c, rfl, by omega, by simpa using HL.out.2, by simp [pl]; unfold MD; omega, by simp [pl]; unfold MD; omega, rfl⟩
  case round =>
    obtain ⟨p, ao', n', c', rfl, hpn, hrd, rfl, rfl, hw⟩ := hrel
    subst hw
    obtain ⟨a1, ha1⟩ : ∃ p', p' = (pl s1 s2 (ys.take p)).1 % MD := ⟨_, rfl⟩
    obtain ⟨a2, ha2⟩ : ∃ p', p' = (pl s1 s2 (ys.take p)).2 % MD := ⟨_, rfl⟩
    have b1 := md_nn (pl s1 s2 (ys.take p)).1
    have b2 := md_nn (pl s1 s2 (ys.take p)).2
    rw [← ha1] at b1
    rw [← ha2] at b2
    rw [← ha1, ← ha2]
    by_cases hn0 : 0 < n'
    · have hn0' : (0 : Int) < n' := by omega
      obtain ⟨m, hm⟩ : ∃ m, m = min n' 5552 := ⟨_, rfl⟩
      have hmi : min (n' : Int) 5552 = (m : Int) := by omega
      have HM : Hid (m ≤ n' ∧ m ≤ 5552 ∧ 0 < m ∧ p + n' = n ∧ a1 = (pl s1 s2 (ys.take p)).1 % MD ∧ a2 = (pl s1 s2 (ys.take p)).2 % MD) := ⟨by omega, by omega, by omega, hpn, ha1, ha2⟩
      clear hm ha1 ha2 hpn
      go_wp2_with (first
        | (refine wpList_min rfl _ _ rfl (n' : Int) 5552 rfl rfl rfl (m : Int) hmi.symm ?_)
        | (refine wpList_sub rfl _ _ _ rfl hrd 0 m (by have := HM.out; omega) rfl (.inr ⟨rfl, rfl⟩) (.inl (by rw [Nat.zero_add]; rfl)) ?_; intro ao2 c2 hr2 hs2))
      rw [List.drop_zero] at hr2
      obtain ⟨zs, hzs⟩ : ∃ zs, zs = (ys.drop p).take m := ⟨_, rfl⟩
      rw [← hzs] at hr2
      have hzl := hr2.len
      have HZ : Hid (zs = (ys.drop p).take m ∧ zs.length = m) := ⟨hzs, hzl⟩
      have HRB : Hid (∀ k, 0 ≤ (pl a1 a2 (zs.take k)).1 ∧ (pl a1 a2 (zs.take k)).1 < 1500000 ∧ 0 ≤ (pl a1 a2 (zs.take k)).2 ∧ (pl a1 a2 (zs.take k)).2 < 4294700000) := run_bound zs hr2.byt (by have := HM.out; omega) a1 a2 b1 b2
      have hm9 : m ≤ 5552 := HM.out.2.1
      clear hzs hs2 hmi hzl
      go_loopw [5, 6, 9, 25] (fun x y _ i wx => ∃ j : Nat, j ≤ m ∧ i = .int .i64 (j : Int) ∧ x = .int .u32 (pl a1 a2 (zs.take j)).1 ∧ y = .int .u32 (pl a1 a2 (zs.take j)).2 ∧ wx = wr) (fun _ _ _ i _ => (m - intOf i).toNat)
      case atStart => exact ⟨0, by omega, rfl, by simp [pl], by simp [pl], rfl⟩
      case round =>
        obtain ⟨j, hj, rfl, rfl, rfl, hw⟩ := hrel
        subst hw
        obtain ⟨P1, hP1⟩ : ∃ q, q = (pl a1 a2 (zs.take j)).1 := ⟨_, rfl⟩
        obtain ⟨P2, hP2⟩ : ∃ q, q = (pl a1 a2 (zs.take j)).2 := ⟨_, rfl⟩
        have bb := HRB.out j
        rw [← hP1, ← hP2] at bb
        rw [← hP1, ← hP2]
        obtain ⟨c1, c2', c3, c4⟩ := bb
        by_cases hlt : j < m
        · have hlt' : (j : Int) < m := by omega
          obtain ⟨b, off, rfl, hcell⟩ := hr2.plain (by omega)
          have hck := hcell j hlt
          have hyb := getD_byt zs hr2.byt j
          have bn := HRB.out (j + 1)
          obtain ⟨q1, q2⟩ := pl_next a1 a2 zs j (by have := HZ.out; omega)
          rw [q1, q2, ← hP1, ← hP2] at bn
          rw [← hP1] at q1
          rw [← hP1, ← hP2] at q2
          obtain ⟨y, hy⟩ : ∃ y, y = zs.getD j 0 := ⟨_, rfl⟩
          rw [← hy] at hck hyb bn q1 q2
          have bn1 : P1 + y < 4294967296 := by omega
          have bn2 : P2 + (P1 + y) < 4294967296 := by omega
          have M : Hid ((pl a1 a2 (zs.take (j + 1))).1 = P1 + y ∧ (pl a1 a2 (zs.take (j + 1))).2 = P2 + (P1 + y)) := ⟨q1, q2⟩
          clear hcell q1 q2 hy hP1 hP2 bn
          go_wp2_with fail
          exact ⟨⟨j + 1, by omega, rfl, by rw [M.out.1], by rw [M.out.2], trivial⟩, by simp [intOf]; omega⟩
        · have hlt' : ¬ (j : Int) < m := by omega
          have M : Hid (P1 % 65521 = (pl s1 s2 (ys.take (p + m))).1 % MD ∧ P2 % 65521 = (pl s1 s2 (ys.take (p + m))).2 % MD) := by
            obtain ⟨z1, z2⟩ := HZ.out
            obtain ⟨m1, m2, m3, m4, m5, m6⟩ := HM.out
            rw [List.take_of_length_le (by omega)] at hP1 hP2
            obtain ⟨k1, k2⟩ := pl_mod (pl s1 s2 (ys.take p)).1 (pl s1 s2 (ys.take p)).2 zs
            rw [← m5, ← m6, ← hP1, ← pl_app, z1, ← List.take_add] at k1
            rw [← m5, ← m6, ← hP2, ← pl_app, z1, ← List.take_add] at k2
            exact ⟨k1, k2⟩
          clear hP1 hP2 hj hlt HRB hr2
          have hmn : m ≤ n' := HM.out.1
          go_wp2_with (first
            | (refine wpList_sub rfl _ _ _ rfl hrd m (n' - m) (by omega) rfl (.inl rfl) (.inr ⟨rfl, by omega⟩) ?_; intro ao3 c3' hr3 hs3))
          rw [List.drop_drop, List.take_of_length_le (by have := HL.out.1; have := HM.out; simp; omega)] at hr3
          have := HM.out
          exact ⟨⟨p + m, ao3, n' - m, c3', rfl, by omega, hr3, by rw [← M.out.1], by rw [← M.out.2], trivial⟩, by rw [slen_ok, slen_ok]; omega⟩
    · have hn0' : ¬ (0 : Int) < n' := by omega
      have hor := ad_or a1 a2 b1.1 (by omega) b2.1 (by omega)
      have M : Hid (a1 = (pl s1 s2 ys).1 % MD ∧ a2 = (pl s1 s2 ys).2 % MD) := by
        rw [List.take_of_length_le (by have := HL.out.1; omega)] at ha1 ha2
        exact ⟨ha1, ha2⟩
      clear ha1 ha2 hn0 hpn
      go_wp2_with fail
      go_ret
      exact ⟨by rw [← M.out.1, ← M.out.2]; rfl, rfl⟩

set_option maxHeartbeats 1000000 in
theorem adler_any (ao : Option Addr) (n c : Nat) (ys : List Int) (w : World) (hr : Rd w ao n c ys) (hn : n ≤ 1000000000) :
    Calls Try.prog 10 #[.slice ao n c] w fun e w' => e = .returned (.int .u32 (ad ((pl 1 0 ys).1 % MD) ((pl 1 0 ys).2 % MD))) ∧ w' = w := by
  have HR : Hid (Rd w ao n c ys) := hr
  clear hr
  go_enter Try.func10, Try.ntmps10
  go_wp2_with fail
  refine (amore_any 1 0 ao n c ys w (by omega) (by omega) (by omega) (by omega) HR.out hn).mono ?_
  rintro e w1 ⟨rfl, b1⟩
  subst b1
  go_wp2_with fail
  go_ret
  exact ⟨rfl, rfl⟩

end Go.Proofs.Ytlollkkhogofoaa
