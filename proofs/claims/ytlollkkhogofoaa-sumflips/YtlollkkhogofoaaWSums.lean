/- What the functions answer, in the words of the laws. -/
import Derived.Test.YtlollkkhogofoaaWKnown
namespace Go.Proofs.Ytlollkkhogofoaa
open Go.RowKit

/-- The CRC-32 of bytes. -/
def CR (ys : List Int) : Int := ((cmore 0 (nat ys) : Nat) : Int)

/-- The Adler-32 of bytes. -/
def AL (ys : List Int) : Int := ad ((pl 1 0 ys).1 % MD) ((pl 1 0 ys).2 % MD)

theorem CR_app (xs ys : List Int) : ((cmore (cmore 0 (nat xs)) (nat ys) : Nat) : Int) = CR (xs ++ ys) := by
  unfold CR
  rw [nat_app, cmore_app]

theorem AL_app (xs ys : List Int) : ad ((pl ((pl 1 0 xs).1 % MD) ((pl 1 0 xs).2 % MD) ys).1 % MD) ((pl ((pl 1 0 xs).1 % MD) ((pl 1 0 xs).2 % MD) ys).2 % MD) = AL (xs ++ ys) := by
  obtain ⟨k1, k2⟩ := pl_mod (pl 1 0 xs).1 (pl 1 0 xs).2 ys
  unfold AL
  rw [k1, k2, ← pl_app]

theorem AL_join (xs ys : List Int) : ad (j1 ((pl 1 0 xs).1 % MD) ((pl 1 0 ys).1 % MD)) (j2 ((pl 1 0 xs).1 % MD) ((pl 1 0 xs).2 % MD) ((pl 1 0 ys).2 % MD) (ys.length : Int)) = AL (xs ++ ys) := by
  rw [← AL_app]
  obtain ⟨k1, k2⟩ := pl_from ((pl 1 0 xs).1 % MD) ((pl 1 0 xs).2 % MD) ys
  rw [k1, k2]
  unfold j1 j2
  congr 1
  · unfold MD; omega
  · generalize (pl 1 0 xs).2 % MD + (ys.length : Int) * ((pl 1 0 xs).1 % MD - 1) = X
    unfold MD
    omega

section
variable (ao : Option Addr) (n c : Nat) (xs ys : List Int) (w : World)

theorem crcR (hr : Rd w ao n c ys) (hn : n ≤ 1000000000) : Calls Try.prog 9 #[.slice ao n c] w fun e w' => e = .returned (.int .u32 (CR ys)) ∧ Below w.heap.size w w' := crc_any ao n c ys w hr hn

theorem moreR (hx : ∀ x ∈ xs, 0 ≤ x ∧ x < 256) (hr : Rd w ao n c ys) (hn : n ≤ 1000000000) : Calls Try.prog 13 #[.int .u32 (CR xs), .slice ao n c] w fun e w' => e = .returned (.int .u32 (CR (xs ++ ys))) ∧ Below w.heap.size w w' := by
  refine (crcMore_any (cmore 0 (nat xs)) ao n c ys w (cmore_lt 0 _ (by omega) (nat_lt xs hx)) hr hn).mono ?_
  rintro e w' ⟨rfl, hb⟩
  exact ⟨by rw [CR_app], hb⟩

theorem rcrcR (hr : Rd w ao n c ys) (hn : n ≤ 1000000000) : Calls Try.prog 11 #[.slice ao n c] w fun e w' => e = .returned (.int .u32 (CR ys)) ∧ w' = w := rcrc_any ao n c ys w hr hn

theorem adlR (hr : Rd w ao n c ys) (hn : n ≤ 1000000000) : Calls Try.prog 10 #[.slice ao n c] w fun e w' => e = .returned (.int .u32 (AL ys)) ∧ w' = w := adler_any ao n c ys w hr hn

theorem radlR (hr : Rd w ao n c ys) (hn : n ≤ 1000000000) : Calls Try.prog 12 #[.slice ao n c] w fun e w' => e = .returned (.int .u32 (AL ys)) ∧ w' = w := radler_any ao n c ys w hr hn

theorem amoreR (hr : Rd w ao n c ys) (hn : n ≤ 1000000000) : Calls Try.prog 14 #[.int .u32 (AL xs), .slice ao n c] w fun e w' => e = .returned (.int .u32 (AL (xs ++ ys))) ∧ w' = w := by
  have b1 := md_nn (pl 1 0 xs).1
  have b2 := md_nn (pl 1 0 xs).2
  refine (amore_any _ _ ao n c ys w b1.1 b1.2 b2.1 b2.2 hr hn).mono ?_
  rintro e w' ⟨rfl, hb⟩
  exact ⟨by rw [AL_app], hb⟩

theorem joinR (hn : ys.length ≤ 1000000000) : Calls Try.prog 15 #[.int .u32 (AL xs), .int .u32 (AL ys), .int .i64 (ys.length : Int)] w fun e w' => e = .returned (.int .u32 (AL (xs ++ ys))) ∧ w' = w := by
  refine (join_any _ _ _ _ (ys.length : Int) w (md_nn (pl 1 0 xs).1) (md_nn (pl 1 0 xs).2) (md_nn (pl 1 0 ys).1) (md_nn (pl 1 0 ys).2) (by omega) (by omega)).mono ?_
  rintro e w' ⟨rfl, hb⟩
  exact ⟨by rw [AL_join], hb⟩

theorem rjoinR (hn : ys.length ≤ 1000000000) : Calls Try.prog 17 #[.int .u32 (AL xs), .int .u32 (AL ys), .int .i64 (ys.length : Int)] w fun e w' => e = .returned (.int .u32 (AL (xs ++ ys))) ∧ w' = w := by
  refine (rjoin_any _ _ _ _ (ys.length : Int) w (md_nn (pl 1 0 xs).1) (md_nn (pl 1 0 xs).2) (md_nn (pl 1 0 ys).1) (md_nn (pl 1 0 ys).2) (by omega) (by omega)).mono ?_
  rintro e w' ⟨rfl, hb⟩
  exact ⟨by rw [AL_join], hb⟩

end

theorem AL_nil : AL [] = 1 := adl0

theorem q_call3 {ops : Array Oper} {o : Oper} {a : Act} {C : World → Prop} {K : Act → Prop} {E : Prop} (hw : Region.wanted o (yielded ops a.tmps) = true) (f : FuncId) (hf : ∀ vs w, (callFunc f vs).run Try.prog w = .ok (.enter f vs) w) (x y z : Operand) (ts : Array TypeId) (ho : o.op = .call { callee := .value (.func f), args := #[x, y, z], argTypes := ts }) (u u' u'' : Value) (hx : a.eval x = u) (hy : a.eval y = u') (hz : a.eval z = u'') (v : Value)
    (hc : ∀ w, C w → Calls Try.prog f #[u, u', u''] w (fun e w' => e = .returned v ∧ C w')) (hk : K (a.put o.dst v)) : if Region.wanted o (yielded ops a.tmps) = true then o.quiet Try.prog a C K else E := by
  rw [if_pos hw]
  refine ⟨v, fun w hC => ?_, hk⟩
  have h := hc w hC
  have hr : (resolve a.eval { callee := .value (.func f), args := #[x, y, z], argTypes := ts } o.type >>= fun d => invoke d.target d.args).run Try.prog w = .ok (.enter f #[u, u', u'']) w := by
    rw [← hf #[u, u', u''] w, ← hx, ← hy, ← hz]
    simp [resolve, Act.eval, invoke, Deferred.ofValue]
  unfold Oper.quietAt execOp
  simp only [ho, hr]
  exact ⟨rfl, h⟩

/-- Where a part of a slice begins. -/
def cutAt (ao : Option Addr) (c p : Nat) : Option Addr := if c = p then ao else Option.map (fun x => x.add p) ao

theorem Rd.part {w : World} {ao : Option Addr} {n c : Nat} {xs : List Int} (h : Rd w ao n c xs) (p m : Nat) (hs : p + m ≤ n) : Rd w (cutAt ao c p) m (c - p) ((xs.drop p).take m) := h.sub p m hs

theorem q_sub {ops : Array Oper} {o : Oper} {a : Act} {C : World → Prop} {K : Act → Prop} {E : Prop} (hw : Region.wanted o (yielded ops a.tmps) = true) (x : Operand) (lo hi : Option Operand) (ho : o.op = .slice 22 x lo hi none)
    {w0 : World} {ao : Option Addr} {n c : Nat} {ys : List Int} (h : Rd w0 ao n c ys) (p m : Nat) (hpm : p + m ≤ n) (hx : a.eval x = .slice ao n c)
    (hlo : lo.map a.eval = some (.int .i64 (p : Int)) ∨ lo.map a.eval = none ∧ p = 0) (hhi : hi.map a.eval = some (.int .i64 ((p + m : Nat) : Int)) ∨ hi.map a.eval = none ∧ p + m = n)
    (hk : K (a.put o.dst (.slice (cutAt ao c p) m (c - p)))) : if Region.wanted o (yielded ops a.tmps) = true then o.quiet Try.prog a C K else E := by
  rw [if_pos hw]
  refine ⟨_, fun w hC => ?_, hk⟩
  have hz : ∀ w, (sizeOf 5).run Try.prog w = .ok 1 w := fun w => by simp [go_sem]
  have hle := h.le
  have e1 : 0 ≤ ((p + m : Nat) : Int) ∧ ((p + m : Nat) : Int) ≤ (c : Int) := by omega
  have e2 : 0 ≤ (p : Int) ∧ (p : Int) ≤ ((p + m : Nat) : Int) := by omega
  have e3 : ((p + m : Nat) : Int).toNat = p + m := by omega
  have e4 : p + m - p = m := by omega
  have hrun : (Instr.slice 22 (.slice ao n c) (lo.map a.eval) (hi.map a.eval) none).run Try.prog w = .ok (.slice (cutAt ao c p) m (c - p)) w := by
    unfold Instr.slice Instr.sliceBounds cutAt
    rcases hlo with g1 | ⟨g1, rfl⟩ <;> rcases hhi with g2 | ⟨g2, rfl⟩ <;> rw [g1, g2] <;>
      simp only [run_underlying Try.underlying22, Instr.sliceBound, asIntOf, hz, Result.andThen_ok, Sem.run_bind, Sem.run_pure, if_pos e1, if_pos e2, e3, e4, Option.isSome_none, Int.toNat_natCast, Nat.mul_one, Nat.sub_zero]
  have hat : (Instr.sliceAt 22 (.slice ao n c) (lo.map a.eval) (hi.map a.eval) none).run Try.prog w = .ok (.slice (cutAt ao c p) m (c - p)) w := by
    unfold Instr.sliceAt
    simp only [Sem.run_bind, run_underlying Try.underlying22, Result.andThen_ok]
    exact hrun
  unfold Oper.quietAt execOp
  simp only [ho, hx, Sem.run_bind, Option.map_none, hat, Result.andThen_ok, Sem.run_pure]
  exact ⟨rfl, rfl⟩

theorem cf11 (vs : Array Value) (w : World) : (callFunc 11 vs).run Try.prog w = .ok (.enter 11 vs) w := by simp [go_sem]
theorem cf12 (vs : Array Value) (w : World) : (callFunc 12 vs).run Try.prog w = .ok (.enter 12 vs) w := by simp [go_sem]
theorem cf14 (vs : Array Value) (w : World) : (callFunc 14 vs).run Try.prog w = .ok (.enter 14 vs) w := by simp [go_sem]
theorem cf15 (vs : Array Value) (w : World) : (callFunc 15 vs).run Try.prog w = .ok (.enter 15 vs) w := by simp [go_sem]

end Go.Proofs.Ytlollkkhogofoaa
