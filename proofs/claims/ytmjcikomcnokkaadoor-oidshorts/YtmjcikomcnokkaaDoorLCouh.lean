/- What OidCounts asks. -/
import Derived.Test.YtmjcikomcnokkaaDoorWMat
namespace Go.Proofs.YtmjcikomcnokkaaDoor
open Go.RowKit

theorem match_is (B : Nat) (v : Value) (r : Array (List Int)) (s : ByteArray) (w : World) (h : Nw B w v r) (hu : Up r) (hsz : r.size < 100000) (h4 : 4 ≤ s.size) (h40 : s.size ≤ 40) (hS : ∀ c ∈ ns s, isS c) (x : List Int) (e : Int) (hm : Mt r (ns s) x e) :
    Calls Tryd.prog 24 #[v, .string s] w fun e' w' => e' = .returned (.tuple #[idv x, .int .i64 e]) ∧ Below w.heap.size w w' := by
  refine (match_yes B v r s w h hu hsz h4 h40 hS).mono ?_
  rintro e' w' ⟨y, f, rfl, hm', hb⟩
  obtain ⟨rfl, rfl⟩ := hm.uniq hm'
  exact ⟨rfl, hb⟩

theorem find_is (B : Nat) (v : Value) (r : Array (List Int)) (k : Nat) (w : World) (h : Nw B w v r) (hu : Up r) (hk : k < r.size) (hsz : r.size < 100000) :
    Calls Tryd.prog 16 #[v, idv r[k]!] w fun e w' => e = .returned (.tuple #[.int .i64 k, .bool true]) ∧ Below w.heap.size w w' := by
  refine (find_any B v r r[k]! w h hu (h.ids k hk) hsz).mono ?_
  rintro e w' ⟨j, rfl, hj, hb⟩
  obtain rfl := wh_at hu hk hj
  refine ⟨?_, hb⟩
  rw [decide_eq_true hk, decide_eq_true rfl]
  rfl

theorem sh_one {r : Array (List Int)} {k n : Nat} (hk : k < r.size) (hid : IsId r[k]!) (h : Sh r k n) : Mt r ((hx r[k]!).take n) r[k]! 0 :=
  .one k hk (pf_self n rfl hid) (fun q hq hp => by
    by_cases e : q = k
    · exact e
    · exact absurd hp (h.only q hq e))

theorem sh_many {r : Array (List Int)} {k n : Nat} (hk : k < r.size) (hid : IsId r[k]!) (h : Sh r k n) (h4 : 4 < n) : Mt r ((hx r[k]!).take (n - 1)) z20 9 := by
  obtain ⟨q, hq, hqk, hp⟩ := h.less h4
  have hs := pf_self (n - 1) rfl hid
  rcases Nat.lt_or_gt_of_ne hqk with e | e
  · exact .many q k e hk hp hs
  · exact .many k q e hq hs hp

theorem cs_all (r : Array (List Int)) (k : Nat) (h : ∀ i, i < k → IsId r[i]!) : cs r k 255 = k := by
  induction k with
  | zero => rfl
  | succ k ih =>
    have := (h k (by omega)).at 0 (by omega)
    simp only [cs, ih (fun i hi => h i (by omega))]
    rw [if_pos (by omega)]
    push_cast
    rfl

theorem cs_diff (r : Array (List Int)) (k : Nat) (i : Nat) (h : ∀ j, j < k → IsId r[j]!) : cs r k i - (if 0 < i then cs r k ((i : Int) - 1) else 0) = c1 r k i := by
  by_cases h0 : 0 < i
  · rw [if_pos h0]
    have := cs_step r k ((i : Int) - 1)
    rw [Int.sub_add_cancel] at this
    omega
  · obtain rfl : i = 0 := by omega
    rw [if_neg h0]
    have := cs_zero r k (fun j hj => ((h j hj).at 0 (by omega)).1)
    simp only [Int.natCast_zero] at this ⊢
    omega

theorem q_sl9 {ops : Array Oper} {o : Oper} {a : Act} {C : World → Prop} {K : Act → Prop} {E : Prop} (hw : Region.wanted o (yielded ops a.tmps) = true) (x y : Operand) (ho : o.op = .slice 9 x none (some y) none) (u t : Value) (hx : a.eval x = u) (hy : a.eval y = t) (v : Value)
    (h : ∀ w, (Instr.sliceAt 9 u none (some t) none).run Tryd.prog w = .ok v w) (hk : K (a.put o.dst v)) : if Region.wanted o (yielded ops a.tmps) = true then o.quiet Tryd.prog a C K else E := by
  rw [if_pos hw]
  refine ⟨v, fun w hC => ?_, hk⟩
  unfold Oper.quietAt execOp
  simp only [ho, hx, hy, Option.map_none, Option.map_some]
  simp [h w, Oper.quietUpon]

theorem wpList_sl9 {ops : Array Oper} {rest : List Oper} {op : Oper} {a : Act} {w : World} {Q : Exit → Act → World → Prop} (hgd : op.guard = none) (x y : Operand) (ho : op.op = .slice 9 x none (some y) none) (u t : Value) (hx : a.eval x = u) (hy : a.eval y = t) (v : Value)
    (h : ∀ w, (Instr.sliceAt 9 u none (some t) none).run Tryd.prog w = .ok v w) (hk : wpList Tryd.prog ops Q rest (a.put op.dst v) w) : wpList Tryd.prog ops Q (op :: rest) a w := by
  refine wpList_plain hgd fun K hK => ?_
  unfold Oper.wp
  simp only [execOp, ho, hx, hy, Option.map_none, Option.map_some, Sem.run_bind, h w, Result.andThen_ok, Sem.run_pure]
  exact hK _ _ hk

/-- A front of a name's signs, as a text. -/
structure Ft (x : List Int) (n : Nat) (S : ByteArray) : Prop where
  sz : S.size = n
  ns : ns S = (hx x).take n
  sg : ∀ c ∈ Go.Proofs.YtmjcikomcnokkaaDoor.ns S, isS c
  cut : ∀ w, (Instr.sliceAt 9 (.string (strOfNums (hx x))) none (some (.int .i64 n)) none).run Tryd.prog w = .ok (.string S) w

theorem ft_of {x : List Int} (h : IsId x) (n : Nat) (hn : n ≤ 40) : Ft x n (strOfNums ((hx x).take n)) := by
  have hl := hx40 h
  have hns : ns (strOfNums ((hx x).take n)) = (hx x).take n := ns_str _ (fun c hc => (hx_byt x h.2 c (List.mem_of_mem_take hc)).2)
  refine ⟨by rw [str_size]; simp [hl]; omega, hns, fun c hc => ?_, fun w => ?_⟩
  · rw [hns] at hc
    exact (hx_byt x h.2 c (List.mem_of_mem_take hc)).1
  · have := run_strsl (strOfNums (hx x)) n (by rw [str_size, hl]; exact hn) w
    rwa [str_take] at this

theorem ft_less {x : List Int} {n m : Nat} {S S1 : ByteArray} (h : Ft x n S) (h1 : Ft x m S1) (hmn : m ≤ n) : ∀ w, (Instr.sliceAt 9 (.string S) none (some (.int .i64 m)) none).run Tryd.prog w = .ok (.string S1) w := by
  intro w
  have := run_strsl S m (by rw [h.sz]; exact hmn) w
  have e : S.extract 0 m = S1 := by
    rw [← str_ns S, ← str_ns S1, str_take, h.ns, h1.ns, List.take_take, Nat.min_eq_left hmn]
  rw [this, e]

end Go.Proofs.YtmjcikomcnokkaaDoor
