/- The document's Check, put, some. -/
import Derived.Test.YtkclaikofdolmaaLWider
namespace Go.Proofs.Ytkclaikofdolmaa
open Go.RowKit

/-- Where a part of a slice lies. -/
def cutAt (ao : Option Addr) (c p : Nat) : Option Addr := if c = p then ao else Option.map (fun x => x.add p) ao

theorem Ri.sub {w : World} {ao : Option Addr} {n c : Nat} {L : Nat → Int} (h : Ri w ao n c L) (p m : Nat) (hs : p + m ≤ n) : Ri w (cutAt ao c p) m (c - p) (fun j => L (p + j)) := by
  have hle := h.le
  unfold cutAt
  refine ⟨by omega, ?_, ?_⟩
  · intro e
    cases ao with
    | none => have := h.nul rfl; omega
    | some ad => by_cases hc : c = p <;> simp [hc] at e
  · intro ad had j hj
    rw [if_neg (by omega)] at had
    obtain ⟨b, off, rfl, hcell⟩ := h.plain (by omega)
    simp only [Option.map_some, Option.some.injEq] at had
    subst had
    rw [Addr.add_lit, Addr.add_lit, Nat.add_assoc, hcell (p + j) (by omega)]

theorem run_isub {w : World} {ao : Option Addr} {n c p m : Nat} {L : Nat → Int} (h : Ri w ao n c L) (hpm : p + m ≤ n) (lo hi : Option Value)
    (hlo : lo = some (.int .i64 (p : Int)) ∨ lo = none ∧ p = 0) (hhi : hi = some (.int .i64 ((p + m : Nat) : Int)) ∨ hi = none ∧ p + m = n) :
    (Instr.slice 22 (.slice ao n c) lo hi none).run Try.prog w = .ok (.slice (cutAt ao c p) m (c - p)) w := by
  have hle := h.le
  have hz : ∀ w, (sizeOf 3).run Try.prog w = .ok 1 w := fun w => by simp [go_sem]
  have e1 : 0 ≤ ((p + m : Nat) : Int) ∧ ((p + m : Nat) : Int) ≤ (c : Int) := by omega
  have e2 : 0 ≤ (p : Int) ∧ (p : Int) ≤ ((p + m : Nat) : Int) := by omega
  have e3 : ((p + m : Nat) : Int).toNat = p + m := by omega
  have e4 : p + m - p = m := by omega
  unfold Instr.slice Instr.sliceBounds cutAt
  rcases hlo with rfl | ⟨rfl, rfl⟩ <;> rcases hhi with rfl | ⟨rfl, rfl⟩ <;>
    simp only [run_underlying Try.underlying22, Instr.sliceBound, asIntOf, hz, Result.andThen_ok, Sem.run_bind, Sem.run_pure, if_pos e1, if_pos e2, e3, e4, Option.isSome_none, Int.toNat_natCast, Nat.mul_one, Nat.sub_zero]

theorem wpList_isub {ops : Array Oper} {rest : List Oper} {op : Oper} {a : Act} {w : World} {Q : Exit → Act → World → Prop} (hgd : op.guard = none) (x : Operand) (lo hi : Option Operand) (ho : op.op = .slice 22 x lo hi none)
    {ao : Option Addr} {n c : Nat} {L : Nat → Int} (h : Ri w ao n c L) (p m : Nat) (hpm : p + m ≤ n) (hx : a.eval x = .slice ao n c)
    (hlo : lo.map a.eval = some (.int .i64 (p : Int)) ∨ lo.map a.eval = none ∧ p = 0) (hhi : hi.map a.eval = some (.int .i64 ((p + m : Nat) : Int)) ∨ hi.map a.eval = none ∧ p + m = n)
    (hk : wpList Try.prog ops Q rest (a.put op.dst (.slice (cutAt ao c p) m (c - p))) w) : wpList Try.prog ops Q (op :: rest) a w := by
  refine wpList_plain hgd fun K hK => ?_
  unfold Oper.wp
  have hrun := run_isub h hpm _ _ hlo hhi
  have hat : (Instr.sliceAt 22 (.slice ao n c) (lo.map a.eval) (hi.map a.eval) none).run Try.prog w = .ok (.slice (cutAt ao c p) m (c - p)) w := by
    unfold Instr.sliceAt
    simp only [Sem.run_bind, run_underlying Try.underlying22, Result.andThen_ok]
    exact hrun
  simp only [execOp, ho, hx, Sem.run_bind, Option.map_none, hat, Result.andThen_ok, Sem.run_pure]
  exact hK _ _ hk

/-- A list as a function. -/
def gl (xs : List Int) : Nat → Int := fun j => xs.getD j 0

/-- A list as values. -/
abbrev lvl (xs : List Int) : List Value := xs.map (Value.int .i64)

theorem ivs_take (xs : List Int) (k : Nat) (h : k ≤ xs.length) : ivs (gl xs) k = lvl (xs.take k) := by
  apply List.ext_getElem?
  intro j
  by_cases hj : j < k
  · rw [vals_get _ _ _ hj]
    simp [hj, gl, List.getD, show j < xs.length by omega]
  · rw [List.getElem?_eq_none (by rw [vals_len]; omega), List.getElem?_eq_none (by simp; omega)]

theorem ivs_all (xs : List Int) : ivs (gl xs) xs.length = lvl xs := by rw [ivs_take xs _ (Nat.le_refl _), List.take_length]

theorem ivs_drop (xs : List Int) (k : Nat) (h : k ≤ xs.length) : ivs (fun j => gl xs (k + j)) (xs.length - k) = lvl (xs.drop k) := by
  apply List.ext_getElem?
  intro j
  by_cases hj : j < xs.length - k
  · rw [vals_get _ _ _ hj]
    simp [gl, List.getD, show k + j < xs.length by omega]
  · rw [List.getElem?_eq_none (by rw [vals_len]; omega), List.getElem?_eq_none (by simp; omega)]

theorem ins_at (xs : List Int) (x : Int) : ∀ k, k ≤ xs.length → (∀ j, j < k → gl xs j ≤ x) → (k < xs.length → x < gl xs k) → ins xs x = xs.take k ++ [x] ++ xs.drop k := by
  induction xs with
  | nil => intro k hk _ _; simp at hk; subst hk; rfl
  | cons a l ih =>
    intro k hk h1 h2
    cases k with
    | zero =>
      have := h2 (by simp)
      simp only [gl, List.getD_cons_zero] at this
      simp only [ins]
      rw [if_neg (by omega)]
      rfl
    | succ k =>
      have h0 := h1 0 (by omega)
      simp only [gl, List.getD_cons_zero] at h0
      simp only [ins]
      rw [if_pos h0, ih k (by simpa using hk) (fun j hj => by simpa [gl] using h1 (j + 1) (by omega)) (fun hk' => by simpa [gl] using h2 (by simp; omega))]
      rfl

/-- A slice of one's own reads as a list. -/
structure Ol (w w' : World) (v : Value) (xs : List Int) : Prop where
  own : w'.ownsRow w.heap.size 3 1 v xs.length (lvl xs)
  bel : Below w.heap.size w w'

theorem Ol.ri {w w' : World} {v : Value} {xs : List Int} (h : Ol w w' v xs) : ∃ ao c, v = .slice ao xs.length c ∧ Ri w' ao xs.length c (gl xs) := by
  have := h.own
  rw [← ivs_all] at this
  obtain ⟨ao, c, e, hr, _⟩ := own_ri this
  exact ⟨ao, c, e, hr⟩

set_option maxRecDepth 100000 in
set_option maxHeartbeats 2000000 in
theorem xput_any (ao : Option Addr) (c : Nat) (xs : List Int) (x : Int) (w : World) (h : Ri w ao xs.length c (gl xs)) (hn : xs.length ≤ 100000) :
    Calls Try.prog 30 #[.slice ao xs.length c, .int .i64 x] w fun e w' => ∃ v, e = .returned v ∧ Ol w w' v (ins xs x) := by
  obtain ⟨n, hn'⟩ : ∃ n, n = xs.length := ⟨_, rfl⟩
  rw [← hn'] at h hn ⊢
  have HN : Hid (n = xs.length) := hn'
  clear hn'
  go_enter Try.func30, Try.ntmps30
  go_wp2
  go_loop [5] (fun kv => ∃ k : Nat, kv = .int .i64 k ∧ k ≤ n ∧ Hid (∀ j, j < k → gl xs j ≤ x)) (fun kv => n - (intOf kv).toNat)
  case atStart => exact ⟨0, rfl, by omega, fun j hj => by omega⟩
  case round =>
    obtain ⟨k, rfl, hk, HK⟩ := hrel
    have fin : (k < n → x < gl xs k) → Hid (lvl (xs.take k) ++ [Value.int .i64 x] ++ lvl (xs.drop k) = lvl (ins xs x)) := fun hx => by
      have hNo := HN.out
      have := ins_at xs x k (by omega) HK.out (fun hk' => hx (by omega))
      show _ = _
      rw [this]
      simp
    by_cases hlt : k < n
    · obtain ⟨b, off, rfl, hcell⟩ := h.plain (by omega)
      have ck := hcell k hlt
      clear hcell
      by_cases hle : gl xs k ≤ x
      · have d1 : decide (gl xs k ≤ x) = true := by simp [hle]
        have HK1 : Hid (∀ j, j < k + 1 → gl xs j ≤ x) := fun j hj => by
          rcases Nat.lt_or_ge j k with h' | h'
          · exact HK.out j h'
          · obtain rfl : j = k := by omega
            exact hle
        clear HK hle fin h
        go_wp2
        go_round
        case rel => exact ⟨k + 1, by go_num, by omega, HK1⟩
        case measure => simp [intOf]; omega
      · have d1 : decide (gl xs k ≤ x) = false := by simp; omega
        have FIN := fin (fun _ => by omega)
        clear fin hle HK
        have b1 : Below w.heap.size w (w.alloc (.cells #[] 3)) := (Below.refl _ _).alloc (Nat.le_refl _) _
        have h1 := h.keep b1
        have o0 : (w.alloc (.cells #[] 3)).ownsRow w.heap.size 3 1 (.slice (some ⟨w.heap.size, 0, none⟩) 0 0) 0 [] := World.ownsRow_lit (base := w.heap.size) (e := 3) (size := 1) w #[] 0 (Nat.le_refl _) (by unfold maxLen; omega) rfl
        have hs1 : w.heap.size ≤ (w.alloc (.cells #[] 3)).heap.size := b1.size
        have hadd : k + (n - k) = n := by omega
        go_wp2_with (first
          | (refine wpList_append_iv rfl _ _ rfl w.heap.size (k + 1) v3 _ rfl o3 _ (n - k) _ (fun j => gl xs (k + j)) rfl (h3.sub k (n - k) (by omega)) (by omega) b3.size ?_; intro v4 w4 o4 g4)
          | (refine wpList_isub rfl _ _ _ rfl h3 k (n - k) (by omega) rfl (.inl rfl) (.inr ⟨rfl, hadd⟩) ?_)
          | (refine wpList_append_iv rfl _ _ rfl w.heap.size k v2 _ rfl (o2.alloc _) _ 1 1 (fun _ => x) rfl (one_int w2 x) (by omega) (by have := b2.size; simp; omega) ?_; intro v3 w3 o3 g3; have b3 : Below w.heap.size w w3 := (b2.alloc b2.size _).grown g3 (by have := b2.size; simp; omega) (fun q hq => (o2.lt q hq).1); have h3 := h.keep b3)
          | (refine wpList_append_iv rfl _ _ rfl w.heap.size 0 (.slice (some ⟨w.heap.size, 0, none⟩) 0 0) [] rfl o0 _ k _ (fun j => gl xs (0 + j)) rfl (h1.sub 0 k (by omega)) (by omega) hs1 ?_; intro v2 w2 o2 g2; rw [Nat.zero_add, List.nil_append] at o2; have b2 : Below w.heap.size w w2 := b1.grown g2 hs1 (fun q hq => by cases hq; exact Nat.le_refl _))
          | (refine wpList_isub rfl _ _ _ rfl h1 0 k (by omega) rfl (.inr ⟨rfl, rfl⟩) (.inl (by rw [Nat.zero_add]; rfl)) ?_))
        go_ret
        have hNo := HN.out
        have b4 : Below w.heap.size w w4 := b3.grown g4 b3.size (fun q hq => (o3.lt q hq).1)
        refine ⟨_, rfl, ?_, b4⟩
        have e0 : ivs (fun j => gl xs (0 + j)) k = lvl (xs.take k) := by rw [show (fun j => gl xs (0 + j)) = gl xs from funext (fun j => by rw [Nat.zero_add])]; exact ivs_take xs k (by omega)
        have e1 : ivs (fun j => gl xs (k + j)) (n - k) = lvl (xs.drop k) := by have := ivs_drop xs k (by omega); rw [← hNo] at this; exact this
        rw [e0, e1, show k + 1 + (n - k) = (ins xs x).length by rw [ins_len]; omega] at o4
        rw [← FIN.out]
        exact o4
    · obtain rfl : k = n := by omega
      have FIN := fin (fun _ => by omega)
      clear fin HK
      have b1 : Below w.heap.size w (w.alloc (.cells #[] 3)) := (Below.refl _ _).alloc (Nat.le_refl _) _
      have h1 := h.keep b1
      have o0 : (w.alloc (.cells #[] 3)).ownsRow w.heap.size 3 1 (.slice (some ⟨w.heap.size, 0, none⟩) 0 0) 0 [] := World.ownsRow_lit (base := w.heap.size) (e := 3) (size := 1) w #[] 0 (Nat.le_refl _) (by unfold maxLen; omega) rfl
      have hs1 : w.heap.size ≤ (w.alloc (.cells #[] 3)).heap.size := b1.size
      have hadd : k + (k - k) = k := by omega
      go_wp2_with (first
        | (refine wpList_append_iv rfl _ _ rfl w.heap.size (k + 1) v3 _ rfl o3 _ (k - k) _ (fun j => gl xs (k + j)) rfl (h3.sub k (k - k) (by omega)) (by omega) b3.size ?_; intro v4 w4 o4 g4)
        | (refine wpList_isub rfl _ _ _ rfl h3 k (k - k) (by omega) rfl (.inl rfl) (.inr ⟨rfl, hadd⟩) ?_)
        | (refine wpList_append_iv rfl _ _ rfl w.heap.size k v2 _ rfl (o2.alloc _) _ 1 1 (fun _ => x) rfl (one_int w2 x) (by omega) (by have := b2.size; simp; omega) ?_; intro v3 w3 o3 g3; have b3 : Below w.heap.size w w3 := (b2.alloc b2.size _).grown g3 (by have := b2.size; simp; omega) (fun q hq => (o2.lt q hq).1); have h3 := h.keep b3)
        | (refine wpList_append_iv rfl _ _ rfl w.heap.size 0 (.slice (some ⟨w.heap.size, 0, none⟩) 0 0) [] rfl o0 _ k _ (fun j => gl xs (0 + j)) rfl (h1.sub 0 k (by omega)) (by omega) hs1 ?_; intro v2 w2 o2 g2; rw [Nat.zero_add, List.nil_append] at o2; have b2 : Below w.heap.size w w2 := b1.grown g2 hs1 (fun q hq => by cases hq; exact Nat.le_refl _))
        | (refine wpList_isub rfl _ _ _ rfl h1 0 k (by omega) rfl (.inr ⟨rfl, rfl⟩) (.inl (by rw [Nat.zero_add]; rfl)) ?_))
      go_ret
      have hNo := HN.out
      have b4 : Below w.heap.size w w4 := b3.grown g4 b3.size (fun q hq => (o3.lt q hq).1)
      refine ⟨_, rfl, ?_, b4⟩
      have e0 : ivs (fun j => gl xs (0 + j)) k = lvl (xs.take k) := by rw [show (fun j => gl xs (0 + j)) = gl xs from funext (fun j => by rw [Nat.zero_add])]; exact ivs_take xs k (by omega)
      have e1 : ivs (fun j => gl xs (k + j)) (k - k) = lvl (xs.drop k) := by have := ivs_drop xs k (by omega); rw [← hNo] at this; exact this
      rw [e0, e1, show k + 1 + (k - k) = (ins xs x).length by rw [ins_len]; omega] at o4
      rw [← FIN.out]
      exact o4

end Go.Proofs.Ytkclaikofdolmaa
