/- total, Size, Check. -/
import Derived.Test.YtgdodphpomkakaaTok
namespace Go.Proofs.Ytgdodphpomkakaa
open Go.RowKit

theorem Tk.taken {w : World} {ao : Option Addr} {n : Nat} {ts : List Tok} (h : Tk w ao n ts) (k : Nat) (hk : k < n) : tot (ts.take (k + 1)) = tot (ts.take k) + sz (ts.getD k tz) :=
  tot_take ts k (by have := h.len; omega)

theorem Tk.all {w : World} {ao : Option Addr} {n : Nat} {ts : List Tok} (h : Tk w ao n ts) : ts.take n = ts := by rw [← h.len]; exact List.take_length

theorem tot_take_max (ts : List Tok) (k : Nat) : tot (ts.take k) ≤ 258 * k := by
  have h1 := tot_max (ts.take k)
  have h2 : (ts.take k).length ≤ k := by simp; omega
  omega

theorem keep3 {w wr w1 : World} {o : Obj} (hb : Below w.heap.size w wr) (hb1 : Below (wr.alloc o).heap.size (wr.alloc o) w1) : Below w.heap.size w w1 :=
  (hb.alloc hb.size o).trans (hb1.mono (by simp; have := hb.size; omega))

set_option maxRecDepth 100000 in
theorem total_any (ao : Option Addr) (n c : Nat) (ts : List Tok) (w : World) (h : Tk w ao n ts) (hn : n ≤ 1000000) :
    Calls Try.prog 16 #[.slice ao n c] w fun e w' => e = .returned (.int .i64 (tot ts)) ∧ Below w.heap.size w w' := by
  go_enter Try.func16, Try.ntmps16
  go_wp2
  go_loopw [3, 8] (fun m i wr => ∃ k : Nat, k ≤ n ∧ i = .int .i64 k ∧ m = .int .i64 (tot (ts.take k)) ∧ Below w.heap.size w wr) (fun _ i _ => n - (intOf i).toNat)
  case atStart => exact ⟨0, by omega, rfl, rfl, Below.refl _ _⟩
  case round =>
    obtain ⟨k, hk, rfl, rfl, hb⟩ := hrel
    by_cases hlt : k < n
    · have hT := (h.keep hb).cells k hlt
      have e := h.taken k hlt
      have m1 := tot_take_max ts k
      have m2 := sz_le (ts.getD k tz)
      obtain ⟨t, ht⟩ : ∃ t, t = ts.getD k tz := ⟨_, rfl⟩
      obtain ⟨T, hT'⟩ : ∃ T, T = tot (ts.take k) := ⟨_, rfl⟩
      rw [← ht] at hT e m2
      rw [← hT'] at e m1 ⊢
      obtain ⟨b, off, rfl, h0, h1, h2⟩ := hT
      have hsz := fun W => size_any t W
      obtain ⟨s, hs⟩ : ∃ s, s = sz t := ⟨_, rfl⟩
      rw [← hs] at e m2
      simp only [← hs] at hsz
      have HE : Hid (tot (ts.take (k + 1)) = T + s) := e
      clear e ht hT' hs h
      obtain ⟨l, m, d⟩ := t
      go_wp2_with (go_at_call 20; refine (hsz _).mono ?_; rintro e w1 ⟨rfl, hb1⟩)
      go_roundw
      case rel => exact ⟨k + 1, by omega, by go_num, by rw [HE.out]; go_num, keep3 hb hb1⟩
      case measure => simp [intOf]; omega
    · obtain rfl : k = n := by omega
      have e := h.all
      rw [e]
      clear h
      go_wp2
      go_ret
      exact ⟨rfl, hb⟩

theorem wpList_min {ops : Array Oper} {rest : List Oper} {op : Oper} {a : Act} {w : World} {Q : Exit → Act → World → Prop} (hgd : op.guard = none) (tt : TypeId) (x y : Operand) (ho : op.op = .call { callee := .builtin .min, args := #[x, y], argTypes := #[tt, tt] })
    (p q : Int) (hx : a.eval x = .int .i64 p) (hy : a.eval y = .int .i64 q) (r : Int) (hr : r = min p q)
    (hk : wpList Try.prog ops Q rest (a.put op.dst (.int .i64 r)) w) : wpList Try.prog ops Q (op :: rest) a w := by
  refine wpList_plain hgd fun K hK => ?_
  have hk' := hK _ _ hk
  subst hr
  unfold Oper.wp
  have hm : (Builtin.min2 (.int .i64 p) (.int .i64 q)).run Try.prog w = .ok (.int .i64 (min p q)) w := by
    by_cases h : p < q
    · rw [show min p q = p by omega]
      simp [Builtin.min2, go_sem]; omega
    · rw [show min p q = q by omega]
      simp [Builtin.min2, go_sem]; omega
  simp [execOp, ho, resolve, invoke, builtin, hx, hy, Builtin.min_, hm, Result.andThen]
  exact hk'

theorem size_all (ao : Option Addr) (n c : Nat) (ts : List Tok) (w : World) (h : Tk w ao n ts) (hn : n ≤ 1000000) :
    Calls Try.prog 13 #[.slice ao n c] w fun e w' => e = .returned (.int .i64 (min (tot ts) 262145 : Nat)) ∧ Below w.heap.size w w' := by
  have ht := total_any ao n c ts w h hn
  clear h
  obtain ⟨r, hr⟩ : ∃ r, r = min (tot ts) 262145 := ⟨_, rfl⟩
  have hm : ((r : Nat) : Int) = min ((tot ts : Nat) : Int) 262145 := by omega
  rw [← hr]
  have HM : Hid (((r : Nat) : Int) = min ((tot ts : Nat) : Int) 262145) := hm
  clear hr hm
  generalize tot ts = T at *
  go_enter Try.func13, Try.ntmps13
  go_wp2_with (first | (go_at_call 16; refine ht.mono ?_; rintro e w1 ⟨rfl, hb1⟩) | (refine wpList_min rfl 2 _ _ rfl (T : Int) 262145 rfl rfl (r : Int) HM.out ?_))
  go_ret
  exact ⟨rfl, hb1⟩

set_option maxRecDepth 100000 in
set_option maxHeartbeats 400000 in
theorem check_any (ao : Option Addr) (n c : Nat) (ts : List Tok) (w : World) (h : Tk w ao n ts) (hn : n ≤ 1000000) :
    Calls Try.prog 11 #[.slice ao n c] w fun e w' => ∃ g : Int, e = .returned (.int .i64 g) ∧ ((g = 0 ∧ Ok ts n) ∨ (g = 2 ∧ ¬ Ok ts n)) ∧ Below w.heap.size w w' := by
  go_enter Try.func11, Try.ntmps11
  go_wp2
  go_loopw [3, 8] (fun m i wr => ∃ k : Nat, k ≤ n ∧ i = .int .i64 k ∧ m = .int .i64 (min (tot (ts.take k)) 32768 : Nat) ∧ Ok ts k ∧ Below w.heap.size w wr) (fun _ i _ => n - (intOf i).toNat)
  case atStart => exact ⟨0, by omega, rfl, rfl, Ok.zero _, Below.refl _ _⟩
  case round =>
    obtain ⟨k, hk, rfl, rfl, hok, hb⟩ := hrel
    by_cases hlt : k < n
    · have hT := (h.keep hb).cells k hlt
      have e := h.taken k hlt
      have m2 := sz_le (ts.getD k tz)
      have hst : okT (tot (ts.take k)) (ts.getD k tz) → Ok ts (k + 1) := hok.step
      have hno : ¬ okT (tot (ts.take k)) (ts.getD k tz) → ¬ Ok ts n := fun hh hO => hh (hO k hlt)
      obtain ⟨t, ht⟩ : ∃ t, t = ts.getD k tz := ⟨_, rfl⟩
      obtain ⟨B, hB⟩ : ∃ B, B = min (tot (ts.take k)) 32768 := ⟨_, rfl⟩
      have hmin : min (tot (ts.take (k + 1))) 32768 = min (B + sz t) 32768 := by rw [← ht] at e; omega
      unfold okT at hst hno
      rw [← ht, ← hB] at hst hno
      rw [← ht] at hT m2
      rw [← hB]
      have hB2 : B ≤ 32768 := by omega
      obtain ⟨b, off, rfl, h0, h1, h2⟩ := hT
      have hsz := fun W => size_any t W
      have hli := fun W => isLit_any t W
      have hco := fun W => isCopy_any t B W
      obtain ⟨s, hs⟩ : ∃ s, s = sz t := ⟨_, rfl⟩
      rw [← hs] at hmin m2
      simp only [← hs] at hsz
      obtain ⟨r, hr⟩ : ∃ r, r = min (B + s) 32768 := ⟨_, rfl⟩
      have hri : (r : Int) = min ((B : Int) + s) 32768 := by omega
      have HE : Hid (min (tot (ts.take (k + 1))) 32768 = r) := by rw [hr]; exact hmin
      have HR : Hid ((r : Int) = min ((B : Int) + s) 32768) := hri
      have HS : Hid (isL t ∨ isC t B → Ok ts (k + 1)) := hst
      have HN : Hid (¬ (isL t ∨ isC t B) → ¬ Ok ts n) := hno
      clear e ht hB hs h hmin hst hno hr hri hok
      by_cases hL : isL t
      · have d1 : decide (isL t) = true := decide_eq_true hL
        simp only [d1] at hli
        clear d1 hco HN
        have HO : Hid (Ok ts (k + 1)) := HS.out (.inl hL)
        clear HS hL
        obtain ⟨l, m, d⟩ := t
        go_wp2_with (first | (go_at_call 18; refine (hli _).mono ?_; rintro e w1 ⟨rfl, hb1⟩; obtain ⟨a0, a1, a2⟩ := (Bx.new wr (.int .u8 l) (.int .i64 m) (.int .i64 d) 40).keep hb1) | (go_at_call 20; refine (hsz _).mono ?_; rintro e w2 ⟨rfl, hb2⟩) | (refine wpList_min rfl 3 _ _ rfl ((B : Int) + s) 32768 rfl rfl (r : Int) HR.out ?_))
        go_roundw
        case rel => exact ⟨k + 1, by omega, by go_num, by rw [HE.out], HO.out, (keep3 hb hb1).trans (hb2.mono (keep3 hb hb1).size)⟩
        case measure => simp [intOf]; omega
      · have d1 : decide (isL t) = false := decide_eq_false hL
        simp only [d1] at hli
        by_cases hC : isC t B
        · have d2 : decide (isC t B) = true := decide_eq_true hC
          simp only [d2] at hco
          have HO : Hid (Ok ts (k + 1)) := HS.out (.inr hC)
          clear HS hL hC HN d1 d2
          obtain ⟨l, m, d⟩ := t
          go_wp2_with (first | (go_at_call 18; refine (hli _).mono ?_; rintro e w1 ⟨rfl, hb1⟩; obtain ⟨a0, a1, a2⟩ := (Bx.new wr (.int .u8 l) (.int .i64 m) (.int .i64 d) 40).keep hb1) | (go_at_call 19; refine (hco _).mono ?_; rintro e w2 ⟨rfl, hb2⟩; obtain ⟨c0, c1, c2⟩ := ((Bx.new wr (.int .u8 l) (.int .i64 m) (.int .i64 d) 40).keep hb1).keep hb2) | (go_at_call 20; refine (hsz _).mono ?_; rintro e w3 ⟨rfl, hb3⟩) | (refine wpList_min rfl 3 _ _ rfl ((B : Int) + s) 32768 rfl rfl (r : Int) HR.out ?_))
          go_roundw
          case rel => exact ⟨k + 1, by omega, by go_num, by rw [HE.out], HO.out, ((keep3 hb hb1).trans (hb2.mono (keep3 hb hb1).size)).trans (hb3.mono (by have := (keep3 hb hb1).size; have := hb2.size; omega))⟩
          case measure => simp [intOf]; omega
        · have d2 : decide (isC t B) = false := decide_eq_false hC
          simp only [d2] at hco
          have HO : Hid (¬ Ok ts n) := HN.out (fun hh => hh.elim hL hC)
          clear HS hL hC HN d1 d2
          obtain ⟨l, m, d⟩ := t
          go_wp2_with (first | (go_at_call 18; refine (hli _).mono ?_; rintro e w1 ⟨rfl, hb1⟩; obtain ⟨a0, a1, a2⟩ := (Bx.new wr (.int .u8 l) (.int .i64 m) (.int .i64 d) 40).keep hb1) | (go_at_call 19; refine (hco _).mono ?_; rintro e w2 ⟨rfl, hb2⟩))
          go_ret
          exact ⟨2, rfl, .inr ⟨rfl, HO.out⟩, (keep3 hb hb1).trans (hb2.mono (keep3 hb hb1).size)⟩
    · obtain rfl : k = n := by omega
      clear h
      go_wp2
      go_ret
      exact ⟨0, rfl, .inl ⟨rfl, hok⟩, hb⟩

end Go.Proofs.Ytgdodphpomkakaa
