/- container/heap's down. -/
import Derived.Test.YtkclaikofdolmaaPart
namespace Go.Proofs.Ytkclaikofdolmaa
open Go.RowKit

theorem method_is {Q A m c g : Nat} {name : String} {w : World} (h : w.rowIs Q 96 1 (fun _ => .slice (some ⟨A, 0, none⟩) m c))
    (hi : (Try.prog.info? 87).map (fun i => (i.methods.find? (fun x => x.name == name)).map (fun x => (x.path, x.func))) = some (some (#[], some (g, false)))) (n : Nat) :
    Sem.run Try.prog (method (n + 1) 87 (.pointer (some ⟨Q, 0, none⟩)) name) w = .ok (g, .slice (some ⟨A, 0, none⟩) m c) w := by
  cases hq : Try.prog.info? 87 with
  | none => rw [hq] at hi; cases hi
  | some i =>
    rw [hq] at hi
    simp only [Option.map_some, Option.some.injEq] at hi
    cases hx : i.methods.find? (fun x => x.name == name) with
    | none => rw [hx] at hi; cases hi
    | some x =>
      rw [hx] at hi
      simp only [Option.map_some, Option.some.injEq, Prod.mk.injEq] at hi
      exact method_via h hq hx hi.1 hi.2 n

theorem IsQ.mLess {Q A m c : Nat} {f : Nat → It} {w : World} (h : IsQ w Q A m c f) : Sem.run Try.prog (method 224 87 (.pointer (some ⟨Q, 0, none⟩)) "Less") w = .ok (84, .slice (some ⟨A, 0, none⟩) m c) w :=
  method_is h.box (by kernel_rfl) 223

theorem IsQ.mSwap {Q A m c : Nat} {f : Nat → It} {w : World} (h : IsQ w Q A m c f) : Sem.run Try.prog (method 224 87 (.pointer (some ⟨Q, 0, none⟩)) "Swap") w = .ok (87, .slice (some ⟨A, 0, none⟩) m c) w :=
  method_is h.box (by kernel_rfl) 223

theorem IsQ.mLen {Q A m c : Nat} {f : Nat → It} {w : World} (h : IsQ w Q A m c f) : Sem.run Try.prog (method 224 87 (.pointer (some ⟨Q, 0, none⟩)) "Len") w = .ok (48, .slice (some ⟨A, 0, none⟩) m c) w :=
  method_is h.box (by kernel_rfl) 223

theorem Kp.drewN (w : World) (n : Nat) : Kp w (w.drewN n) := ⟨Nat.le_refl _, fun _ _ h => h⟩

theorem IsQ.drewN {Q A m c : Nat} {f : Nat → It} {w : World} (h : IsQ w Q A m c f) (n : Nat) : IsQ (w.drewN n) Q A m c f :=
  ⟨h.box, h.arr.le, h.arr.cap, h.arr.row, fun j hj => (h.arr.prt j hj).kp (Kp.drewN w n)⟩

theorem IsQ.ne {Q A m c : Nat} {f : Nat → It} {w : World} (h : IsQ w Q A m c f) : Q ≠ A := by
  obtain ⟨g, hr, _⟩ := h.arr.row
  intro e
  subst e
  have := rowIs_type h.box hr
  omega

theorem Fr.drewN {P : Nat → Prop} {a b : World} (h : Fr P a b) (n : Nat) : Fr P a (b.drewN n) := ⟨h.os, h.tape, h.output, h.size, h.block⟩

/-- The queue as it is while it is turned. -/
structure Dw (w : World) (Q A m c n : Nat) (f : Nat → It) (w' : World) (f' : Nat → It) : Prop where
  q : IsQ w' Q A m c f'
  perm : (fst f' n).Perm (fst f n)
  far : ∀ k, n ≤ k → f' k = f k
  fr : Fr (fun k => k = A) w w'

theorem Dw.refl {w : World} {Q A m c n : Nat} {f : Nat → It} (h : IsQ w Q A m c f) : Dw w Q A m c n f w f := ⟨h, List.Perm.refl _, fun _ _ => rfl, Fr.refl _ _⟩

theorem Dw.drewN {w w' : World} {Q A m c n : Nat} {f f' : Nat → It} (h : Dw w Q A m c n f w' f') (k : Nat) : Dw w Q A m c n f (w'.drewN k) f' := ⟨h.q.drewN k, h.perm, h.far, h.fr.drewN k⟩

theorem Dw.swap {w w' w'' : World} {Q A m c n : Nat} {f f' : Nat → It} (h : Dw w Q A m c n f w' f') (i j : Nat) (hi : i < n) (hj : j < n) (ha : Ar w'' A m c (swp f' i j)) (hf : Fr (fun k => k = A) w' w'') : Dw w Q A m c n f w'' (swp f' i j) :=
  ⟨⟨rowIs_fr h.q.box hf (fun e => h.q.ne e), ha⟩, (fst_swp f' i j n hi hj).trans h.perm, fun k hk => (swp_other f' i j k (by omega) (by omega)).trans (h.far k hk), h.fr.trans hf (fun _ _ e => e)⟩

theorem less_at {w wr : World} {Q A m c n : Nat} {f g : Nat → It} (D : Dw w Q A m c n f wr g) (i j : Nat) (x y : Int) (b : Bool) (hx : x = (i : Int)) (hy : y = (j : Int)) (hi : i < m) (hj : j < m) (hb : Pls (g i).2 (g j).2 = b) :
    Calls Try.prog 84 #[.slice (some ⟨A, 0, none⟩) m c, .int .i64 x, .int .i64 y] wr fun e w' => e = .returned (.bool b) ∧ Hid (Dw w Q A m c n f w' g) := by
  subst hx hy hb
  refine (less_any A m c i j g wr D.q.arr hi hj).mono ?_
  rintro e w' ⟨rfl, q, rfl⟩
  exact ⟨rfl, D.drewN q⟩

theorem swap_at {w wr : World} {Q A m c n : Nat} {f g : Nat → It} (D : Dw w Q A m c n f wr g) (i j : Nat) (x y : Int) (hx : x = (i : Int)) (hy : y = (j : Int)) (hi : i < n) (hj : j < n) (hn : n ≤ m) :
    Calls Try.prog 87 #[.slice (some ⟨A, 0, none⟩) m c, .int .i64 x, .int .i64 y] wr fun e w' => e = .returned (.tuple #[]) ∧ Hid (Dw w Q A m c n f w' (swp g i j)) := by
  subst hx hy
  refine (swap_any A m c i j g wr D.q.arr (by omega) (by omega)).mono ?_
  rintro e w' ⟨rfl, ha, hf⟩
  exact ⟨rfl, D.swap i j hi hj ha hf⟩

set_option maxRecDepth 100000 in
set_option maxHeartbeats 4000000 in
theorem down_any (Q A m c i0 n : Nat) (f : Nat → It) (w : World) (h : IsQ w Q A m c f) (hn : n ≤ m) (hi : i0 ≤ 1000000) (hm : m ≤ 1000000) (hp : Hp f (i0 + 1) n) :
    Calls Try.prog 63 #[.iface 87 (.pointer (some ⟨Q, 0, none⟩)), .int .i64 i0, .int .i64 n] w fun e w' => ∃ v f', e = .returned (.bool v) ∧ Dw w Q A m c n f w' f' ∧ Hp f' i0 n := by
  have D0 : Hid (Dw w Q A m c n f w f) := Dw.refl h
  have H0 : Hid (Hq f i0 n i0) := hp.toq
  clear h hp
  go_enter Try.func63, Try.ntmps63
  go_wp2
  go_loopw [7, 8, 9, 10] (fun iv _ _ _ wr => ∃ (k : Nat) (g : Nat → It), iv = .int .i64 k ∧ i0 ≤ k ∧ k ≤ 1000000 ∧ Hid (Dw w Q A m c n f wr g) ∧ Hid (Hq g i0 n k)) (fun iv _ _ _ _ => n - (intOf iv).toNat)
  case atStart => exact ⟨i0, f, rfl, Nat.le_refl _, hi, D0, H0⟩
  case round =>
    clear D0 H0
    obtain ⟨k, g, rfl, hk0, hk1, D, H⟩ := hrel
    have mL := D.out.q.mLess
    by_cases h1 : 2 * k + 1 < n
    · have d1 : decide ((n : Int) ≤ 2 * (k : Int) + 1) = false := by simp; omega
      have d2 : decide (2 * (k : Int) + 1 < 0) = false := by simp; omega
      have hkn : k < n := by omega
      by_cases h2 : 2 * k + 2 < n
      · have d3 : decide (2 * (k : Int) + 1 + 1 < (n : Int)) = true := by simp; omega
        cases hL1 : Pls (g (2 * k + 2)).2 (g (2 * k + 1)).2 with
        | true =>
          have HM : Hid (∀ k', Kid k k' → k' < n → Ple (g (2 * k + 2)).2 (g k').2) := fun k' hk' _ => by
            rcases hk' with rfl | rfl
            · exact Pls_yes hL1
            · exact Ple.refl _
          go_wp2_with fail
          refine (less_at D.out (2 * k + 2) (2 * k + 1) _ _ true (by omega) (by omega) (by omega) (by omega) hL1).mono ?_
          rintro e w1 ⟨rfl, D1⟩
          clear D hL1 mL
          have mL1 := D1.out.q.mLess
          cases hL2 : Pls (g (2 * k + 2)).2 (g k).2 with
          | true =>
            have HS : Hid (Hq (swp g k (2 * k + 2)) i0 n (2 * k + 2)) := H.out.sink hk0 (by unfold Kid; omega) (by omega) (Pls_yes hL2) HM.out
            clear H HM
            go_wp2_with fail
            refine (less_at D1.out (2 * k + 2) k _ _ true (by omega) rfl (by omega) (by omega) hL2).mono ?_
            rintro e w2 ⟨rfl, D2⟩
            have mS2 := D2.out.q.mSwap
            clear D1 hL2
            go_wp2_with fail
            refine (swap_at D2.out k (2 * k + 2) _ _ rfl (by omega) (by omega) (by omega) hn).mono ?_
            rintro e w3 ⟨rfl, D3⟩
            clear D2
            go_wp2_with fail
            go_roundw
            case rel => exact ⟨2 * k + 2, _, by go_num, by omega, by omega, D3, HS⟩
            case measure => simp [intOf]; omega
          | false =>
            have HR : Hid (Hp g i0 n) := H.out.rest (fun k' hk' hn' => (Pls_no hL2).trans (HM.out k' hk' hn'))
            clear H HM
            go_wp2_with fail
            refine (less_at D1.out (2 * k + 2) k _ _ false (by omega) rfl (by omega) (by omega) hL2).mono ?_
            rintro e w2 ⟨rfl, D2⟩
            clear D1 hL2
            go_wp2_with fail
            go_ret
            exact ⟨_, g, rfl, D2.out, HR.out⟩
        | false =>
          have HM : Hid (∀ k', Kid k k' → k' < n → Ple (g (2 * k + 1)).2 (g k').2) := fun k' hk' _ => by
            rcases hk' with rfl | rfl
            · exact Ple.refl _
            · exact Pls_no hL1
          go_wp2_with fail
          refine (less_at D.out (2 * k + 2) (2 * k + 1) _ _ false (by omega) (by omega) (by omega) (by omega) hL1).mono ?_
          rintro e w1 ⟨rfl, D1⟩
          clear D hL1 mL
          have mL1 := D1.out.q.mLess
          cases hL2 : Pls (g (2 * k + 1)).2 (g k).2 with
          | true =>
            have HS : Hid (Hq (swp g k (2 * k + 1)) i0 n (2 * k + 1)) := H.out.sink hk0 (by unfold Kid; omega) (by omega) (Pls_yes hL2) HM.out
            clear H HM
            go_wp2_with fail
            refine (less_at D1.out (2 * k + 1) k _ _ true (by omega) rfl (by omega) (by omega) hL2).mono ?_
            rintro e w2 ⟨rfl, D2⟩
            have mS2 := D2.out.q.mSwap
            clear D1 hL2
            go_wp2_with fail
            refine (swap_at D2.out k (2 * k + 1) _ _ rfl (by omega) (by omega) (by omega) hn).mono ?_
            rintro e w3 ⟨rfl, D3⟩
            clear D2
            go_wp2_with fail
            go_roundw
            case rel => exact ⟨2 * k + 1, _, by go_num, by omega, by omega, D3, HS⟩
            case measure => simp [intOf]; omega
          | false =>
            have HR : Hid (Hp g i0 n) := H.out.rest (fun k' hk' hn' => (Pls_no hL2).trans (HM.out k' hk' hn'))
            clear H HM
            go_wp2_with fail
            refine (less_at D1.out (2 * k + 1) k _ _ false (by omega) rfl (by omega) (by omega) hL2).mono ?_
            rintro e w2 ⟨rfl, D2⟩
            clear D1 hL2
            go_wp2_with fail
            go_ret
            exact ⟨_, g, rfl, D2.out, HR.out⟩
      · have d3 : decide (2 * (k : Int) + 1 + 1 < (n : Int)) = false := by simp; omega
        have HM : Hid (∀ k', Kid k k' → k' < n → Ple (g (2 * k + 1)).2 (g k').2) := fun k' hk' hn' => by
          rcases hk' with rfl | rfl
          · exact Ple.refl _
          · omega
        clear mL
        have mL1 := D.out.q.mLess
        cases hL2 : Pls (g (2 * k + 1)).2 (g k).2 with
        | true =>
          have HS : Hid (Hq (swp g k (2 * k + 1)) i0 n (2 * k + 1)) := H.out.sink hk0 (by unfold Kid; omega) (by omega) (Pls_yes hL2) HM.out
          clear H HM
          go_wp2_with fail
          refine (less_at D.out (2 * k + 1) k _ _ true (by omega) rfl (by omega) (by omega) hL2).mono ?_
          rintro e w2 ⟨rfl, D2⟩
          have mS2 := D2.out.q.mSwap
          clear D hL2
          go_wp2_with fail
          refine (swap_at D2.out k (2 * k + 1) _ _ rfl (by omega) (by omega) (by omega) hn).mono ?_
          rintro e w3 ⟨rfl, D3⟩
          clear D2
          go_wp2_with fail
          go_roundw
          case rel => exact ⟨2 * k + 1, _, by go_num, by omega, by omega, D3, HS⟩
          case measure => simp [intOf]; omega
        | false =>
          have HR : Hid (Hp g i0 n) := H.out.rest (fun k' hk' hn' => (Pls_no hL2).trans (HM.out k' hk' hn'))
          clear H HM
          go_wp2_with fail
          refine (less_at D.out (2 * k + 1) k _ _ false (by omega) rfl (by omega) (by omega) hL2).mono ?_
          rintro e w2 ⟨rfl, D2⟩
          clear D hL2
          go_wp2_with fail
          go_ret
          exact ⟨_, g, rfl, D2.out, HR.out⟩
    · have d1 : decide ((n : Int) ≤ 2 * (k : Int) + 1) = true := by simp; omega
      have HR : Hid (Hp g i0 n) := H.out.rest (fun k' hk' hn' => by unfold Kid at hk'; omega)
      clear H mL
      go_wp2
      go_ret
      exact ⟨_, g, rfl, D.out, HR.out⟩

end Go.Proofs.Ytkclaikofdolmaa
