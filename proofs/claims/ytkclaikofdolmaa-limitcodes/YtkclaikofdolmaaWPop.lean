/- A queue's Pop and Push, container/heap's Init, Pop; take. -/
import Derived.Test.YtkclaikofdolmaaWDown
namespace Go.Proofs.Ytkclaikofdolmaa
open Go.RowKit

theorem method_ptr {Q g : Nat} {name : String} {w : World}
    (hi : (Try.prog.info? 87).map (fun i => (i.methods.find? (fun x => x.name == name)).map (fun x => (x.path, x.func))) = some (some (#[], some (g, true)))) (n : Nat) :
    Sem.run Try.prog (method (n + 1) 87 (.pointer (some ⟨Q, 0, none⟩)) name) w = .ok (g, .pointer (some ⟨Q, 0, none⟩)) w := by
  cases hq : Try.prog.info? 87 with
  | none => rw [hq] at hi; cases hi
  | some i =>
    rw [hq] at hi
    simp only [Option.map_some, Option.some.injEq] at hi
    cases hx : i.methods.find? (fun x => x.name == name) with
    | none => rw [hx] at hi; cases hi
    | some x =>
      rw [hx] at hi
      simp only [Option.map_some, Option.some.injEq, Prod.mk.injEq] at hi
      simp [method, typeInfo, hq, hx, hi.1, hi.2, follow, receiverAt, run_underlying Try.underlying87, Place.get]

theorem mPop (Q : Nat) (w : World) : Sem.run Try.prog (method 224 87 (.pointer (some ⟨Q, 0, none⟩)) "Pop") w = .ok (85, .pointer (some ⟨Q, 0, none⟩)) w := method_ptr (by kernel_rfl) 223
theorem mPush (Q : Nat) (w : World) : Sem.run Try.prog (method 224 87 (.pointer (some ⟨Q, 0, none⟩)) "Push") w = .ok (86, .pointer (some ⟨Q, 0, none⟩)) w := method_ptr (by kernel_rfl) 223

theorem assert82 (v : Value) (w : World) : (Instr.typeAssert (.iface 82 v) 20 82 false).run Try.prog w = .ok v w := by simp [Instr.typeAssert, run_underlying Try.underlying82]

theorem IsQ.not85 {Q A m c : Nat} {f : Nat → It} {w : World} (h : IsQ w Q A m c f) (f' : Nat → Value) : ¬ w.rowIs Q 85 4 f' := by
  intro h'
  have := rowIs_type h.box h'
  omega

theorem IsQ.kp {Q A m c : Nat} {f : Nat → It} {w w' : World} (h : IsQ w Q A m c f) (hf : Fr (fun k => k = Q ∨ k = A) w w') : Kp w w' :=
  Kp.ofFr hf (fun b f' hb => by
    rcases hb with rfl | rfl
    · exact h.not85 f'
    · exact h.arr.not85 f')

theorem qpop_any (Q A m c : Nat) (f : Nat → It) (w : World) (h : IsQ w Q A (m + 1) c f) (hm : m ≤ 1000000) :
    Calls Try.prog 85 #[.pointer (some ⟨Q, 0, none⟩)] w fun e w' => e = .returned (.iface 82 (pp (f m).1)) ∧ IsQ w' Q A m c f ∧ Fr (fun k => k = Q) w w' := by
  have c0 := h.box.cell (i := 0) (by omega)
  have z0 := h.box.frozen 0
  have c1 := h.arr.cell (j := m) (by omega)
  have hle := h.arr.le
  have hf : Fr (fun k => k = Q) w (w.setCell ⟨Q, 0, none⟩ (.slice (some ⟨A, 0, none⟩) m c)) := (Fr.refl (fun k => k = Q) w).setCell rfl _
  have hq : IsQ (w.setCell ⟨Q, 0, none⟩ (.slice (some ⟨A, 0, none⟩) m c)) Q A m c f := by
    have hk : Kp w (w.setCell ⟨Q, 0, none⟩ (.slice (some ⟨A, 0, none⟩) m c)) := Kp.ofFr hf (fun b f' hb => by subst hb; exact h.not85 f')
    have ha := h.arr.fr hf (fun e => h.ne e.symm) hk
    exact ⟨(h.box.set 0 _).congr (fun i hi => by rw [if_pos (by omega)]), by omega, ha.cap, (by obtain ⟨g, hr, hg⟩ := ha.row; exact ⟨g, hr, fun j hj => hg j (by omega)⟩), fun j hj => ha.prt j (by omega)⟩
  clear h
  generalize (f m).1 = b at *
  go_enter Try.func85, Try.ntmps85
  go_wp2
  go_ret
  exact ⟨rfl, hq, hf⟩

set_option maxHeartbeats 1000000 in
theorem hpop_any (Q A m c : Nat) (f : Nat → It) (w : World) (h : IsQ w Q A (m + 1) c f) (hm : m ≤ 100000) (hp : Hp f 0 (m + 1)) :
    Calls Try.prog 64 #[.iface 87 (.pointer (some ⟨Q, 0, none⟩))] w fun e w' => ∃ f', e = .returned (.iface 82 (pp (f 0).1)) ∧ IsQ w' Q A m c f' ∧ Hp f' 0 m ∧ (f 0 :: fst f' m).Perm (fst f (m + 1)) ∧ Fr (fun k => k = Q ∨ k = A) w w' := by
  have mN := h.mLen
  have mS := h.mSwap
  have mP := mPop Q
  have D : Hid (Dw w Q A (m + 1) c (m + 1) f w f) := Dw.refl h
  have HP : Hid (Hp f 0 (m + 1)) := hp
  clear h hp
  go_enter Try.func64, Try.ntmps64
  go_wp2_with fail
  refine (qlen_any _ _ _ _).mono ?_
  rintro e w1 ⟨rfl, hw⟩
  subst w1
  go_wp2_with fail
  refine (swap_at D.out 0 m _ _ rfl (by omega) (by omega) (by omega) (Nat.le_refl _)).mono ?_
  rintro e w2 ⟨rfl, D2⟩
  have H1 : Hid (Hp (swp f 0 m) 1 m) := fun j k hj hk hn => by
    rw [swp_other f 0 m j (by omega) (by unfold Kid at hk; omega), swp_other f 0 m k (by unfold Kid at hk; omega) (by omega)]
    exact HP.out j k (by omega) hk (by omega)
  clear mN mS
  go_wp2_with fail
  refine (down_any Q A (m + 1) c 0 m (swp f 0 m) w2 D2.out.q (by omega) (by omega) (by omega) H1.out).mono ?_
  rintro e w3 ⟨v, f3, rfl, D3, H3⟩
  have D3' : Hid (Dw w2 Q A (m + 1) c m (swp f 0 m) w3 f3) := D3
  have H3' : Hid (Hp f3 0 m) := H3
  clear D3 H3 H1
  go_wp2_with fail
  refine (qpop_any Q A m c f3 w3 D3'.out.q (by omega)).mono ?_
  rintro e w4 ⟨rfl, q4, fr4⟩
  have e0 : f3 m = f 0 := by rw [D3'.out.far m (Nat.le_refl _), swp_right]
  rw [e0]
  have Q4 : Hid (IsQ w4 Q A m c f3) := q4
  have F4 : Hid (Fr (fun k => k = Q) w3 w4) := fr4
  have E0 : Hid (f3 m = f 0) := e0
  clear q4 fr4 e0
  go_wp2_with fail
  go_ret
  refine ⟨f3, rfl, Q4.out, H3'.out, ?_, ?_⟩
  · have h1 := D3'.out.perm
    have h2 := D2.out.perm
    rw [fst_succ, swp_right] at h2
    have h3 := (List.perm_append_right_iff [f 0]).2 h1
    exact (List.perm_append_comm (l₁ := [f 0])).trans (h3.trans h2)
  · exact ((D2.out.fr.trans D3'.out.fr (fun _ _ e => e)).trans (P := fun k => k = A) (P' := fun k => k = A) (Fr.refl _ _) (fun _ _ e => e) |> fun (k : Fr (fun k => k = A) w w3) => (⟨k.os, k.tape, k.output, k.size, fun i hi hn => k.block i hi (fun e => hn (.inr e))⟩ : Fr (fun k => k = Q ∨ k = A) w w3)).trans F4.out (fun i _ e => .inl e)

set_option maxRecDepth 100000 in
set_option maxHeartbeats 1000000 in
theorem take_any (Q A m c : Nat) (f : Nat → It) (w : World) (h : IsQ w Q A (m + 1) c f) (hm : m ≤ 100000) (hp : Hp f 0 (m + 1)) :
    Calls Try.prog 61 #[.pointer (some ⟨Q, 0, none⟩)] w fun e w' => ∃ f', e = .returned (pp (f 0).1) ∧ IsQ w' Q A m c f' ∧ Hp f' 0 m ∧ (f 0 :: fst f' m).Perm (fst f (m + 1)) ∧ Fr (fun k => k = Q ∨ k = A) w w' := by
  have hc := hpop_any Q A m c f w h hm hp
  clear h hp
  generalize f 0 = x at *
  go_enter Try.func61, Try.ntmps61
  go_wp2_with fail
  refine hc.mono ?_
  rintro e w1 ⟨f', rfl, q, hp, pm, fr⟩
  have R : Hid (IsQ w1 Q A m c f' ∧ Hp f' 0 m ∧ (x :: fst f' m).Perm (fst f (m + 1)) ∧ Fr (fun k => k = Q ∨ k = A) w w1) := ⟨q, hp, pm, fr⟩
  clear q hp pm fr hc
  have tA := assert82 (pp x.1) w1
  go_wp2_with fail
  go_ret
  exact ⟨f', rfl, R.out⟩

set_option maxRecDepth 100000 in
set_option maxHeartbeats 2000000 in
theorem init_any (Q A m c : Nat) (f : Nat → It) (w : World) (h : IsQ w Q A m c f) (hm : m ≤ 100000) :
    Calls Try.prog 59 #[.iface 87 (.pointer (some ⟨Q, 0, none⟩))] w fun e w' => ∃ f', e = .returned (.tuple #[]) ∧ IsQ w' Q A m c f' ∧ Hp f' 0 m ∧ (fst f' m).Perm (fst f m) ∧ Fr (fun k => k = A) w w' := by
  have mN := h.mLen
  have D0 : Hid (Dw w Q A m c m f w f) := Dw.refl h
  clear h
  go_enter Try.func59, Try.ntmps59
  go_wp2_with fail
  refine (qlen_any _ _ _ _).mono ?_
  rintro e w1 ⟨rfl, hw⟩
  subst w1
  clear mN
  go_wp2
  go_loopw [3] (fun iv wr => ∃ (k : Nat) (g : Nat → It), iv = .int .i64 ((k : Int) - 1) ∧ k ≤ m / 2 ∧ Hid (Dw w Q A m c m f wr g) ∧ Hid (Hp g k m)) (fun iv _ => (intOf iv + 1).toNat)
  case atStart => exact ⟨m / 2, f, by rw [Int.natCast_ediv] <;> rfl, Nat.le_refl _, D0, fun j k hj hk hn => by unfold Kid at hk; omega⟩
  case round =>
    clear D0
    obtain ⟨k, g, rfl, hk, D, H⟩ := hrel
    cases k with
    | zero =>
      have d1 : decide ((0 : Int) ≤ ((0 : Nat) : Int) - 1) = false := by simp
      go_wp2
      go_end0
      exact ⟨g, rfl, D.out.q, H.out, D.out.perm, D.out.fr⟩
    | succ k =>
      rw [show (((k + 1 : Nat) : Int) - 1) = (k : Int) by omega]
      have d1 : decide ((0 : Int) ≤ (k : Int)) = true := by simp
      go_wp2_with fail
      refine (down_any Q A m c k m g wr D.out.q (Nat.le_refl _) (by omega) (by omega) H.out).mono ?_
      rintro e w3 ⟨v, f3, rfl, D3, H3⟩
      have D3' : Hid (Dw w Q A m c m f w3 f3) := ⟨D3.q, D3.perm.trans D.out.perm, fun j hj => (D3.far j hj).trans (D.out.far j hj), D.out.fr.trans D3.fr (fun _ _ e => e)⟩
      have H3' : Hid (Hp f3 k m) := H3
      clear D3 H3 D H
      go_wp2_with fail
      go_roundw
      case rel => exact ⟨k, f3, rfl, by omega, D3', H3'⟩
      case measure => simp [intOf]

end Go.Proofs.Ytkclaikofdolmaa
