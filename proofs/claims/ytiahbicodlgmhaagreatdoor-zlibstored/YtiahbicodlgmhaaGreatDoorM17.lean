/- LimWPop, LimWPush, LimWQueue. -/
import Derived.Test.YtiahbicodlgmhaaGreatDoorM16
import Derived.Lib.AppendZeros
/- A queue's Pop and Push, container/heap's Init, Pop; take. -/
namespace Go.Proofs.YtiahbicodlgmhaaGreatDoor.Lim
open Go.RowKit

theorem method_ptr {Q g : Nat} {name : String} {w : World}
    (hi : (Tryz.prog.info? 203).map (fun i => (i.methods.find? (fun x => x.name == name)).map (fun x => (x.path, x.func))) = some (some (#[], some (g, true)))) (n : Nat) :
    Sem.run Tryz.prog (method (n + 1) 203 (.pointer (some ⟨Q, 0, none⟩)) name) w = .ok (g, .pointer (some ⟨Q, 0, none⟩)) w := by
  cases hq : Tryz.prog.info? 203 with
  | none => rw [hq] at hi; cases hi
  | some i =>
    rw [hq] at hi
    simp only [Option.map_some, Option.some.injEq] at hi
    cases hx : i.methods.find? (fun x => x.name == name) with
    | none => rw [hx] at hi; cases hi
    | some x =>
      rw [hx] at hi
      simp only [Option.map_some, Option.some.injEq, Prod.mk.injEq] at hi
      simp [method, typeInfo, hq, hx, hi.1, hi.2, follow, receiverAt, run_underlying Tryz.underlying203, Place.get]

theorem mPop (Q : Nat) (w : World) : Sem.run Tryz.prog (method 335 203 (.pointer (some ⟨Q, 0, none⟩)) "Pop") w = .ok (186, .pointer (some ⟨Q, 0, none⟩)) w := method_ptr (by kernel_rfl) 334
theorem mPush (Q : Nat) (w : World) : Sem.run Tryz.prog (method 335 203 (.pointer (some ⟨Q, 0, none⟩)) "Push") w = .ok (187, .pointer (some ⟨Q, 0, none⟩)) w := method_ptr (by kernel_rfl) 334

theorem assert82 (v : Value) (w : World) : (Instr.typeAssert (.iface 198 v) 20 198 false).run Tryz.prog w = .ok v w := by simp [Instr.typeAssert, run_underlying Tryz.underlying198]

theorem IsQ.not85 {Q A m c : Nat} {f : Nat → It} {w : World} (h : IsQ w Q A m c f) (f' : Nat → Value) : ¬ w.rowIs Q 201 4 f' := by
  intro h'
  have := rowIs_type h.box h'
  omega

theorem IsQ.kp {Q A m c : Nat} {f : Nat → It} {w w' : World} (h : IsQ w Q A m c f) (hf : Fr (fun k => k = Q ∨ k = A) w w') : Kp w w' :=
  Kp.ofFr hf (fun b f' hb => by
    rcases hb with rfl | rfl
    · exact h.not85 f'
    · exact h.arr.not85 f')

theorem qpop_any (Q A m c : Nat) (f : Nat → It) (w : World) (h : IsQ w Q A (m + 1) c f) (hm : m ≤ 1000000) :
    Calls Tryz.prog 186 #[.pointer (some ⟨Q, 0, none⟩)] w fun e w' => e = .returned (.iface 198 (pp (f m).1)) ∧ IsQ w' Q A m c f ∧ Fr (fun k => k = Q) w w' := by
  have c0 := h.box.cell (i := 0) (by omega)
  have z0 := h.box.frozen 0
  have c1 := h.arr.cell (j := m) (by omega)
  have hle := h.arr.le
  have hf : Fr (fun k => k = Q) w (w.setCell ⟨Q, 0, none⟩ (.slice (some ⟨A, 0, none⟩) m c)) := (Fr.refl (fun k => k = Q) w).setCell rfl _
  have hq : IsQ (w.setCell ⟨Q, 0, none⟩ (.slice (some ⟨A, 0, none⟩) m c)) Q A m c f := by
    have hk : Kp w (w.setCell ⟨Q, 0, none⟩ (.slice (some ⟨A, 0, none⟩) m c)) := Kp.ofFr hf (fun b f' hb => by subst hb; exact h.not85 f')
    have ha := h.arr.fr hf (fun e => h.ne e.symm) hk
    exact ⟨(h.box.set 0 _).congr (fun i hi => by rw [if_pos (by omega)]), by omega, ha.cap, (by obtain ⟨g, hr, hg⟩ := ha.row; exact ⟨g, hr, fun j hj => hg j (by omega)⟩), fun j hj => ha.prt j (by omega)⟩
  clear h
  generalize (f m).1 = b at *
  go_enter Tryz.func186, Tryz.ntmps186
  go_wp2
  go_ret
  exact ⟨rfl, hq, hf⟩

set_option maxHeartbeats 1000000 in
theorem hpop_any (Q A m c : Nat) (f : Nat → It) (w : World) (h : IsQ w Q A (m + 1) c f) (hm : m ≤ 100000) (hp : Hp f 0 (m + 1)) :
    Calls Tryz.prog 166 #[.iface 203 (.pointer (some ⟨Q, 0, none⟩))] w fun e w' => ∃ f', e = .returned (.iface 198 (pp (f 0).1)) ∧ IsQ w' Q A m c f' ∧ Hp f' 0 m ∧ (f 0 :: fst f' m).Perm (fst f (m + 1)) ∧ Fr (fun k => k = Q ∨ k = A) w w' := by
  have mN := h.mLen
  have mS := h.mSwap
  have mP := mPop Q
  have D : Hid (Dw w Q A (m + 1) c (m + 1) f w f) := Dw.refl h
  have HP : Hid (Hp f 0 (m + 1)) := hp
  clear h hp
  go_enter Tryz.func166, Tryz.ntmps166
  go_wp2_with fail
  refine (qlen_any _ _ _ _).mono ?_
  rintro e w1 ⟨rfl, hw⟩
  subst w1
  go_wp2_with fail
  refine (swap_at D.out 0 m _ _ rfl (by omega) (by omega) (by omega) (Nat.le_refl _)).mono ?_
  rintro e w2 ⟨rfl, D2⟩
  have H1 : Hid (Hp (swp f 0 m) 1 m) := fun j k hj hk hn => by
    rw [swp_other f 0 m j (by omega) (by unfold Kid at hk; omega), swp_other f 0 m k (by unfold Kid at hk; omega) (by omega)]
    exact HP.out j k (by omega) hk (by omega)
  clear mN mS
  go_wp2_with fail
  refine (down_any Q A (m + 1) c 0 m (swp f 0 m) w2 D2.out.q (by omega) (by omega) (by omega) H1.out).mono ?_
  rintro e w3 ⟨v, f3, rfl, D3, H3⟩
  have D3' : Hid (Dw w2 Q A (m + 1) c m (swp f 0 m) w3 f3) := D3
  have H3' : Hid (Hp f3 0 m) := H3
  clear D3 H3 H1
  go_wp2_with fail
  refine (qpop_any Q A m c f3 w3 D3'.out.q (by omega)).mono ?_
  rintro e w4 ⟨rfl, q4, fr4⟩
  have e0 : f3 m = f 0 := by rw [D3'.out.far m (Nat.le_refl _), swp_right]
  rw [e0]
  have Q4 : Hid (IsQ w4 Q A m c f3) := q4
  have F4 : Hid (Fr (fun k => k = Q) w3 w4) := fr4
  have E0 : Hid (f3 m = f 0) := e0
  clear q4 fr4 e0
  go_wp2_with fail
  go_ret
  refine ⟨f3, rfl, Q4.out, H3'.out, ?_, ?_⟩
  · have h1 := D3'.out.perm
    have h2 := D2.out.perm
    rw [fst_succ, swp_right] at h2
    have h3 := (List.perm_append_right_iff [f 0]).2 h1
    exact (List.perm_append_comm (l₁ := [f 0])).trans (h3.trans h2)
  · exact ((D2.out.fr.trans D3'.out.fr (fun _ _ e => e)).trans (P := fun k => k = A) (P' := fun k => k = A) (Fr.refl _ _) (fun _ _ e => e) |> fun (k : Fr (fun k => k = A) w w3) => (⟨k.os, k.tape, k.output, k.size, fun i hi hn => k.block i hi (fun e => hn (.inr e))⟩ : Fr (fun k => k = Q ∨ k = A) w w3)).trans F4.out (fun i _ e => .inl e)

set_option maxRecDepth 100000 in
set_option maxHeartbeats 1000000 in
theorem take_any (Q A m c : Nat) (f : Nat → It) (w : World) (h : IsQ w Q A (m + 1) c f) (hm : m ≤ 100000) (hp : Hp f 0 (m + 1)) :
    Calls Tryz.prog 161 #[.pointer (some ⟨Q, 0, none⟩)] w fun e w' => ∃ f', e = .returned (pp (f 0).1) ∧ IsQ w' Q A m c f' ∧ Hp f' 0 m ∧ (f 0 :: fst f' m).Perm (fst f (m + 1)) ∧ Fr (fun k => k = Q ∨ k = A) w w' := by
  have hc := hpop_any Q A m c f w h hm hp
  clear h hp
  generalize f 0 = x at *
  go_enter Tryz.func161, Tryz.ntmps161
  go_wp2_with fail
  refine hc.mono ?_
  rintro e w1 ⟨f', rfl, q, hp, pm, fr⟩
  have R : Hid (IsQ w1 Q A m c f' ∧ Hp f' 0 m ∧ (x :: fst f' m).Perm (fst f (m + 1)) ∧ Fr (fun k => k = Q ∨ k = A) w w1) := ⟨q, hp, pm, fr⟩
  clear q hp pm fr hc
  have tA := assert82 (pp x.1) w1
  go_wp2_with fail
  go_ret
  exact ⟨f', rfl, R.out⟩

set_option maxRecDepth 100000 in
set_option maxHeartbeats 2000000 in
theorem init_any (Q A m c : Nat) (f : Nat → It) (w : World) (h : IsQ w Q A m c f) (hm : m ≤ 100000) :
    Calls Tryz.prog 160 #[.iface 203 (.pointer (some ⟨Q, 0, none⟩))] w fun e w' => ∃ f', e = .returned (.tuple #[]) ∧ IsQ w' Q A m c f' ∧ Hp f' 0 m ∧ (fst f' m).Perm (fst f m) ∧ Fr (fun k => k = A) w w' := by
  have mN := h.mLen
  have D0 : Hid (Dw w Q A m c m f w f) := Dw.refl h
  clear h
  go_enter Tryz.func160, Tryz.ntmps160
  go_wp2_with fail
  refine (qlen_any _ _ _ _).mono ?_
  rintro e w1 ⟨rfl, hw⟩
  subst w1
  clear mN
  go_wp2
  go_loopw [3] (fun iv wr => ∃ (k : Nat) (g : Nat → It), iv = .int .i64 ((k : Int) - 1) ∧ k ≤ m / 2 ∧ Hid (Dw w Q A m c m f wr g) ∧ Hid (Hp g k m)) (fun iv _ => (intOf iv + 1).toNat)
  case atStart => exact ⟨m / 2, f, by rw [Int.natCast_ediv] <;> rfl, Nat.le_refl _, D0, fun j k hj hk hn => by unfold Kid at hk; omega⟩
  case round =>
    clear D0
    obtain ⟨k, g, rfl, hk, D, H⟩ := hrel
    cases k with
    | zero =>
      have d1 : decide ((0 : Int) ≤ ((0 : Nat) : Int) - 1) = false := by simp
      go_wp2
      go_end0
      exact ⟨g, rfl, D.out.q, H.out, D.out.perm, D.out.fr⟩
    | succ k =>
      rw [show (((k + 1 : Nat) : Int) - 1) = (k : Int) by omega]
      have d1 : decide ((0 : Int) ≤ (k : Int)) = true := by simp
      go_wp2_with fail
      refine (down_any Q A m c k m g wr D.out.q (Nat.le_refl _) (by omega) (by omega) H.out).mono ?_
      rintro e w3 ⟨v, f3, rfl, D3, H3⟩
      have D3' : Hid (Dw w Q A m c m f w3 f3) := ⟨D3.q, D3.perm.trans D.out.perm, fun j hj => (D3.far j hj).trans (D.out.far j hj), D.out.fr.trans D3.fr (fun _ _ e => e)⟩
      have H3' : Hid (Hp f3 k m) := H3
      clear D3 H3 D H
      go_wp2_with fail
      go_roundw
      case rel => exact ⟨k, f3, rfl, by omega, D3', H3'⟩
      case measure => simp [intOf]

end Go.Proofs.YtiahbicodlgmhaaGreatDoor.Lim

/- container/heap's up, Push; slices.Clone of parts; newQueue. -/
namespace Go.Proofs.YtiahbicodlgmhaaGreatDoor.Lim
open Go.RowKit

theorem Tryz.info82 : (Tryz.prog.info? 198).map (fun i => (i.zero, i.size, i.bytes)) = some (some (.pointer none), 1, 8) := by kernel_rfl

set_option maxRecDepth 100000 in
set_option maxHeartbeats 4000000 in
theorem up_any (Q A n c j0 : Nat) (f : Nat → It) (w : World) (h : IsQ w Q A n c f) (hj : j0 < n) (hm : n ≤ 100000) (hp : Hr f n j0) :
    Calls Tryz.prog 162 #[.iface 203 (.pointer (some ⟨Q, 0, none⟩)), .int .i64 j0] w fun e w' => ∃ f', e = .returned (.tuple #[]) ∧ Dw w Q A n c n f w' f' ∧ Hp f' 0 n := by
  have D0 : Hid (Dw w Q A n c n f w f) := Dw.refl h
  have H0 : Hid (Hr f n j0) := hp
  clear h hp
  go_enter Tryz.func162, Tryz.ntmps162
  go_wp2
  go_loopw [1, 4] (fun jv _ wr => ∃ (k : Nat) (g : Nat → It), jv = .int .i64 k ∧ k < n ∧ Hid (Dw w Q A n c n f wr g) ∧ Hid (Hr g n k)) (fun jv _ _ => (intOf jv).toNat)
  case atStart => exact ⟨j0, f, rfl, hj, D0, H0⟩
  case round =>
    clear D0 H0
    obtain ⟨k, g, rfl, hk, D, H⟩ := hrel
    cases k with
    | zero =>
      have HR : Hid (Hp g 0 n) := H.out.rest (fun j hj => by unfold Kid at hj; omega)
      clear H
      go_wp2
      go_end0
      exact ⟨g, rfl, D.out, HR.out⟩
    | succ k =>
      have hkid : Kid (k / 2) (k + 1) := by unfold Kid; omega
      have mL := D.out.q.mLess
      have q1 : ((k : Int) / 2 == (k : Int) + 1) = false := by simp; omega
      cases hL : Pls (g (k + 1)).2 (g (k / 2)).2 with
      | true =>
        have HS : Hid (Hr (swp g (k / 2) (k + 1)) n (k / 2)) := H.out.rise hk hkid (Pls_yes hL)
        clear H
        go_wp2_with fail
        refine (less_at D.out (k + 1) (k / 2) _ _ true (by omega) (by omega) (by omega) (by omega) hL).mono ?_
        rintro e w2 ⟨rfl, D2⟩
        have mS2 := D2.out.q.mSwap
        clear D hL mL
        go_wp2_with fail
        refine (swap_at D2.out (k / 2) (k + 1) _ _ (by omega) (by omega) (by omega) (by omega) (Nat.le_refl _)).mono ?_
        rintro e w3 ⟨rfl, D3⟩
        clear D2 mS2
        go_wp2_with fail
        go_roundw
        case rel => exact ⟨k / 2, _, by rw [Int.natCast_ediv] <;> rfl, by omega, D3, HS⟩
        case measure => simp [intOf]; omega
      | false =>
        have HR : Hid (Hp g 0 n) := H.out.rest (fun j hj => by
          obtain rfl : j = k / 2 := by unfold Kid at hj; omega
          exact Pls_no hL)
        clear H
        go_wp2_with fail
        refine (less_at D.out (k + 1) (k / 2) _ _ false (by omega) (by omega) (by omega) (by omega) hL).mono ?_
        rintro e w2 ⟨rfl, D2⟩
        clear D hL mL
        go_wp2_with fail
        go_end0
        exact ⟨g, rfl, D2.out, HR.out⟩

/-- One more behind. -/
def psh (f : Nat → It) (m : Nat) (x : It) : Nat → It := fun k => if k = m then x else f k

theorem psh_at (f : Nat → It) (m : Nat) (x : It) : psh f m x m = x := by simp [psh]
theorem psh_lt (f : Nat → It) (m : Nat) (x : It) (k : Nat) (h : k < m) : psh f m x k = f k := by simp [psh, show k ≠ m by omega]
theorem fst_psh (f : Nat → It) (m : Nat) (x : It) : fst (psh f m x) (m + 1) = fst f m ++ [x] := by
  rw [fst_succ, psh_at, fst_congr _ f m (fun k hk => psh_lt f m x k hk)]

theorem cell_new (w : World) (x : Value) (t : TypeId) : ∀ j u, ([x] : List Value)[j]? = some u → (w.alloc (Obj.cells #[x] t)).cell? ((⟨w.heap.size, 0, none⟩ : Addr).add j) = some u := by
  intro j u hu
  cases j with
  | zero =>
    simp at hu
    subst hu
    have := (World.rowIs_alloc w #[x] t (fun _ => x) (fun i hi => by simp at hi; subst hi; rfl)).cell (i := 0) (by simp)
    exact this
  | succ j => simp at hu

theorem push_frame {Q A m c : Nat} {f : Nat → It} {w w5 : World} {x : Value} (_h : IsQ w Q A m c f) (hg : (w.drew.alloc (Obj.cells #[x] 198)).grownBy w5 (Value.slice (some ⟨A, 0, none⟩) m c).ownBlock) : Fr (fun k => k = A) w w5 :=
  (((Fr.refl (fun k => k = A) w).drew).alloc _).grown hg (fun k _ e => by cases e; rfl)

theorem push_q {Q A m c b g5 c5 : Nat} {t : Pt} {f : Nat → It} {w w5 : World} (h : IsQ w Q A m c f) (hb : IsP w b t) (fr : Fr (fun k => k = A) w w5) (ho : w5.ownsRow 0 198 1 (.slice (some ⟨g5, 0, none⟩) (m + 1) c5) (m + 1) (pps f m ++ [pp b])) (hA : g5 = A ∨ w.heap.size ≤ g5) :
    IsQ (w5.setCell ⟨Q, 0, none⟩ (.slice (some ⟨g5, 0, none⟩) (m + 1) c5)) Q g5 (m + 1) c5 (psh f m (b, t)) ∧ Fr (fun k => k = Q ∨ k = A) w (w5.setCell ⟨Q, 0, none⟩ (.slice (some ⟨g5, 0, none⟩) (m + 1) c5)) := by
  have hQ := h.ne
  have box5 := rowIs_fr h.box fr (fun e => hQ e)
  have kp5 : Kp w w5 := Kp.ofFr fr (fun b f' hb => by subst hb; exact h.arr.not85 f')
  have ar5 : Ar w5 g5 (m + 1) c5 (psh f m (b, t)) := Ar.ofOwn (base := 0) (by unfold pps; rw [fst_psh, List.map_append]; exact ho) (fun j hj => by
    by_cases e : j = m
    · subst e; rw [psh_at]; exact hb.kp kp5
    · rw [psh_lt _ _ _ _ (by omega)]; exact (h.arr.prt j (by omega)).kp kp5)
  have hQ5 : Q ≠ g5 := by
    rcases hA with e | e
    · rw [e]; exact hQ
    · have := h.box.lt; omega
  have frs : Fr (fun k => k = Q) w5 (w5.setCell ⟨Q, 0, none⟩ (.slice (some ⟨g5, 0, none⟩) (m + 1) c5)) := (Fr.refl (fun k => k = Q) w5).setCell rfl _
  have kps : Kp w5 (w5.setCell ⟨Q, 0, none⟩ (.slice (some ⟨g5, 0, none⟩) (m + 1) c5)) := Kp.ofFr frs (fun b f' hb h' => by
    subst hb
    have := rowIs_type box5 h'
    omega)
  refine ⟨⟨(box5.set 0 _).congr (fun i hi => by rw [if_pos (by omega)]), ar5.fr frs (fun e => hQ5 e.symm) kps⟩, ?_⟩
  have fr' : Fr (fun k => k = Q ∨ k = A) w w5 := ⟨fr.os, fr.tape, fr.output, fr.size, fun i hi hn => fr.block i hi (fun e => hn (.inr e))⟩
  exact fr'.trans frs (fun _ _ e => .inl e)

set_option maxRecDepth 100000 in
set_option maxHeartbeats 2000000 in
theorem qpush_any (Q A m c b : Nat) (t : Pt) (f : Nat → It) (w : World) (h : IsQ w Q A m c f) (hb : IsP w b t) (hm : m ≤ 100000) :
    Calls Tryz.prog 187 #[.pointer (some ⟨Q, 0, none⟩), .iface 198 (pp b)] w fun e w' => ∃ A' c', e = .returned (.tuple #[]) ∧ IsQ w' Q A' (m + 1) c' (psh f m (b, t)) ∧ (A' = A ∨ w.heap.size ≤ A') ∧ Fr (fun k => k = Q ∨ k = A) w w' := by
  obtain ⟨i0, hi, hz0, hz1, hz2⟩ := info_parts Tryz.info82
  have c0 := h.box.cell (i := 0) (by omega)
  have z0 := h.box.frozen 0
  have own1 : (w.drew.alloc (Obj.cells #[pp b] 198)).ownsRow 0 198 1 (.slice (some ⟨A, 0, none⟩) m c) m (pps f m) := ownsRow_fr h.arr.own (((Fr.refl (fun _ => False) _).drew).alloc _) (fun _ _ h => h)
  have new1 := cell_new w.drew (pp b) 198
  have tA := fun w => assert82 (pp b) w
  have hAl : (w.alloc (Obj.cells #[pp b] 198)).cell? ⟨Q, 0, none⟩ = some (.slice (some ⟨A, 0, none⟩) m c) := (((Below.refl _ w).alloc (Nat.le_refl _) _).cell (p := ⟨Q, 0, none⟩) h.box.lt).trans c0
  go_enter Tryz.func187, Tryz.ntmps187
  go_wp2_with fail
  go_region_law (refine step_append_lies (w.drew.alloc (Obj.cells #[pp b] 198)) (by rfl) (.tmp 7) (.tmp 10) 208 (by rfl) 0 198 i0 (.pointer none) 1 8 Tryz.underlying208 hi hz0 hz1 hz2 rfl (by decide) (.slice (some ⟨A, 0, none⟩) m c) m _ (by rfl) own1 ⟨w.heap.size, 0, none⟩ 1 1 [pp b] (by rfl) rfl new1 (by intro u hu; simp at hu; subst hu; rfl) (by omega) (by unfold maxLen; omega) (by omega) (by omega) (w.heap.size + 1) (by simp) ?_; intro g5 c5 w5 o5 g5r l5 s5; have k0 := (rowIs_fr h.box (push_frame h g5r) (fun e => h.ne e)).cell (i := 0) (by omega); have k1 := (rowIs_fr h.box (push_frame h g5r) (fun e => h.ne e)).frozen 0)
  all_goals
    have hA : g5 = A ∨ w.heap.size ≤ g5 := by
      rcases l5 with e | e
      · cases e; exact .inl rfl
      · exact .inr (by omega)
    have pq := push_q h hb (push_frame h g5r) o5 hA
    have HA : Hid (g5 = A ∨ w.heap.size ≤ g5) := hA
    clear k0 k1 o5 g5r s5 l5 own1 new1 h hb hA
    go_wp2_with fail
    go_end0
    exact ⟨g5, c5, rfl, pq.1, HA.out, pq.2⟩

set_option maxHeartbeats 1000000 in
theorem hpush_any (Q A m c b : Nat) (t : Pt) (f : Nat → It) (w : World) (h : IsQ w Q A m c f) (hb : IsP w b t) (hm : m ≤ 10000) (hp : Hp f 0 m) :
    Calls Tryz.prog 156 #[.iface 203 (.pointer (some ⟨Q, 0, none⟩)), .iface 198 (pp b)] w fun e w' => ∃ A' c' f', e = .returned (.tuple #[]) ∧ IsQ w' Q A' (m + 1) c' f' ∧ Hp f' 0 (m + 1) ∧ (fst f' (m + 1)).Perm (fst f m ++ [(b, t)]) ∧ (A' = A ∨ w.heap.size ≤ A') ∧ Fr (fun k => k = Q ∨ k = A) w w' := by
  have mP := mPush Q
  have hc := qpush_any Q A m c b t f w h hb (by omega)
  have HP : Hid (Hp f 0 m) := hp
  clear h hb hp
  go_enter Tryz.func156, Tryz.ntmps156
  go_wp2_with fail
  refine hc.mono ?_
  rintro e w1 ⟨A1, c1, rfl, q1, a1, fr1⟩
  have mN := q1.mLen
  have Q1 : Hid (IsQ w1 Q A1 (m + 1) c1 (psh f m (b, t))) := q1
  have F1 : Hid ((A1 = A ∨ w.heap.size ≤ A1) ∧ Fr (fun k => k = Q ∨ k = A) w w1) := ⟨a1, fr1⟩
  have H1 : Hid (Hr (psh f m (b, t)) (m + 1) m) := by
    have : Hp (psh f m (b, t)) 0 m := fun j k hj hk hn => by
      rw [psh_lt _ _ _ _ (by unfold Kid at hk; omega), psh_lt _ _ _ _ hn]
      exact HP.out j k hj hk hn
    exact this.tor
  clear q1 a1 fr1 hc
  go_wp2_with fail
  refine (qlen_any _ _ _ _).mono ?_
  rintro e w2 ⟨rfl, hw⟩
  subst w2
  go_wp2_with fail
  refine (up_any Q A1 (m + 1) c1 m (psh f m (b, t)) w1 Q1.out (by omega) (by omega) H1.out).mono ?_
  rintro e w3 ⟨f3, rfl, D3, H3⟩
  have D3' : Hid (Dw w1 Q A1 (m + 1) c1 (m + 1) (psh f m (b, t)) w3 f3) := D3
  have H3' : Hid (Hp f3 0 (m + 1)) := H3
  clear D3 H3 mN
  go_wp2_with fail
  go_end0
  refine ⟨A1, c1, f3, rfl, D3'.out.q, H3'.out, ?_, F1.out.1, ?_⟩
  · have := D3'.out.perm
    rwa [fst_psh] at this
  · exact F1.out.2.trans D3'.out.fr (fun i hi e => by
      rcases F1.out.1 with e' | e'
      · exact .inr (e.trans e')
      · omega)

end Go.Proofs.YtiahbicodlgmhaaGreatDoor.Lim

/- Slices of parts; slices.Clone of one; newQueue; pair. -/
namespace Go.Proofs.YtiahbicodlgmhaaGreatDoor.Lim
open Go.RowKit

/-- The slice value '.slice ao n c' reads as the first n parts of f. -/
structure Rp (w : World) (ao : Option Addr) (n c : Nat) (f : Nat → It) : Prop where
  le : n ≤ c
  nul : ao = none → n = 0 ∧ c = 0
  cells : ∀ ad, ao = some ad → ∀ j, j < n → w.cell? (ad.add j) = some (pp (f j).1)
  prt : ∀ j, j < n → IsP w (f j).1 (f j).2

theorem Rp.nil (w : World) (f : Nat → It) : Rp w none 0 0 f := ⟨Nat.le_refl _, fun _ => ⟨rfl, rfl⟩, (fun _ h => by cases h), (fun _ h => by omega)⟩

theorem Rp.keep {w w' : World} {ao : Option Addr} {n c : Nat} {f : Nat → It} (h : Rp w ao n c f) (hb : Below w.heap.size w w') : Rp w' ao n c f :=
  ⟨h.le, h.nul, fun ad had j hj => by
    have hc := h.cells ad had j hj
    rw [hb.cell (World.block_lt_of_cell? w _ hc)]
    exact hc, fun j hj => (h.prt j hj).kp (Kp.ofBelow hb)⟩

theorem Rp.fr {P : Nat → Prop} {w w' : World} {ao : Option Addr} {n c : Nat} {f : Nat → It} (h : Rp w ao n c f) (hf : Fr P w w') (hs : ∀ ad, ao = some ad → ¬ P ad.block) (hk : Kp w w') : Rp w' ao n c f :=
  ⟨h.le, h.nul, fun ad had j hj => by
    have hc := h.cells ad had j hj
    have hbk : (ad.add j).block = ad.block := by unfold Addr.add; split <;> rfl
    have hlt := World.block_lt_of_cell? w _ hc
    rw [World.cell?_of_block (hf.block _ hlt (by rw [hbk]; exact hs ad had))]
    exact hc, fun j hj => (h.prt j hj).kp hk⟩

theorem Rp.plain {w : World} {ao : Option Addr} {n c : Nat} {f : Nat → It} (h : Rp w ao n c f) (hn : 0 < n) :
    ∃ b off, ao = some ⟨b, off, none⟩ ∧ ∀ j, j < n → w.cell? ⟨b, off + j, none⟩ = some (pp (f j).1) := by
  cases ao with
  | none => have := (h.nul rfl).1; omega
  | some ad =>
    obtain ⟨b, off, spot⟩ := ad
    have hc := h.cells _ rfl 0 hn
    have hspot : spot = none := by simpa [Addr.add] using World.cell?_spot hc
    subst hspot
    refine ⟨b, off, rfl, fun j hj => ?_⟩
    have := h.cells _ rfl j hj
    rwa [Addr.add_lit] at this

theorem Rp.cellsOf {w : World} {ao : Option Addr} {n c : Nat} {f : Nat → It} (h : Rp w ao n c f) : ∀ ad, ao = some ad → ∀ j u, (pps f n)[j]? = some u → w.cell? (ad.add j) = some u := by
  intro ad had j u hu
  have hj : j < n := by
    have := (List.getElem?_eq_some_iff.1 hu).1
    simpa [fst] using this
  rw [h.cells ad had j hj]
  rw [pps_get f n j hj] at hu
  exact hu

theorem pps_one (f : Nat → It) (n : Nat) : ∀ v ∈ pps f n, v.oneCell' = true := by
  intro v hv
  obtain ⟨x, _, rfl⟩ := List.mem_map.1 hv
  rfl

theorem pps_len (f : Nat → It) (n : Nat) : (pps f n).length = n := by simp [fst]

/-- A row of one's own, as a slice. -/
theorem own_rp {w : World} {base n : Nat} {v : Value} {f : Nat → It} (h : w.ownsRow base 198 1 v n (pps f n)) (hp : ∀ j, j < n → IsP w (f j).1 (f j).2) :
    ∃ ao c, v = .slice ao n c ∧ Rp w ao n c f ∧ ∀ ad, ao = some ad → v.ownBlock = some ad.block ∧ base ≤ ad.block := by
  rcases h.2 with ⟨rfl, rfl⟩ | ⟨g, cap, cur, rfl, hg, hh, hle, hrest⟩
  · exact ⟨none, 0, rfl, Rp.nil _ _, fun ad had => by cases had⟩
  · refine ⟨_, _, rfl, ⟨hle, (fun e => by cases e), fun ad had j hj => ?_, hp⟩, fun ad had => by cases had; exact ⟨rfl, hg⟩⟩
    cases had
    have := h.cells (g := g) rfl j (pp (f j).1) (pps_get f n j hj)
    simpa using this

set_option maxHeartbeats 400000 in
theorem pclone_any (ao : Option Addr) (n c : Nat) (f : Nat → It) (w : World) (h : Rp w ao n c f) (h0 : 0 < n) (hn : n ≤ 1000000) :
    Calls Tryz.prog 159 #[.slice ao n c] w fun e w' => ∃ A c', e = .returned (.slice (some ⟨A, 0, none⟩) n c') ∧ Ar w' A n c' f ∧ w.heap.size ≤ A ∧ Below w.heap.size w w' := by
  obtain ⟨i0, hi, hz0, hz1, hz2⟩ := info_parts Tryz.info82
  cases ao with
  | none => have := (h.nul rfl).1; omega
  | some ad =>
    have hcells := h.cellsOf ad rfl
    have HP : Hid (∀ j, j < n → IsP w (f j).1 (f j).2) := h.prt
    clear h
    have hq := fun w => Lib.run_eql_slice_nil (P := Tryz.prog) w 191 198 (some ad) n c 0 0 Tryz.underlying191
    go_enter Tryz.func159, Tryz.ntmps159
    go_wp2_with (at_builtin; refine wpList_append_own _ rfl _ _ 191 rfl w.heap.size 198 i0 (.pointer none) 1 8 Tryz.underlying191 hi hz0 hz1 hz2 rfl (by decide) _ 0 [] rfl ?_ ad n c (pps f n) rfl ?_ ?_ (pps_one _ _) ?_ ?_ ?_ ?_)
    · exact World.ownsRow_lit (base := w.heap.size) (e := 198) (size := 1) w #[] 0 (Nat.le_refl _) (by unfold maxLen; omega) rfl
    · rw [pps_len]; omega
    · intro j u hu
      have hc := hcells j u hu
      rw [((Below.refl _ _).alloc (Nat.le_refl _) _ : Below w.heap.size w (w.alloc (.cells #[] 198))).cell (World.block_lt_of_cell? w _ hc)]
      exact hc
    · unfold maxLen; omega
    · omega
    · simp
    · intro v' w2 hown2 hgrow2 hv'
      have hb2 : Below w.heap.size w w2 := ((Below.refl _ _).alloc (Nat.le_refl _) _).grown hgrow2 (by simp) (fun q hq => by cases hq; exact Nat.le_refl _)
      obtain ⟨A, c', rfl, hA⟩ : ∃ A c', v' = .slice (some ⟨A, 0, none⟩) n c' ∧ w.heap.size ≤ A := by
        rcases hown2.2 with ⟨_, e⟩ | ⟨g, cap, cur, rfl, hg, _⟩
        · omega
        · exact ⟨g, cap, rfl, hg⟩
      have har : Hid (Ar w2 A n c' f) := Ar.ofOwn hown2 (fun j hj => (HP.out j hj).kp (Kp.ofBelow hb2))
      clear hgrow2 hcells hv' hown2
      go_wp2
      go_ret
      exact ⟨A, c', rfl, har.out, hA, hb2⟩

set_option maxRecDepth 100000 in
set_option maxHeartbeats 1000000 in
theorem newq_any (ao : Option Addr) (n c : Nat) (f : Nat → It) (w : World) (h : Rp w ao n c f) (h0 : 0 < n) (hn : n ≤ 100000) :
    Calls Tryz.prog 153 #[.slice ao n c] w fun e w' => ∃ Q A c' f', e = .returned (.pointer (some ⟨Q, 0, none⟩)) ∧ IsQ w' Q A n c' f' ∧ Hp f' 0 n ∧ (fst f' n).Perm (fst f n) ∧ w.heap.size ≤ Q ∧ w.heap.size ≤ A ∧ Below w.heap.size w w' := by
  go_enter Tryz.func153, Tryz.ntmps153
  go_wp2_with fail
  refine (pclone_any ao n c f w h h0 (by omega)).mono ?_
  rintro e w1 ⟨A, c', rfl, har, hA, hb⟩
  have bx := World.rowIs_alloc w1 #[Value.slice (some ⟨A, 0, none⟩) n c'] 208 (fun _ => .slice (some ⟨A, 0, none⟩) n c') (fun i hi => by simp at hi; subst hi; rfl)
  have b1 : Below w1.heap.size w1 (w1.alloc (Obj.cells #[Value.slice (some ⟨A, 0, none⟩) n c'] 208)) := (Below.refl _ _).alloc (Nat.le_refl _) _
  have ha1 := har.fr (P := fun _ => False) (Fr.ofBelow b1) (fun h => h) (Kp.ofBelow b1)
  have HQ : Hid (IsQ (w1.alloc (Obj.cells #[Value.slice (some ⟨A, 0, none⟩) n c'] 208)) w1.heap.size A n c' f) := ⟨bx, ha1⟩
  have bt1 : Below w.heap.size w (w1.alloc (Obj.cells #[Value.slice (some ⟨A, 0, none⟩) n c'] 208)) := hb.alloc hb.size _
  have hs := hb.size
  clear har bx hb b1 ha1
  go_wp2_with fail
  refine (init_any _ A n c' f _ HQ.out hn).mono ?_
  rintro e w2 ⟨f2, rfl, q2, hp2, pm2, fr2⟩
  have R : Hid (IsQ w2 w1.heap.size A n c' f2 ∧ Hp f2 0 n ∧ (fst f2 n).Perm (fst f n)) := ⟨q2, hp2, pm2⟩
  have B2 : Below w.heap.size w w2 := bt1.trans (fr2.below _ bt1.size (fun i hi e => by omega))
  clear q2 hp2 pm2 fr2 HQ bt1
  go_wp2_with fail
  go_ret
  exact ⟨_, A, c', f2, rfl, R.out.1, R.out.2.1, R.out.2.2, hs, hA, B2⟩

theorem zero85 : ∀ w, (zeroValue 201).run Tryz.prog w = .ok (.agg #[.int .i64 0, .int .i64 0, .pointer none, .pointer none]) w := fun w => by
  have h : (Tryz.prog.info? 201).map (fun i => (i.zero, i.size)) = some (some (.agg #[.int .i64 0, .int .i64 0, .pointer none, .pointer none]), 4) := by kernel_rfl
  exact (zero_of_info h).1 w

set_option maxRecDepth 100000 in
set_option maxHeartbeats 4000000 in
theorem pair_any (Q A m c : Nat) (p : Int) (f : Nat → It) (w : World) (h : IsQ w Q A (m + 2) c f) (hm : m ≤ 10000) (hp : Hp f 0 (m + 2)) (hct : ∀ j, j < m + 2 → 0 ≤ (f j).2.ct ∧ (f j).2.ct ≤ 1000000000000) :
    Calls Tryz.prog 155 #[.pointer (some ⟨Q, 0, none⟩), .int .i64 p] w fun e w' => ∃ b x y f', e = .returned (pp b) ∧ IsP w' b (.node (x.ct + y.ct) p x y) ∧ IsQ w' Q A m c f' ∧ Hp f' 0 m ∧
      (∃ bx by', ((bx, x) :: (by', y) :: fst f' m).Perm (fst f (m + 2))) ∧ Ple x y ∧ (∀ z ∈ fst f' m, Ple y z.2) ∧ w.heap.size ≤ b ∧ Fr (fun k => k = Q ∨ k = A) w w' := by
  go_enter Tryz.func155, Tryz.ntmps155
  go_wp2_with fail
  refine (take_any Q A (m + 1) c f w h (by omega) hp).mono ?_
  rintro e w1 ⟨f1, rfl, q1, hp1, pm1, fr1⟩
  have kp1 := h.kp fr1
  have px : IsP w1 (f 0).1 (f 0).2 := (h.arr.prt 0 (by omega)).kp kp1
  have le1 : ∀ z ∈ fst f1 (m + 1), Ple (f 0).2 z.2 := fun z hz => by
    have := pm1.mem_iff.1 (List.mem_cons_of_mem _ hz)
    obtain ⟨k, hk, rfl⟩ := (fst_mem _ _ _).1 this
    exact hp.root k hk
  have S1 : Hid (IsQ w1 Q A (m + 1) c f1 ∧ Hp f1 0 (m + 1) ∧ (f 0 :: fst f1 (m + 1)).Perm (fst f (m + 2)) ∧ Fr (fun k => k = Q ∨ k = A) w w1 ∧ IsP w1 (f 0).1 (f 0).2 ∧ (∀ z ∈ fst f1 (m + 1), Ple (f 0).2 z.2)) := ⟨q1, hp1, pm1, fr1, px, le1⟩
  clear q1 hp1 pm1 fr1 kp1 px le1 h hp
  go_wp2_with fail
  refine (take_any Q A m c f1 w1 S1.out.1 (by omega) S1.out.2.1).mono ?_
  rintro e w2 ⟨f2, rfl, q2, hp2, pm2, fr2⟩
  have kp2 := S1.out.1.kp fr2
  have px : IsP w2 (f 0).1 (f 0).2 := S1.out.2.2.2.2.1.kp kp2
  have py : IsP w2 (f1 0).1 (f1 0).2 := (S1.out.1.arr.prt 0 (by omega)).kp kp2
  have le2 : ∀ z ∈ fst f2 m, Ple (f1 0).2 z.2 := fun z hz => by
    have := pm2.mem_iff.1 (List.mem_cons_of_mem _ hz)
    obtain ⟨k, hk, rfl⟩ := (fst_mem _ _ _).1 this
    exact S1.out.2.1.root k hk
  have le0 : Ple (f 0).2 (f1 0).2 := S1.out.2.2.2.2.2 _ ((fst_mem _ _ _).2 ⟨0, by omega, rfl⟩)
  have pm : (f 0 :: f1 0 :: fst f2 m).Perm (fst f (m + 2)) := (pm2.cons (f 0)).trans S1.out.2.2.1
  have frr : Fr (fun k => k = Q ∨ k = A) w w2 := S1.out.2.2.2.1.trans fr2 (fun _ _ e => e)
  have cx : 0 ≤ (f 0).2.ct ∧ (f 0).2.ct ≤ 1000000000000 := hct 0 (by omega)
  have cy : 0 ≤ (f1 0).2.ct ∧ (f1 0).2.ct ≤ 1000000000000 := by
    have := pm.mem_iff.1 (show f1 0 ∈ f 0 :: f1 0 :: fst f2 m by simp)
    obtain ⟨k, hk, e⟩ := (fst_mem _ _ _).1 this
    rw [← e]
    exact hct k hk
  generalize f 0 = X at *
  generalize f1 0 = Y at *
  obtain ⟨bx, x⟩ := X
  obtain ⟨by', y⟩ := Y
  simp only at px py le2 le0 cx cy
  obtain ⟨l1, r1, row1⟩ := px.row
  obtain ⟨l2, r2, row2⟩ := py.row
  have d1 := row1.cell (i := 0) (by omega)
  have d2 := row2.cell (i := 0) (by omega)
  simp only [pcells] at d1 d2
  have R : Hid (IsQ w2 Q A m c f2 ∧ Hp f2 0 m ∧ ((bx, x) :: (by', y) :: fst f2 m).Perm (fst f (m + 2)) ∧ Fr (fun k => k = Q ∨ k = A) w w2 ∧ IsP w2 bx x ∧ IsP w2 by' y ∧ Ple x y ∧ (∀ z ∈ fst f2 m, Ple y z.2)) := ⟨q2, hp2, pm, frr, px, py, le0, le2⟩
  clear q2 hp2 pm2 fr2 kp2 px py le2 le0 pm frr S1 row1 row2 hct
  obtain ⟨cx', hcx⟩ : ∃ z, z = x.ct := ⟨_, rfl⟩
  obtain ⟨cy', hcy⟩ : ∃ z, z = y.ct := ⟨_, rfl⟩
  rw [← hcx] at d1 cx
  rw [← hcy] at d2 cy
  have HC : Hid (cx' = x.ct ∧ cy' = y.ct) := ⟨hcx, hcy⟩
  clear hcx hcy
  have z85 := zero85
  go_wp2_with fail
  go_region
  go_wp2_with fail
  go_ret
  obtain ⟨rq, rh, rp, rf, rx, ry, rl, rm⟩ := R.out
  obtain ⟨e1, e2⟩ := HC.out
  have b1 : Below w2.heap.size w2 (w2.alloc (Obj.cells #[.int .i64 (cx' + cy'), .int .i64 p, pp bx, pp by'] 201)).drew := ((Below.refl _ _).alloc (Nat.le_refl _) _).drew
  have kp := Kp.ofBelow b1
  refine ⟨w2.heap.size, x, y, f2, rfl, ?_, ⟨rq.box.of_block (b1.block _ rq.box.lt), rq.arr.fr (P := fun _ => False) (Fr.ofBelow b1) (fun h => h) kp⟩, rh, ⟨bx, by', rp⟩, rl, rm, rf.size, rf.trans (Fr.ofBelow (P := fun _ => False) b1) (fun _ _ h => h.elim)⟩
  refine .node _ _ _ _ _ bx by' ?_ (rx.kp kp) (ry.kp kp)
  rw [← e1, ← e2]
  exact (World.rowIs_alloc w2 #[.int .i64 (cx' + cy'), .int .i64 p, pp bx, pp by'] 201 (pcells (cx' + cy') p (some bx) (some by')) (fun i hi => by
    simp at hi
    rcases i with _ | _ | _ | _ | i <;> first | rfl | omega))

/-- 'append(v, ys...)', v the call's own or nil, ys nil or not. -/
theorem wpList_append_pv {w : World} {ops : Array Oper} {rest : List Oper} {o : Oper} {a : Act} {Q : Exit → Act → World → Prop} (hgd : o.guard = none) (s x : Operand)
    (ho : o.op = .call { callee := .builtin .append, args := #[s, x], argTypes := #[191, 191] })
    (base n : Nat) (v : Value) (xs : List Value) (hs : a.eval s = v) (hown : w.ownsRow base 198 1 v n xs)
    (ao : Option Addr) (m c : Nat) (f : Nat → It) (hx : a.eval x = .slice ao m c) (hr : Rp w ao m c f) (hlim : n + m ≤ 1000000000) (hbase : base ≤ w.heap.size)
    (h : ∀ v' w', w'.ownsRow base 198 1 v' (n + m) (xs ++ pps f m) → w.grownBy w' v.ownBlock → wpList Tryz.prog ops Q rest (a.put o.dst v') w') :
    wpList Tryz.prog ops Q (o :: rest) a w := by
  obtain ⟨i0, hi, hz0, hz1, hz2⟩ := info_parts Tryz.info82
  cases ao with
  | none =>
    obtain ⟨rfl, rfl⟩ := hr.nul rfl
    refine wpList_append_own_none hgd s x 191 ho base 198 i0 1 Tryz.underlying191 hi _ n _ hs hown hx ?_
    exact h v w (by rw [show pps f 0 = [] from rfl, List.append_nil]; exact hown) (World.grownBy.refl _ _)
  | some ad =>
    refine wpList_append_own w hgd s x 191 ho base 198 i0 (.pointer none) 1 8 Tryz.underlying191 hi hz0 hz1 hz2 rfl (by decide) _ n _ hs hown ad m c (pps f m) hx (by rw [pps_len]; omega) (hr.cellsOf ad rfl) (pps_one _ _)
      (by unfold maxLen; omega) (by omega) hbase ?_
    intro v' w' h1 h2 h3
    exact h v' w' (by simpa using h1) h2

set_option maxRecDepth 100000 in
set_option maxHeartbeats 1000000 in
theorem grow_any (n : Nat) (w : World) (h0 : 0 < n) (hn : n ≤ 100000) :
    Calls Tryz.prog 163 #[.slice none 0 0, .int .i64 n] w fun e w' => ∃ v, e = .returned v ∧ w'.ownsRow w.heap.size 198 1 v 0 [] ∧ Below w.heap.size w w' := by
  obtain ⟨i0, hi, hz0, hz1, hz2⟩ := info_parts Tryz.info82
  have d1 : decide ((n : Int) < 0) = false := by simp
  have d2 : decide ((0 : Int) < (n : Int)) = true := by simp; omega
  have hrun := Lib.run_append_nil_zeros (P := Tryz.prog) w 191 3 191 198 i0 (.pointer none) .i64 .i64 Tryz.underlying191 Tryz.underlying3 hi hz0 n h0 (by omega) (by omega) (by rw [hz2]; omega)
  go_enter Tryz.func163, Tryz.ntmps163
  go_wp2_with (at_builtin; refine Lib.wpList_append_run _ rfl _ _ _ _ rfl _ _ rfl rfl _ _ hrun ?_)
  go_ret
  refine ⟨_, rfl, World.ownsRow_made w _ _ (Nat.le_refl _) (grownCap_le_maxLen w n 0 198 (by unfold maxLen; omega)) ?_, ((Below.refl _ _).alloc (Nat.le_refl _) _).drew⟩
  have hge := grownCap_ge w n 0 198
  simp only [Array.size_append, size_zeroCells]
  simp
  omega

set_option maxRecDepth 100000 in
set_option maxHeartbeats 2000000 in
theorem concat_any (R n c m d : Nat) (ao bo : Option Addr) (f g : Nat → It) (w : World) (hf : Rp w ao n c f) (hg : Rp w bo m d g) (h0 : 0 < n) (hn : n + m ≤ 100000)
    (k0 : w.cell? ⟨R, 0, none⟩ = some (.slice ao n c)) (k1 : w.cell? ⟨R, 1, none⟩ = some (.slice bo m d)) :
    Calls Tryz.prog 157 #[.slice (some ⟨R, 0, none⟩) 2 2] w fun e w' => ∃ v, e = .returned v ∧ w'.ownsRow w.heap.size 198 1 v (n + m) (pps f n ++ pps g m) ∧ Below w.heap.size w w' := by
  have HF : Hid (Rp w ao n c f) := hf
  have HG : Hid (Rp w bo m d g) := hg
  have hR0 := World.block_lt_of_cell? w _ k0
  have hR1 := World.block_lt_of_cell? w _ k1
  clear hf hg
  go_enter Tryz.func157, Tryz.ntmps157
  go_wp2
  go_loop [3, 5, 11] (fun sv _ iv => (iv = .int .i64 0 ∧ sv = .int .i64 0) ∨ (iv = .int .i64 1 ∧ sv = .int .i64 n) ∨ (iv = .int .i64 2 ∧ sv = .int .i64 ((n + m : Nat) : Int))) (fun _ _ iv => 2 - (intOf iv).toNat)
  case atStart => exact .inl ⟨rfl, rfl⟩
  case round =>
    rcases hrel with ⟨rfl, rfl⟩ | ⟨rfl, rfl⟩ | ⟨rfl, rfl⟩
    · have q1 : decide ((n : Int) < 0) = false := by simp
      go_wp2
      go_round
      case rel => exact .inr (.inl ⟨rfl, rfl⟩)
      case measure => simp [intOf]
    · have q1 : decide ((n : Int) + (m : Int) < 0) = false := by simp; omega
      go_wp2
      go_round
      case rel => exact .inr (.inr ⟨rfl, by rw [Int.natCast_add]⟩)
      case measure => simp [intOf]
    · obtain ⟨N, hN⟩ : ∃ N, N = n + m := ⟨_, rfl⟩
      rw [← hN]
      have HN : Hid (N = n + m) := hN
      clear hN
      go_wp2_with fail
      refine (grow_any N w (by have := HN.out; omega) (by have := HN.out; omega)).mono ?_
      rintro e w1 ⟨v1, rfl, o1, b1⟩
      have c0 : w1.cell? ⟨R, 0, none⟩ = some (.slice ao n c) := (b1.cell hR0).trans k0
      have c1 : w1.cell? ⟨R, 1, none⟩ = some (.slice bo m d) := (b1.cell hR1).trans k1
      have O1 : Hid (w1.ownsRow w.heap.size 198 1 v1 0 []) := o1
      have B1 : Hid (Below w.heap.size w w1) := b1
      clear o1 b1
      go_wp2
      go_loopw [6, 8, 27] (fun rv _ iv wr => ∃ v, rv = v ∧ Hid (Below w.heap.size w wr) ∧ ((iv = .int .i64 0 ∧ Hid (wr.ownsRow w.heap.size 198 1 v 0 [])) ∨ (iv = .int .i64 1 ∧ Hid (wr.ownsRow w.heap.size 198 1 v n (pps f n))) ∨ (iv = .int .i64 2 ∧ Hid (wr.ownsRow w.heap.size 198 1 v (n + m) (pps f n ++ pps g m))))) (fun _ _ iv _ => 2 - (intOf iv).toNat)
      case atStart => exact ⟨v1, rfl, B1, .inl ⟨rfl, O1⟩⟩
      case round =>
        clear B1 O1 c0 c1
        obtain ⟨v, rfl, BW, hcase⟩ := hrel
        have c0 : wr.cell? ⟨R, 0, none⟩ = some (.slice ao n c) := (BW.out.cell hR0).trans k0
        have c1 : wr.cell? ⟨R, 1, none⟩ = some (.slice bo m d) := (BW.out.cell hR1).trans k1
        rcases hcase with ⟨rfl, OW⟩ | ⟨rfl, OW⟩ | ⟨rfl, OW⟩
        · go_wp2_with (refine wpList_append_pv rfl _ _ rfl w.heap.size 0 _ [] rfl OW.out ao n c f rfl (HF.out.keep BW.out) (by omega) BW.out.size ?_; intro v5 w5 o5 g5)
          have o5' : Hid (w5.ownsRow w.heap.size 198 1 v5 n (pps f n)) := by rw [Nat.zero_add, List.nil_append] at o5; exact o5
          have b5 : Hid (Below w.heap.size w w5) := BW.out.grown g5 BW.out.size (fun q hq => (OW.out.lt q hq).1)
          clear o5 g5 OW BW c0 c1
          go_wp2_with fail
          go_roundw
          case rel => exact ⟨v5, rfl, b5, .inr (.inl ⟨rfl, o5'⟩)⟩
          case measure => simp [intOf]
        · go_wp2_with (refine wpList_append_pv rfl _ _ rfl w.heap.size n _ (pps f n) rfl OW.out bo m d g rfl (HG.out.keep BW.out) (by omega) BW.out.size ?_; intro v5 w5 o5 g5)
          have o5' : Hid (w5.ownsRow w.heap.size 198 1 v5 (n + m) (pps f n ++ pps g m)) := o5
          have b5 : Hid (Below w.heap.size w w5) := BW.out.grown g5 BW.out.size (fun q hq => (OW.out.lt q hq).1)
          clear o5 g5 OW BW c0 c1
          go_wp2_with fail
          go_roundw
          case rel => exact ⟨v5, rfl, b5, .inr (.inr ⟨rfl, o5'⟩)⟩
          case measure => simp [intOf]
        · clear c0 c1
          go_wp2
          go_ret
          exact ⟨_, rfl, OW.out, BW.out⟩

end Go.Proofs.YtiahbicodlgmhaaGreatDoor.Lim
