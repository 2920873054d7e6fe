/- container/heap's up, Push; slices.Clone of parts; newQueue. -/
import Derived.Test.YtkclaikofdolmaaWPop
namespace Go.Proofs.Ytkclaikofdolmaa
open Go.RowKit

theorem Try.info82 : (Try.prog.info? 82).map (fun i => (i.zero, i.size, i.bytes)) = some (some (.pointer none), 1, 8) := by kernel_rfl

set_option maxRecDepth 100000 in
set_option maxHeartbeats 4000000 in
theorem up_any (Q A n c j0 : Nat) (f : Nat → It) (w : World) (h : IsQ w Q A n c f) (hj : j0 < n) (hm : n ≤ 100000) (hp : Hr f n j0) :
    Calls Try.prog 62 #[.iface 87 (.pointer (some ⟨Q, 0, none⟩)), .int .i64 j0] w fun e w' => ∃ f', e = .returned (.tuple #[]) ∧ Dw w Q A n c n f w' f' ∧ Hp f' 0 n := by
  have D0 : Hid (Dw w Q A n c n f w f) := Dw.refl h
  have H0 : Hid (Hr f n j0) := hp
  clear h hp
  go_enter Try.func62, Try.ntmps62
  go_wp2
  go_loopw [1, 4] (fun jv _ wr => ∃ (k : Nat) (g : Nat → It), jv = .int .i64 k ∧ k < n ∧ Hid (Dw w Q A n c n f wr g) ∧ Hid (Hr g n k)) (fun jv _ _ => (intOf jv).toNat)
  case atStart => exact ⟨j0, f, rfl, hj, D0, H0⟩
  case round =>
    clear D0 H0
    obtain ⟨k, g, rfl, hk, D, H⟩ := hrel
    cases k with
    | zero =>
      have HR : Hid (Hp g 0 n) := H.out.rest (fun j hj => by unfold Kid at hj; omega)
      clear H
      go_wp2
      go_end0
      exact ⟨g, rfl, D.out, HR.out⟩
    | succ k =>
      have hkid : Kid (k / 2) (k + 1) := by unfold Kid; omega
      have mL := D.out.q.mLess
      have q1 : ((k : Int) / 2 == (k : Int) + 1) = false := by simp; omega
      cases hL : Pls (g (k + 1)).2 (g (k / 2)).2 with
      | true =>
        have HS : Hid (Hr (swp g (k / 2) (k + 1)) n (k / 2)) := H.out.rise hk hkid (Pls_yes hL)
        clear H
        go_wp2_with fail
        refine (less_at D.out (k + 1) (k / 2) _ _ true (by omega) (by omega) (by omega) (by omega) hL).mono ?_
        rintro e w2 ⟨rfl, D2⟩
        have mS2 := D2.out.q.mSwap
        clear D hL mL
        go_wp2_with fail
        refine (swap_at D2.out (k / 2) (k + 1) _ _ (by omega) (by omega) (by omega) (by omega) (Nat.le_refl _)).mono ?_
        rintro e w3 ⟨rfl, D3⟩
        clear D2 mS2
        go_wp2_with fail
        go_roundw
        case rel => exact ⟨k / 2, _, by rw [Int.natCast_ediv] <;> rfl, by omega, D3, HS⟩
        case measure => simp [intOf]; omega
      | false =>
        have HR : Hid (Hp g 0 n) := H.out.rest (fun j hj => by
          obtain rfl : j = k / 2 := by unfold Kid at hj; omega
          exact Pls_no hL)
        clear H
        go_wp2_with fail
        refine (less_at D.out (k + 1) (k / 2) _ _ false (by omega) (by omega) (by omega) (by omega) hL).mono ?_
        rintro e w2 ⟨rfl, D2⟩
        clear D hL mL
        go_wp2_with fail
        go_end0
        exact ⟨g, rfl, D2.out, HR.out⟩

/-- One more behind. -/
def psh (f : Nat → It) (m : Nat) (x : It) : Nat → It := fun k => if k = m then x else f k

theorem psh_at (f : Nat → It) (m : Nat) (x : It) : psh f m x m = x := by simp [psh]
theorem psh_lt (f : Nat → It) (m : Nat) (x : It) (k : Nat) (h : k < m) : psh f m x k = f k := by simp [psh, show k ≠ m by omega]
theorem fst_psh (f : Nat → It) (m : Nat) (x : It) : fst (psh f m x) (m + 1) = fst f m ++ [x] := by
  rw [fst_succ, psh_at, fst_congr _ f m (fun k hk => psh_lt f m x k hk)]

theorem cell_new (w : World) (x : Value) (t : TypeId) : ∀ j u, ([x] : List Value)[j]? = some u → (w.alloc (Obj.cells #[x] t)).cell? ((⟨w.heap.size, 0, none⟩ : Addr).add j) = some u := by
  intro j u hu
  cases j with
  | zero =>
    simp at hu
    subst hu
    have := (World.rowIs_alloc w #[x] t (fun _ => x) (fun i hi => by simp at hi; subst hi; rfl)).cell (i := 0) (by simp)
    exact this
  | succ j => simp at hu

theorem push_frame {Q A m c : Nat} {f : Nat → It} {w w5 : World} {x : Value} (_h : IsQ w Q A m c f) (hg : (w.drew.alloc (Obj.cells #[x] 82)).grownBy w5 (Value.slice (some ⟨A, 0, none⟩) m c).ownBlock) : Fr (fun k => k = A) w w5 :=
  (((Fr.refl (fun k => k = A) w).drew).alloc _).grown hg (fun k _ e => by cases e; rfl)

theorem push_q {Q A m c b g5 c5 : Nat} {t : Pt} {f : Nat → It} {w w5 : World} (h : IsQ w Q A m c f) (hb : IsP w b t) (fr : Fr (fun k => k = A) w w5) (ho : w5.ownsRow 0 82 1 (.slice (some ⟨g5, 0, none⟩) (m + 1) c5) (m + 1) (pps f m ++ [pp b])) (hA : g5 = A ∨ w.heap.size ≤ g5) :
    IsQ (w5.setCell ⟨Q, 0, none⟩ (.slice (some ⟨g5, 0, none⟩) (m + 1) c5)) Q g5 (m + 1) c5 (psh f m (b, t)) ∧ Fr (fun k => k = Q ∨ k = A) w (w5.setCell ⟨Q, 0, none⟩ (.slice (some ⟨g5, 0, none⟩) (m + 1) c5)) := by
  have hQ := h.ne
  have box5 := rowIs_fr h.box fr (fun e => hQ e)
  have kp5 : Kp w w5 := Kp.ofFr fr (fun b f' hb => by subst hb; exact h.arr.not85 f')
  have ar5 : Ar w5 g5 (m + 1) c5 (psh f m (b, t)) := Ar.ofOwn (base := 0) (by unfold pps; rw [fst_psh, List.map_append]; exact ho) (fun j hj => by
    by_cases e : j = m
    · subst e; rw [psh_at]; exact hb.kp kp5
    · rw [psh_lt _ _ _ _ (by omega)]; exact (h.arr.prt j (by omega)).kp kp5)
  have hQ5 : Q ≠ g5 := by
    rcases hA with e | e
    · rw [e]; exact hQ
    · have := h.box.lt; omega
  have frs : Fr (fun k => k = Q) w5 (w5.setCell ⟨Q, 0, none⟩ (.slice (some ⟨g5, 0, none⟩) (m + 1) c5)) := (Fr.refl (fun k => k = Q) w5).setCell rfl _
  have kps : Kp w5 (w5.setCell ⟨Q, 0, none⟩ (.slice (some ⟨g5, 0, none⟩) (m + 1) c5)) := Kp.ofFr frs (fun b f' hb h' => by
    subst hb
    have := rowIs_type box5 h'
    omega)
  refine ⟨⟨(box5.set 0 _).congr (fun i hi => by rw [if_pos (by omega)]), ar5.fr frs (fun e => hQ5 e.symm) kps⟩, ?_⟩
  have fr' : Fr (fun k => k = Q ∨ k = A) w w5 := ⟨fr.os, fr.tape, fr.output, fr.size, fun i hi hn => fr.block i hi (fun e => hn (.inr e))⟩
  exact fr'.trans frs (fun _ _ e => .inl e)

set_option maxRecDepth 100000 in
set_option maxHeartbeats 2000000 in
theorem qpush_any (Q A m c b : Nat) (t : Pt) (f : Nat → It) (w : World) (h : IsQ w Q A m c f) (hb : IsP w b t) (hm : m ≤ 100000) :
    Calls Try.prog 86 #[.pointer (some ⟨Q, 0, none⟩), .iface 82 (pp b)] w fun e w' => ∃ A' c', e = .returned (.tuple #[]) ∧ IsQ w' Q A' (m + 1) c' (psh f m (b, t)) ∧ (A' = A ∨ w.heap.size ≤ A') ∧ Fr (fun k => k = Q ∨ k = A) w w' := by
  obtain ⟨i0, hi, hz0, hz1, hz2⟩ := info_parts Try.info82
  have c0 := h.box.cell (i := 0) (by omega)
  have z0 := h.box.frozen 0
  have own1 : (w.drew.alloc (Obj.cells #[pp b] 82)).ownsRow 0 82 1 (.slice (some ⟨A, 0, none⟩) m c) m (pps f m) := ownsRow_fr h.arr.own (((Fr.refl (fun _ => False) _).drew).alloc _) (fun _ _ h => h)
  have new1 := cell_new w.drew (pp b) 82
  have tA := fun w => assert82 (pp b) w
  have hAl : (w.alloc (Obj.cells #[pp b] 82)).cell? ⟨Q, 0, none⟩ = some (.slice (some ⟨A, 0, none⟩) m c) := (((Below.refl _ w).alloc (Nat.le_refl _) _).cell (p := ⟨Q, 0, none⟩) h.box.lt).trans c0
  go_enter Try.func86, Try.ntmps86
  go_wp2_with fail
  go_region_law (refine step_append_lies (w.drew.alloc (Obj.cells #[pp b] 82)) (by rfl) (.tmp 7) (.tmp 10) 96 (by rfl) 0 82 i0 (.pointer none) 1 8 Try.underlying96 hi hz0 hz1 hz2 rfl (by decide) (.slice (some ⟨A, 0, none⟩) m c) m _ (by rfl) own1 ⟨w.heap.size, 0, none⟩ 1 1 [pp b] (by rfl) rfl new1 (by intro u hu; simp at hu; subst hu; rfl) (by omega) (by unfold maxLen; omega) (by omega) (by omega) (w.heap.size + 1) (by simp) ?_; intro g5 c5 w5 o5 g5r l5 s5; have k0 := (rowIs_fr h.box (push_frame h g5r) (fun e => h.ne e)).cell (i := 0) (by omega); have k1 := (rowIs_fr h.box (push_frame h g5r) (fun e => h.ne e)).frozen 0)
  all_goals
    have hA : g5 = A ∨ w.heap.size ≤ g5 := by
      rcases l5 with e | e
      · cases e; exact .inl rfl
      · exact .inr (by omega)
    have pq := push_q h hb (push_frame h g5r) o5 hA
    have HA : Hid (g5 = A ∨ w.heap.size ≤ g5) := hA
    clear k0 k1 o5 g5r s5 l5 own1 new1 h hb hA
    go_wp2_with fail
    go_end0
    exact ⟨g5, c5, rfl, pq.1, HA.out, pq.2⟩

set_option maxHeartbeats 1000000 in
theorem hpush_any (Q A m c b : Nat) (t : Pt) (f : Nat → It) (w : World) (h : IsQ w Q A m c f) (hb : IsP w b t) (hm : m ≤ 10000) (hp : Hp f 0 m) :
    Calls Try.prog 51 #[.iface 87 (.pointer (some ⟨Q, 0, none⟩)), .iface 82 (pp b)] w fun e w' => ∃ A' c' f', e = .returned (.tuple #[]) ∧ IsQ w' Q A' (m + 1) c' f' ∧ Hp f' 0 (m + 1) ∧ (fst f' (m + 1)).Perm (fst f m ++ [(b, t)]) ∧ (A' = A ∨ w.heap.size ≤ A') ∧ Fr (fun k => k = Q ∨ k = A) w w' := by
  have mP := mPush Q
  have hc := qpush_any Q A m c b t f w h hb (by omega)
  have HP : Hid (Hp f 0 m) := hp
  clear h hb hp
  go_enter Try.func51, Try.ntmps51
  go_wp2_with fail
  refine hc.mono ?_
  rintro e w1 ⟨A1, c1, rfl, q1, a1, fr1⟩
  have mN := q1.mLen
  have Q1 : Hid (IsQ w1 Q A1 (m + 1) c1 (psh f m (b, t))) := q1
  have F1 : Hid ((A1 = A ∨ w.heap.size ≤ A1) ∧ Fr (fun k => k = Q ∨ k = A) w w1) := ⟨a1, fr1⟩
  have H1 : Hid (Hr (psh f m (b, t)) (m + 1) m) := by
    have : Hp (psh f m (b, t)) 0 m := fun j k hj hk hn => by
      rw [psh_lt _ _ _ _ (by unfold Kid at hk; omega), psh_lt _ _ _ _ hn]
      exact HP.out j k hj hk hn
    exact this.tor
  clear q1 a1 fr1 hc
  go_wp2_with fail
  refine (qlen_any _ _ _ _).mono ?_
  rintro e w2 ⟨rfl, hw⟩
  subst w2
  go_wp2_with fail
  refine (up_any Q A1 (m + 1) c1 m (psh f m (b, t)) w1 Q1.out (by omega) (by omega) H1.out).mono ?_
  rintro e w3 ⟨f3, rfl, D3, H3⟩
  have D3' : Hid (Dw w1 Q A1 (m + 1) c1 (m + 1) (psh f m (b, t)) w3 f3) := D3
  have H3' : Hid (Hp f3 0 (m + 1)) := H3
  clear D3 H3 mN
  go_wp2_with fail
  go_end0
  refine ⟨A1, c1, f3, rfl, D3'.out.q, H3'.out, ?_, F1.out.1, ?_⟩
  · have := D3'.out.perm
    rwa [fst_psh] at this
  · exact F1.out.2.trans D3'.out.fr (fun i hi e => by
      rcases F1.out.1 with e' | e'
      · exact .inr (e.trans e')
      · omega)

end Go.Proofs.Ytkclaikofdolmaa
