/- tree. -/
import Derived.Test.YtkclaikofdolmaaWPack
namespace Go.Proofs.Ytkclaikofdolmaa
open Go.RowKit

/-- The two rarest put together till one is left: the inner parts, in their order. -/
inductive HR : Int → List Pt → List Pt → Prop where
  | done (p : Int) (q : List Pt) : q.length ≤ 1 → HR p q []
  | step (p : Int) (q : List Pt) (x y : Pt) (r ps : List Pt) : (x :: y :: r).Perm q → Ple x y → (∀ z ∈ r, Ple y z) → HR (p + 1) (r ++ [.node (x.ct + y.ct) p x y]) ps → HR p q (.node (x.ct + y.ct) p x y :: ps)

theorem HR.perm {p : Int} {q q' ps : List Pt} (h : HR p q ps) (hp : q.Perm q') : HR p q' ps := by
  cases h with
  | done _ _ hl => exact .done p q' (by rw [← hp.length_eq]; exact hl)
  | step _ _ x y r ps h1 h2 h3 h4 => exact .step p q' x y r ps (h1.trans hp) h2 h3 h4

/-- In memory, while the tree grows. -/
structure Tr (w wr : World) (Q A c k : Nat) (f : Nat → It) (v : Value) (m : Nat) (g : Nat → It) : Prop where
  q : IsQ wr Q A k c f
  hp : Hp f 0 k
  own : wr.ownsRow w.heap.size 82 1 v m (pps g m)
  prt : ∀ j, j < m → IsP wr (g j).1 (g j).2
  bel : Below w.heap.size w wr
  bQ : w.heap.size ≤ Q
  bA : w.heap.size ≤ A
  sep : ∀ j, v.ownBlock = some j → j ≠ A

theorem Tr.ow {w wr : World} {Q A c k : Nat} {f : Nat → It} {v : Value} {m : Nat} {g : Nat → It} (h : Tr w wr Q A c k f v m g) : Ow w wr v m g := ⟨h.own, h.prt, h.bel⟩

theorem own_type {w : World} {base m t n : Nat} {v : Value} {xs : List Value} {fv : Nat → Value} (h : w.ownsRow base 82 1 v m xs) {j : Nat} (hj : v.ownBlock = some j) (hr : w.rowIs j t n fv) : t = 82 := by
  rcases h.2 with ⟨rfl, _⟩ | ⟨gg, cap, cur, rfl, _, hh, _⟩
  · cases hj
  · cases hj
    obtain ⟨cs, hb, _⟩ := hr
    rw [hh] at hb
    injection hb with e
    injection e with _ e
    exact e.symm

/-- The queue gave two, they are one, and it is put behind the others. -/
theorem Tr.put {w w1 w2 w3 : World} {Q A c k k' : Nat} {f f' : Nat → It} {v : Value} {m b g5 c5 : Nat} {t : Pt} {g : Nat → It} (h : Tr w w1 Q A c k f v m g)
    (hq : IsQ w2 Q A k' c f') (hh : Hp f' 0 k') (hf : Fr (fun k => k = Q ∨ k = A) w1 w2) (hb : IsP w2 b t)
    (ho : w3.ownsRow w.heap.size 82 1 (.slice (some ⟨g5, 0, none⟩) (m + 1) c5) (m + 1) (pps g m ++ [pp b])) (hg : (w2.alloc (Obj.cells #[pp b] 82)).grownBy w3 v.ownBlock) (hl : v.ownBlock = some g5 ∨ g5 = w2.heap.size + 1) :
    Tr w w3 Q A c k' f' (.slice (some ⟨g5, 0, none⟩) (m + 1) c5) (m + 1) (psh g m (b, t)) ∧ IsP w3 b t := by
  have kp12 := h.q.kp hf
  have hne : ∀ j, v.ownBlock = some j → j ≠ Q ∧ j ≠ A := fun j hj => ⟨fun e => by
    subst e
    have := own_type h.own hj h.q.box
    omega, h.sep j hj⟩
  have b12 : Below w.heap.size w w2 := h.bel.trans (hf.below _ h.bel.size (fun i hi e => by have := h.bQ; have := h.bA; omega))
  have own2 : w2.ownsRow w.heap.size 82 1 v m (pps g m) := ownsRow_fr h.own hf (fun j hj e => by
    have := hne j hj
    rcases e with e | e
    · exact this.1 e
    · exact this.2 e)
  have f23 : Fr (fun k => v.ownBlock = some k) w2 w3 := ((Fr.refl (fun k => v.ownBlock = some k) w2).alloc _).grown hg (fun k _ e => e)
  have kp23 : Kp w2 w3 := Kp.ofFr f23 (fun j fv hj hr => by have := own_type own2 hj hr; omega)
  have q3 : IsQ w3 Q A k' c f' := ⟨rowIs_fr hq.box f23 (fun e => (hne Q e).1 rfl), hq.arr.fr f23 (fun e => (hne A e).2 rfl) kp23⟩
  have hAlt : A < w2.heap.size := by obtain ⟨_, hr, _⟩ := hq.arr.row; exact hr.lt
  refine ⟨⟨q3, hh, ?_, fun j hj => ?_, (b12.alloc b12.size _).grown hg (by have := b12.size; simp; omega) (fun j hj => (h.own.lt j hj).1), h.bQ, h.bA, ?_⟩, hb.kp kp23⟩
  · have e : pps (psh g m (b, t)) (m + 1) = pps g m ++ [pp b] := by unfold pps; rw [fst_psh, List.map_append]; rfl
    rw [e]; exact ho
  · by_cases e : j = m
    · subst e; rw [psh_at]; exact hb.kp kp23
    · rw [psh_lt _ _ _ _ (by omega)]
      exact ((h.prt j (by omega)).kp kp12).kp kp23
  · intro j hj
    cases hj
    rcases hl with e | e
    · exact (hne _ e).2
    · show g5 ≠ A
      omega

theorem Tr.push {w w3 w4 : World} {Q A A' c c' k k' : Nat} {f f' : Nat → It} {m g5 c5 : Nat} {g : Nat → It} (h : Tr w w3 Q A c k f (.slice (some ⟨g5, 0, none⟩) m c5) m g)
    (hq : IsQ w4 Q A' k' c' f') (hh : Hp f' 0 k') (hA : A' = A ∨ w3.heap.size ≤ A') (hf : Fr (fun k => k = Q ∨ k = A) w3 w4) : Tr w w4 Q A' c' k' f' (.slice (some ⟨g5, 0, none⟩) m c5) m g := by
  have kp := h.q.kp hf
  have hlt := (h.own.lt g5 rfl).2
  have hne : g5 ≠ Q ∧ g5 ≠ A := ⟨fun e => by
    subst e
    have := own_type h.own rfl h.q.box
    omega, h.sep g5 rfl⟩
  refine ⟨hq, hh, ownsRow_fr h.own hf (fun j hj e => by cases hj; rcases e with e | e; exact hne.1 e; exact hne.2 e), fun j hj => (h.prt j hj).kp kp, h.bel.trans (hf.below _ h.bel.size (fun i hi e => by have := h.bQ; have := h.bA; omega)), h.bQ, ?_, ?_⟩
  · rcases hA with rfl | e
    · exact h.bA
    · exact Nat.le_trans h.bel.size e
  · intro j hj
    cases hj
    rcases hA with e | e
    · rw [e]; exact hne.2
    · show g5 ≠ A'
      omega

set_option maxRecDepth 100000 in
set_option maxHeartbeats 4000000 in
theorem tree_any (S : List Pt) (ao : Option Addr) (n c : Nat) (f : Nat → It) (w : World) (h : Rp w ao n c f) (hmap : (fst f n).map Prod.snd = S) (h2 : 2 ≤ n) (hn : n ≤ 300) (hnn : ∀ t ∈ S, 0 ≤ t.ct) (hsm : sm Pt.ct S ≤ 1000000000000) :
    Calls Try.prog 32 #[.slice ao n c] w fun e w' => ∃ v m g, e = .returned v ∧ Ow w w' v m g ∧ HR 288 S ((fst g m).map Prod.snd) ∧ m ≤ 300 := by
  obtain ⟨i0, hi, hz0, hz1, hz2⟩ := info_parts Try.info82
  go_enter Try.func32, Try.ntmps32
  go_wp2_with fail
  refine (newq_any ao n c f w h (by omega) (by omega)).mono ?_
  rintro e w3 ⟨Q, A, c3, f3, rfl, q3, hp3, pm3, bQ, bA, b3⟩
  have IN : Hid (Tr w w3 Q A c3 n f3 (.slice none 0 0) 0 (fun _ => (0, .leaf 0 0))) := ⟨q3, hp3, World.ownsRow_nil _ _ _ _, (fun j hj => by omega), b3, bQ, bA, (fun j hj => by cases hj)⟩
  have PO : Hid ((∀ ps, HR (288 + ((0 : Nat) : Int)) ((fst f3 n).map Prod.snd) ps → HR 288 S ((fst (fun _ => ((0, .leaf 0 0) : It)) 0).map Prod.snd ++ ps)) ∧ (∀ t ∈ (fst f3 n).map Prod.snd, 0 ≤ t.ct) ∧ sm Pt.ct ((fst f3 n).map Prod.snd) = sm Pt.ct S) := by
    have e := pm3.map Prod.snd
    rw [hmap] at e
    exact ⟨fun ps hps => by simpa [fst] using hps.perm e, fun t ht => hnn t (e.mem_iff.1 ht), sm_perm _ e⟩
  have HSM : Hid (sm Pt.ct S ≤ 1000000000000) := hsm
  clear q3 hp3 pm3 bQ bA b3 h hmap hnn hsm
  go_wp2_with fail
  go_loopg [3, 5] n (fun kx mv _ wx => ∃ (m1 A1 c1 : Nat) (g1 f1 : Nat → It), kx + m1 = n ∧ Hid (Tr w wx Q A1 c1 kx f1 mv m1 g1) ∧ Hid ((∀ ps, HR (288 + (m1 : Int)) ((fst f1 kx).map Prod.snd) ps → HR 288 S ((fst g1 m1).map Prod.snd ++ ps)) ∧ (∀ t ∈ (fst f1 kx).map Prod.snd, 0 ≤ t.ct) ∧ sm Pt.ct ((fst f1 kx).map Prod.snd) = sm Pt.ct S))
  case atStart => exact ⟨0, A, c3, _, f3, rfl, IN, PO⟩
  case round =>
    clear IN PO
    obtain ⟨m1, A1, c1, g1, f1, hkm, I1, P1⟩ := hrel
    have cq := load_q I1.out.q
    by_cases hk : gk ≤ 1
    · have d1 : decide ((1 : Int) < (gk : Int)) = false := by simp; omega
      have OW : Hid (Ow w _ _ m1 g1) := I1.out.ow
      have MK : Hid (HR 288 S ((fst g1 m1).map Prod.snd)) := by
        have := P1.out.1 [] (.done _ _ (by simp [fst]; omega))
        rwa [List.append_nil] at this
      clear I1 P1
      go_wp2_with fail
      refine (qlen_any _ _ _ _).mono ?_
      rintro e w4 ⟨rfl, hw⟩
      subst w4
      go_wp2_with fail
      go_ret
      exact ⟨_, m1, g1, rfl, OW.out, MK.out, by omega⟩
    · obtain ⟨k, rfl⟩ : ∃ k, gk = k + 2 := ⟨gk - 2, by omega⟩
      have d1 : decide ((1 : Int) < ((k + 2 : Nat) : Int)) = true := by simp; omega
      have hm2 : m1 ≤ 1000 := by omega
      obtain ⟨ao1, e1, hv1, _, _⟩ := I1.out.ow.rp
      subst hv1
      have hct1 : ∀ j, j < k + 2 → 0 ≤ (f1 j).2.ct ∧ (f1 j).2.ct ≤ 1000000000000 := fun j hj => by
        have hm : (f1 j).2 ∈ (fst f1 (k + 2)).map Prod.snd := List.mem_map.2 ⟨f1 j, (fst_mem _ _ _).2 ⟨j, hj, rfl⟩, rfl⟩
        have h1 := P1.out.2.1 _ hm
        have h2 := sm_le_one (f := Pt.ct) P1.out.2.1 hm
        rw [P1.out.2.2] at h2
        have := HSM.out
        omega
      have hpair := pair_any Q A1 k c1 (288 + (m1 : Int)) f1 _ I1.out.q (by omega) I1.out.hp hct1
      clear hct1
      go_wp2_with fail
      refine (qlen_any _ _ _ _).mono ?_
      rintro e w4 ⟨rfl, hw⟩
      subst w4
      go_wp2_with fail
      refine hpair.mono ?_
      rintro e w4 ⟨b, x, y, f4, rfl, pb, q4, hp4, ⟨bx, bY, pm4⟩, lxy, ly, hb4, fr4⟩
      have own4 : (w4.alloc (Obj.cells #[pp b] 82)).ownsRow w.heap.size 82 1 (.slice ao1 m1 e1) m1 (pps g1 m1) :=
        ownsRow_fr (ownsRow_fr I1.out.own fr4 (fun q hq e => by
          rcases e with e | e
          · subst e
            have := own_type I1.out.own hq I1.out.q.box
            omega
          · exact I1.out.sep q hq e)) ((Fr.refl (fun _ => False) _).alloc _) (fun _ _ h => h)
      have hsz4 : w.heap.size ≤ (w4.alloc (Obj.cells #[pp b] 82)).heap.size := by
        have h1 := Nat.le_trans I1.out.bel.size fr4.size
        simp
        omega
      have pm5 : (x :: y :: (fst f4 k).map Prod.snd).Perm ((fst f1 (k + 2)).map Prod.snd) := by have := pm4.map Prod.snd; simpa using this
      have P2 : Hid ((∀ ps, HR (288 + ((m1 + 1 : Nat) : Int)) ((fst f4 k).map Prod.snd ++ [.node (x.ct + y.ct) (288 + (m1 : Int)) x y]) ps → HR 288 S ((fst (psh g1 m1 (b, .node (x.ct + y.ct) (288 + (m1 : Int)) x y)) (m1 + 1)).map Prod.snd ++ ps)) ∧
          (∀ t ∈ (fst f4 k).map Prod.snd ++ [.node (x.ct + y.ct) (288 + (m1 : Int)) x y], 0 ≤ t.ct) ∧ sm Pt.ct ((fst f4 k).map Prod.snd ++ [.node (x.ct + y.ct) (288 + (m1 : Int)) x y]) = sm Pt.ct S) := by
        have hx := P1.out.2.1 x (pm5.mem_iff.1 (by simp))
        have hy := P1.out.2.1 y (pm5.mem_iff.1 (by simp))
        refine ⟨fun ps hps => ?_, fun t ht => ?_, ?_⟩
        · have h1 := P1.out.1 (.node (x.ct + y.ct) (288 + (m1 : Int)) x y :: ps) (.step _ _ x y _ ps pm5 lxy (fun z hz => by
            obtain ⟨t, ht, rfl⟩ := List.mem_map.1 hz
            exact ly t ht) (by rw [show 288 + (m1 : Int) + 1 = 288 + ((m1 + 1 : Nat) : Int) by omega]; exact hps))
          rw [fst_psh, List.map_append, List.append_assoc]
          exact h1
        · rcases List.mem_append.1 ht with h' | h'
          · exact P1.out.2.1 t (pm5.mem_iff.1 (by simp only [List.mem_cons]; exact .inr (.inr h')))
          · rw [List.mem_singleton] at h'
            subst h'
            show 0 ≤ x.ct + y.ct
            omega
        · have h1 := sm_perm Pt.ct pm5
          rw [P1.out.2.2] at h1
          rw [← h1, sm_append]
          simp only [sm]
          show _ + (x.ct + y.ct + 0) = _
          omega
      have PUT : Hid (∀ w5 g5 c5, w5.ownsRow w.heap.size 82 1 (.slice (some ⟨g5, 0, none⟩) (m1 + 1) c5) (m1 + 1) (pps g1 m1 ++ [pp b]) → (w4.alloc (Obj.cells #[pp b] 82)).grownBy w5 (Value.slice ao1 m1 e1).ownBlock → ((Value.slice ao1 m1 e1).ownBlock = some g5 ∨ g5 = w4.heap.size + 1) →
        Tr w w5 Q A1 c1 k f4 (.slice (some ⟨g5, 0, none⟩) (m1 + 1) c5) (m1 + 1) (psh g1 m1 (b, Pt.node (x.ct + y.ct) (288 + (m1 : Int)) x y)) ∧ IsP w5 b (.node (x.ct + y.ct) (288 + (m1 : Int)) x y)) := fun w5 g5 c5 ho hg hl => I1.out.put q4 hp4 fr4 pb ho hg hl
      clear pb q4 hp4 pm4 pm5 lxy ly hb4 fr4 hpair I1 P1 cq
      go_wp2_with (at_builtin; refine wpList_append_lies _ rfl _ _ 54 rfl w.heap.size 82 i0 (.pointer none) 1 8 Try.underlying54 hi hz0 hz1 hz2 rfl (by decide) (.slice ao1 m1 e1) m1 _ rfl own4 ⟨w4.heap.size, 0, none⟩ 1 1 [pp b] rfl rfl (cell_new _ _ _) (by intro u hu; simp at hu; subst hu; rfl) (by omega) (by unfold maxLen; omega) (by omega) hsz4 _ rfl ?_; intro g5 c5 w5 o5 gr5 l5 s5)
      have I5 := PUT.out w5 g5 c5 o5 gr5 (by simpa using l5)
      have I6 : Hid (Tr w w5 Q A1 c1 k f4 (.slice (some ⟨g5, 0, none⟩) (m1 + 1) c5) (m1 + 1) (psh g1 m1 (b, Pt.node (x.ct + y.ct) (288 + (m1 : Int)) x y)) ∧ IsP w5 b (.node (x.ct + y.ct) (288 + (m1 : Int)) x y)) := I5
      clear I5 o5 gr5 l5 s5 PUT own4 hsz4
      go_wp2_with fail
      refine (hpush_any Q A1 k c1 b _ f4 w5 I6.out.1.q I6.out.2 (by omega) I6.out.1.hp).mono ?_
      rintro e w6 ⟨A6, c6, f6, rfl, q6, hp6, pm6, hA6, fr6⟩
      have I7 : Hid (Tr w w6 Q A6 c6 (k + 1) f6 (.slice (some ⟨g5, 0, none⟩) (m1 + 1) c5) (m1 + 1) (psh g1 m1 (b, Pt.node (x.ct + y.ct) (288 + (m1 : Int)) x y))) := I6.out.1.push q6 hp6 hA6 fr6
      have P3 : Hid ((∀ ps, HR (288 + ((m1 + 1 : Nat) : Int)) ((fst f6 (k + 1)).map Prod.snd) ps → HR 288 S ((fst (psh g1 m1 (b, .node (x.ct + y.ct) (288 + (m1 : Int)) x y)) (m1 + 1)).map Prod.snd ++ ps)) ∧ (∀ t ∈ (fst f6 (k + 1)).map Prod.snd, 0 ≤ t.ct) ∧ sm Pt.ct ((fst f6 (k + 1)).map Prod.snd) = sm Pt.ct S) := by
        have e := pm6.map Prod.snd
        rw [List.map_append] at e
        exact ⟨fun ps hps => P2.out.1 ps (hps.perm e), fun t ht => P2.out.2.1 t (e.mem_iff.1 ht), (sm_perm _ e).trans P2.out.2.2⟩
      clear I6 P2 q6 hp6 pm6 hA6 fr6
      go_wp2_with fail
      go_roundg (k + 1)
      case measure => omega
      case rel => exact ⟨m1 + 1, A6, c6, _, f6, by omega, I7, P3⟩

end Go.Proofs.Ytkclaikofdolmaa
