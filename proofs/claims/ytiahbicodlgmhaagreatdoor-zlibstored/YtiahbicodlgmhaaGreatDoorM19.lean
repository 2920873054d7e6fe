/- LimWTree, LimWLengths, LimWPlain. -/
import Derived.Test.YtiahbicodlgmhaaGreatDoorM18
import Derived.Test.YtiahbicodlgmhaaGreatDoorM15
/- tree. -/
namespace Go.Proofs.YtiahbicodlgmhaaGreatDoor.Lim
open Go.RowKit

/-- The two rarest put together till one is left: the inner parts, in their order. -/
inductive HR : Int → List Pt → List Pt → Prop where
  | done (p : Int) (q : List Pt) : q.length ≤ 1 → HR p q []
  | step (p : Int) (q : List Pt) (x y : Pt) (r ps : List Pt) : (x :: y :: r).Perm q → Ple x y → (∀ z ∈ r, Ple y z) → HR (p + 1) (r ++ [.node (x.ct + y.ct) p x y]) ps → HR p q (.node (x.ct + y.ct) p x y :: ps)

theorem HR.perm {p : Int} {q q' ps : List Pt} (h : HR p q ps) (hp : q.Perm q') : HR p q' ps := by
  cases h with
  | done _ _ hl => exact .done p q' (by rw [← hp.length_eq]; exact hl)
  | step _ _ x y r ps h1 h2 h3 h4 => exact .step p q' x y r ps (h1.trans hp) h2 h3 h4

/-- In memory, while the tree grows. -/
structure Tr (w wr : World) (Q A c k : Nat) (f : Nat → It) (v : Value) (m : Nat) (g : Nat → It) : Prop where
  q : IsQ wr Q A k c f
  hp : Hp f 0 k
  own : wr.ownsRow w.heap.size 198 1 v m (pps g m)
  prt : ∀ j, j < m → IsP wr (g j).1 (g j).2
  bel : Below w.heap.size w wr
  bQ : w.heap.size ≤ Q
  bA : w.heap.size ≤ A
  sep : ∀ j, v.ownBlock = some j → j ≠ A

theorem Tr.ow {w wr : World} {Q A c k : Nat} {f : Nat → It} {v : Value} {m : Nat} {g : Nat → It} (h : Tr w wr Q A c k f v m g) : Ow w wr v m g := ⟨h.own, h.prt, h.bel⟩

theorem own_type {w : World} {base m t n : Nat} {v : Value} {xs : List Value} {fv : Nat → Value} (h : w.ownsRow base 198 1 v m xs) {j : Nat} (hj : v.ownBlock = some j) (hr : w.rowIs j t n fv) : t = 198 := by
  rcases h.2 with ⟨rfl, _⟩ | ⟨gg, cap, cur, rfl, _, hh, _⟩
  · cases hj
  · cases hj
    obtain ⟨cs, hb, _⟩ := hr
    rw [hh] at hb
    injection hb with e
    injection e with _ e
    exact e.symm

/-- The queue gave two, they are one, and it is put behind the others. -/
theorem Tr.put {w w1 w2 w3 : World} {Q A c k k' : Nat} {f f' : Nat → It} {v : Value} {m b g5 c5 : Nat} {t : Pt} {g : Nat → It} (h : Tr w w1 Q A c k f v m g)
    (hq : IsQ w2 Q A k' c f') (hh : Hp f' 0 k') (hf : Fr (fun k => k = Q ∨ k = A) w1 w2) (hb : IsP w2 b t)
    (ho : w3.ownsRow w.heap.size 198 1 (.slice (some ⟨g5, 0, none⟩) (m + 1) c5) (m + 1) (pps g m ++ [pp b])) (hg : (w2.alloc (Obj.cells #[pp b] 198)).grownBy w3 v.ownBlock) (hl : v.ownBlock = some g5 ∨ g5 = w2.heap.size + 1) :
    Tr w w3 Q A c k' f' (.slice (some ⟨g5, 0, none⟩) (m + 1) c5) (m + 1) (psh g m (b, t)) ∧ IsP w3 b t := by
  have kp12 := h.q.kp hf
  have hne : ∀ j, v.ownBlock = some j → j ≠ Q ∧ j ≠ A := fun j hj => ⟨fun e => by
    subst e
    have := own_type h.own hj h.q.box
    omega, h.sep j hj⟩
  have b12 : Below w.heap.size w w2 := h.bel.trans (hf.below _ h.bel.size (fun i hi e => by have := h.bQ; have := h.bA; omega))
  have own2 : w2.ownsRow w.heap.size 198 1 v m (pps g m) := ownsRow_fr h.own hf (fun j hj e => by
    have := hne j hj
    rcases e with e | e
    · exact this.1 e
    · exact this.2 e)
  have f23 : Fr (fun k => v.ownBlock = some k) w2 w3 := ((Fr.refl (fun k => v.ownBlock = some k) w2).alloc _).grown hg (fun k _ e => e)
  have kp23 : Kp w2 w3 := Kp.ofFr f23 (fun j fv hj hr => by have := own_type own2 hj hr; omega)
  have q3 : IsQ w3 Q A k' c f' := ⟨rowIs_fr hq.box f23 (fun e => (hne Q e).1 rfl), hq.arr.fr f23 (fun e => (hne A e).2 rfl) kp23⟩
  have hAlt : A < w2.heap.size := by obtain ⟨_, hr, _⟩ := hq.arr.row; exact hr.lt
  refine ⟨⟨q3, hh, ?_, fun j hj => ?_, (b12.alloc b12.size _).grown hg (by have := b12.size; simp; omega) (fun j hj => (h.own.lt j hj).1), h.bQ, h.bA, ?_⟩, hb.kp kp23⟩
  · have e : pps (psh g m (b, t)) (m + 1) = pps g m ++ [pp b] := by unfold pps; rw [fst_psh, List.map_append]; rfl
    rw [e]; exact ho
  · by_cases e : j = m
    · subst e; rw [psh_at]; exact hb.kp kp23
    · rw [psh_lt _ _ _ _ (by omega)]
      exact ((h.prt j (by omega)).kp kp12).kp kp23
  · intro j hj
    cases hj
    rcases hl with e | e
    · exact (hne _ e).2
    · show g5 ≠ A
      omega

theorem Tr.push {w w3 w4 : World} {Q A A' c c' k k' : Nat} {f f' : Nat → It} {m g5 c5 : Nat} {g : Nat → It} (h : Tr w w3 Q A c k f (.slice (some ⟨g5, 0, none⟩) m c5) m g)
    (hq : IsQ w4 Q A' k' c' f') (hh : Hp f' 0 k') (hA : A' = A ∨ w3.heap.size ≤ A') (hf : Fr (fun k => k = Q ∨ k = A) w3 w4) : Tr w w4 Q A' c' k' f' (.slice (some ⟨g5, 0, none⟩) m c5) m g := by
  have kp := h.q.kp hf
  have hlt := (h.own.lt g5 rfl).2
  have hne : g5 ≠ Q ∧ g5 ≠ A := ⟨fun e => by
    subst e
    have := own_type h.own rfl h.q.box
    omega, h.sep g5 rfl⟩
  refine ⟨hq, hh, ownsRow_fr h.own hf (fun j hj e => by cases hj; rcases e with e | e; exact hne.1 e; exact hne.2 e), fun j hj => (h.prt j hj).kp kp, h.bel.trans (hf.below _ h.bel.size (fun i hi e => by have := h.bQ; have := h.bA; omega)), h.bQ, ?_, ?_⟩
  · rcases hA with rfl | e
    · exact h.bA
    · exact Nat.le_trans h.bel.size e
  · intro j hj
    cases hj
    rcases hA with e | e
    · rw [e]; exact hne.2
    · show g5 ≠ A'
      omega

set_option maxRecDepth 100000 in
set_option maxHeartbeats 4000000 in
theorem tree_any (S : List Pt) (ao : Option Addr) (n c : Nat) (f : Nat → It) (w : World) (h : Rp w ao n c f) (hmap : (fst f n).map Prod.snd = S) (h2 : 2 ≤ n) (hn : n ≤ 300) (hnn : ∀ t ∈ S, 0 ≤ t.ct) (hsm : sm Pt.ct S ≤ 1000000000000) :
    Calls Tryz.prog 146 #[.slice ao n c] w fun e w' => ∃ v m g, e = .returned v ∧ Ow w w' v m g ∧ HR 288 S ((fst g m).map Prod.snd) ∧ m ≤ 300 := by
  obtain ⟨i0, hi, hz0, hz1, hz2⟩ := info_parts Tryz.info82
  go_enter Tryz.func146, Tryz.ntmps146
  go_wp2_with fail
  refine (newq_any ao n c f w h (by omega) (by omega)).mono ?_
  rintro e w3 ⟨Q, A, c3, f3, rfl, q3, hp3, pm3, bQ, bA, b3⟩
  have IN : Hid (Tr w w3 Q A c3 n f3 (.slice none 0 0) 0 (fun _ => (0, .leaf 0 0))) := ⟨q3, hp3, World.ownsRow_nil _ _ _ _, (fun j hj => by omega), b3, bQ, bA, (fun j hj => by cases hj)⟩
  have PO : Hid ((∀ ps, HR (288 + ((0 : Nat) : Int)) ((fst f3 n).map Prod.snd) ps → HR 288 S ((fst (fun _ => ((0, .leaf 0 0) : It)) 0).map Prod.snd ++ ps)) ∧ (∀ t ∈ (fst f3 n).map Prod.snd, 0 ≤ t.ct) ∧ sm Pt.ct ((fst f3 n).map Prod.snd) = sm Pt.ct S) := by
    have e := pm3.map Prod.snd
    rw [hmap] at e
    exact ⟨fun ps hps => by simpa [fst] using hps.perm e, fun t ht => hnn t (e.mem_iff.1 ht), sm_perm _ e⟩
  have HSM : Hid (sm Pt.ct S ≤ 1000000000000) := hsm
  clear q3 hp3 pm3 bQ bA b3 h hmap hnn hsm
  go_wp2_with fail
  go_loopg [3, 5] n (fun kx mv _ wx => ∃ (m1 A1 c1 : Nat) (g1 f1 : Nat → It), kx + m1 = n ∧ Hid (Tr w wx Q A1 c1 kx f1 mv m1 g1) ∧ Hid ((∀ ps, HR (288 + (m1 : Int)) ((fst f1 kx).map Prod.snd) ps → HR 288 S ((fst g1 m1).map Prod.snd ++ ps)) ∧ (∀ t ∈ (fst f1 kx).map Prod.snd, 0 ≤ t.ct) ∧ sm Pt.ct ((fst f1 kx).map Prod.snd) = sm Pt.ct S))
  case atStart => exact ⟨0, A, c3, _, f3, rfl, IN, PO⟩
  case round =>
    clear IN PO
    obtain ⟨m1, A1, c1, g1, f1, hkm, I1, P1⟩ := hrel
    have cq := load_q I1.out.q
    by_cases hk : gk ≤ 1
    · have d1 : decide ((1 : Int) < (gk : Int)) = false := by simp; omega
      have OW : Hid (Ow w _ _ m1 g1) := I1.out.ow
      have MK : Hid (HR 288 S ((fst g1 m1).map Prod.snd)) := by
        have := P1.out.1 [] (.done _ _ (by simp [fst]; omega))
        rwa [List.append_nil] at this
      clear I1 P1
      go_wp2_with fail
      refine (qlen_any _ _ _ _).mono ?_
      rintro e w4 ⟨rfl, hw⟩
      subst w4
      go_wp2_with fail
      go_ret
      exact ⟨_, m1, g1, rfl, OW.out, MK.out, by omega⟩
    · obtain ⟨k, rfl⟩ : ∃ k, gk = k + 2 := ⟨gk - 2, by omega⟩
      have d1 : decide ((1 : Int) < ((k + 2 : Nat) : Int)) = true := by simp; omega
      have hm2 : m1 ≤ 1000 := by omega
      obtain ⟨ao1, e1, hv1, _, _⟩ := I1.out.ow.rp
      subst hv1
      have hct1 : ∀ j, j < k + 2 → 0 ≤ (f1 j).2.ct ∧ (f1 j).2.ct ≤ 1000000000000 := fun j hj => by
        have hm : (f1 j).2 ∈ (fst f1 (k + 2)).map Prod.snd := List.mem_map.2 ⟨f1 j, (fst_mem _ _ _).2 ⟨j, hj, rfl⟩, rfl⟩
        have h1 := P1.out.2.1 _ hm
        have h2 := sm_le_one (f := Pt.ct) P1.out.2.1 hm
        rw [P1.out.2.2] at h2
        have := HSM.out
        omega
      have hpair := pair_any Q A1 k c1 (288 + (m1 : Int)) f1 _ I1.out.q (by omega) I1.out.hp hct1
      clear hct1
      go_wp2_with fail
      refine (qlen_any _ _ _ _).mono ?_
      rintro e w4 ⟨rfl, hw⟩
      subst w4
      go_wp2_with fail
      refine hpair.mono ?_
      rintro e w4 ⟨b, x, y, f4, rfl, pb, q4, hp4, ⟨bx, bY, pm4⟩, lxy, ly, hb4, fr4⟩
      have own4 : (w4.alloc (Obj.cells #[pp b] 198)).ownsRow w.heap.size 198 1 (.slice ao1 m1 e1) m1 (pps g1 m1) :=
        ownsRow_fr (ownsRow_fr I1.out.own fr4 (fun q hq e => by
          rcases e with e | e
          · subst e
            have := own_type I1.out.own hq I1.out.q.box
            omega
          · exact I1.out.sep q hq e)) ((Fr.refl (fun _ => False) _).alloc _) (fun _ _ h => h)
      have hsz4 : w.heap.size ≤ (w4.alloc (Obj.cells #[pp b] 198)).heap.size := by
        have h1 := Nat.le_trans I1.out.bel.size fr4.size
        simp
        omega
      have pm5 : (x :: y :: (fst f4 k).map Prod.snd).Perm ((fst f1 (k + 2)).map Prod.snd) := by have := pm4.map Prod.snd; simpa using this
      have P2 : Hid ((∀ ps, HR (288 + ((m1 + 1 : Nat) : Int)) ((fst f4 k).map Prod.snd ++ [.node (x.ct + y.ct) (288 + (m1 : Int)) x y]) ps → HR 288 S ((fst (psh g1 m1 (b, .node (x.ct + y.ct) (288 + (m1 : Int)) x y)) (m1 + 1)).map Prod.snd ++ ps)) ∧
          (∀ t ∈ (fst f4 k).map Prod.snd ++ [.node (x.ct + y.ct) (288 + (m1 : Int)) x y], 0 ≤ t.ct) ∧ sm Pt.ct ((fst f4 k).map Prod.snd ++ [.node (x.ct + y.ct) (288 + (m1 : Int)) x y]) = sm Pt.ct S) := by
        have hx := P1.out.2.1 x (pm5.mem_iff.1 (by simp))
        have hy := P1.out.2.1 y (pm5.mem_iff.1 (by simp))
        refine ⟨fun ps hps => ?_, fun t ht => ?_, ?_⟩
        · have h1 := P1.out.1 (.node (x.ct + y.ct) (288 + (m1 : Int)) x y :: ps) (.step _ _ x y _ ps pm5 lxy (fun z hz => by
            obtain ⟨t, ht, rfl⟩ := List.mem_map.1 hz
            exact ly t ht) (by rw [show 288 + (m1 : Int) + 1 = 288 + ((m1 + 1 : Nat) : Int) by omega]; exact hps))
          rw [fst_psh, List.map_append, List.append_assoc]
          exact h1
        · rcases List.mem_append.1 ht with h' | h'
          · exact P1.out.2.1 t (pm5.mem_iff.1 (by simp only [List.mem_cons]; exact .inr (.inr h')))
          · rw [List.mem_singleton] at h'
            subst h'
            show 0 ≤ x.ct + y.ct
            omega
        · have h1 := sm_perm Pt.ct pm5
          rw [P1.out.2.2] at h1
          rw [← h1, sm_append]
          simp only [sm]
          show _ + (x.ct + y.ct + 0) = _
          omega
      have PUT : Hid (∀ w5 g5 c5, w5.ownsRow w.heap.size 198 1 (.slice (some ⟨g5, 0, none⟩) (m1 + 1) c5) (m1 + 1) (pps g1 m1 ++ [pp b]) → (w4.alloc (Obj.cells #[pp b] 198)).grownBy w5 (Value.slice ao1 m1 e1).ownBlock → ((Value.slice ao1 m1 e1).ownBlock = some g5 ∨ g5 = w4.heap.size + 1) →
        Tr w w5 Q A1 c1 k f4 (.slice (some ⟨g5, 0, none⟩) (m1 + 1) c5) (m1 + 1) (psh g1 m1 (b, Pt.node (x.ct + y.ct) (288 + (m1 : Int)) x y)) ∧ IsP w5 b (.node (x.ct + y.ct) (288 + (m1 : Int)) x y)) := fun w5 g5 c5 ho hg hl => I1.out.put q4 hp4 fr4 pb ho hg hl
      clear pb q4 hp4 pm4 pm5 lxy ly hb4 fr4 hpair I1 P1 cq
      go_wp2_with (at_builtin; refine wpList_append_lies _ rfl _ _ 191 rfl w.heap.size 198 i0 (.pointer none) 1 8 Tryz.underlying191 hi hz0 hz1 hz2 rfl (by decide) (.slice ao1 m1 e1) m1 _ rfl own4 ⟨w4.heap.size, 0, none⟩ 1 1 [pp b] rfl rfl (cell_new _ _ _) (by intro u hu; simp at hu; subst hu; rfl) (by omega) (by unfold maxLen; omega) (by omega) hsz4 _ rfl ?_; intro g5 c5 w5 o5 gr5 l5 s5)
      have I5 := PUT.out w5 g5 c5 o5 gr5 (by simpa using l5)
      have I6 : Hid (Tr w w5 Q A1 c1 k f4 (.slice (some ⟨g5, 0, none⟩) (m1 + 1) c5) (m1 + 1) (psh g1 m1 (b, Pt.node (x.ct + y.ct) (288 + (m1 : Int)) x y)) ∧ IsP w5 b (.node (x.ct + y.ct) (288 + (m1 : Int)) x y)) := I5
      clear I5 o5 gr5 l5 s5 PUT own4 hsz4
      go_wp2_with fail
      refine (hpush_any Q A1 k c1 b _ f4 w5 I6.out.1.q I6.out.2 (by omega) I6.out.1.hp).mono ?_
      rintro e w6 ⟨A6, c6, f6, rfl, q6, hp6, pm6, hA6, fr6⟩
      have I7 : Hid (Tr w w6 Q A6 c6 (k + 1) f6 (.slice (some ⟨g5, 0, none⟩) (m1 + 1) c5) (m1 + 1) (psh g1 m1 (b, Pt.node (x.ct + y.ct) (288 + (m1 : Int)) x y))) := I6.out.1.push q6 hp6 hA6 fr6
      have P3 : Hid ((∀ ps, HR (288 + ((m1 + 1 : Nat) : Int)) ((fst f6 (k + 1)).map Prod.snd) ps → HR 288 S ((fst (psh g1 m1 (b, .node (x.ct + y.ct) (288 + (m1 : Int)) x y)) (m1 + 1)).map Prod.snd ++ ps)) ∧ (∀ t ∈ (fst f6 (k + 1)).map Prod.snd, 0 ≤ t.ct) ∧ sm Pt.ct ((fst f6 (k + 1)).map Prod.snd) = sm Pt.ct S) := by
        have e := pm6.map Prod.snd
        rw [List.map_append] at e
        exact ⟨fun ps hps => P2.out.1 ps (hps.perm e), fun t ht => P2.out.2.1 t (e.mem_iff.1 ht), (sm_perm _ e).trans P2.out.2.2⟩
      clear I6 P2 q6 hp6 pm6 hA6 fr6
      go_wp2_with fail
      go_roundg (k + 1)
      case measure => omega
      case rel => exact ⟨m1 + 1, A6, c6, _, f6, by omega, I7, P3⟩

end Go.Proofs.YtiahbicodlgmhaaGreatDoor.Lim

/- Lengths, Least. -/
namespace Go.Proofs.YtiahbicodlgmhaaGreatDoor.Lim
open Go.RowKit

/-- The error of counts and a bound: none 0, no counts or no bound 1, too many 7. -/
def lerr (D : Nat → Int) (n : Nat) (most : Int) : Int := if okc D n = true ∧ 1 ≤ most ∧ most ≤ 15 then (if 2 ^ most.toNat < (sy D n).length then 7 else 0) else 1

theorem map_occ (f : Nat → It) (k s : Nat) : ocs f k s = sn (fun t => t.occ s) ((fst f k).map Prod.snd) := by
  unfold ocs
  generalize fst f k = l
  induction l with
  | nil => rfl
  | cons x l ih => simp only [List.map_cons, sn, ih]

theorem fst_take (f : Nat → It) (k m : Nat) (h : k ≤ m) : fst f k = (fst f m).take k := by
  unfold fst
  rw [← List.map_take, List.take_range, Nat.min_eq_left h]

theorem Wf.blw {D : Nat → Int} {ss : List Nat} {n : Nat} (hs : ∀ s ∈ ss, s < n) {k : Nat} {t : Pt} (h : Wf D ss k t) : Blw n t := by
  induction k generalizing t with
  | zero =>
    cases t with
    | leaf c a => exact hs a h.2
    | node c p l r => exact h.elim
  | succ k ih =>
    cases t with
    | leaf c a => exact hs a h.2
    | node c p l r => exact ⟨ih h.2.1, ih h.2.2⟩

theorem Rp.front {w : World} {ao : Option Addr} {n c k : Nat} {f : Nat → It} (h : Rp w ao n c f) (hk : k ≤ n) (h0 : ao ≠ none) : Rp w ao k c f :=
  ⟨by have := h.le; omega, fun e => absurd e h0, fun ad had j hj => h.cells ad had j (by omega), fun j hj => h.prt j (by omega)⟩

set_option maxRecDepth 100000 in
set_option maxHeartbeats 2000000 in
theorem lens_arg (ao : Option Addr) (n c : Nat) (D : Nat → Int) (most : Int) (w : World) (h : Ri w ao n c D) (he : ¬ (okc D n = true ∧ 1 ≤ most ∧ most ≤ 15)) :
    Calls Tryz.prog 134 #[.slice ao n c, .int .i64 most] w fun e w' => e = .returned (.tuple #[.slice none 0 0, .int .i64 1]) ∧ Below w.heap.size w w' := by
  have hc := counts_any ao n c D w h
  cases hk : okc D n with
  | false =>
    rw [hk] at hc
    clear h he hk
    go_enter Tryz.func134, Tryz.ntmps134
    go_wp2_with (go_at_call 143; refine hc.mono ?_; rintro e w1 ⟨rfl, hw⟩; subst w1)
    go_ret2
    exact ⟨rfl, Below.refl _ _⟩
  | true =>
    rw [hk] at hc
    by_cases h1 : most < 1
    · have d1 : decide (most < 1) = true := by simp [h1]
      clear h he hk h1
      go_enter Tryz.func134, Tryz.ntmps134
      go_wp2_with (go_at_call 143; refine hc.mono ?_; rintro e w1 ⟨rfl, hw⟩; subst w1)
      go_ret2
      exact ⟨rfl, Below.refl _ _⟩
    · have d1 : decide (most < 1) = false := by simp; omega
      have d2 : decide (15 < most) = true := by
        simp
        by_cases h2 : most ≤ 15
        · exact absurd ⟨hk, by omega, h2⟩ he
        · omega
      clear h he hk h1
      go_enter Tryz.func134, Tryz.ntmps134
      go_wp2_with (go_at_call 143; refine hc.mono ?_; rintro e w1 ⟨rfl, hw⟩; subst w1)
      go_ret2
      exact ⟨rfl, Below.refl _ _⟩

theorem lvs_occ (D : Nat → Int) (j : Nat) : ∀ n, sn (fun t => t.occ j) (lvs D n) = if j < n ∧ 0 < D j then 1 else 0
  | 0 => by simp [lvs, sy, sn]
  | n + 1 => by
    have ih := lvs_occ D j n
    have e : lvs D (n + 1) = if 0 < D n then lvs D n ++ [Pt.leaf (D n) n] else lvs D n := by
      unfold lvs
      simp only [sy]
      split
      · rw [List.map_append]; rfl
      · rfl
    rw [e]
    by_cases hp : 0 < D n
    · rw [if_pos hp, sn_append, ih]
      simp only [sn, Pt.occ]
      by_cases ej : n = j
      · subst ej
        rw [if_neg (by omega), if_pos rfl, if_pos ⟨by omega, hp⟩]
      · rw [if_neg ej]
        by_cases hj : j < n ∧ 0 < D j
        · rw [if_pos hj, if_pos ⟨by omega, hj.2⟩]
        · rw [if_neg hj, if_neg (fun h => hj ⟨by omega, h.2⟩)]
    · rw [if_neg hp, ih]
      by_cases hj : j < n ∧ 0 < D j
      · rw [if_pos hj, if_pos ⟨by omega, hj.2⟩]
      · rw [if_neg hj, if_neg]
        intro h
        refine hj ⟨?_, h.2⟩
        rcases Nat.lt_or_ge j n with h' | h'
        · exact h'
        · obtain rfl : j = n := by omega
          exact absurd h.2 hp

theorem leaf_blw {D : Nat → Int} {n k : Nat} {f : Nat → It} (h : (fst f k).map Prod.snd = lvs D n) : ∀ j, j < k → Blw n (f j).2 := fun j hj => by
  have hm : (f j).2 ∈ lvs D n := by rw [← h]; exact List.mem_map.2 ⟨f j, (fst_mem _ _ _).2 ⟨j, hj, rfl⟩, rfl⟩
  unfold lvs at hm
  obtain ⟨s, hs, e⟩ := List.mem_map.1 hm
  rw [← e]
  exact ((sy_mem D n s).1 hs).1

/-- The first packages of the last round, as parts in memory. -/
theorem pk_blw {D : Nat → Int} {n i m : Nat} {g : Nat → It} {ys : List Pt} (hD : ∀ j, j < n → 0 ≤ D j ∧ D j ≤ 16777216) (hr : Rw (lvs D n) i ys) (h : (fst g m).map Prod.snd = prs 288 ys) : ∀ j, j < m → Blw n (g j).2 := fun j hj => by
  have hm : (g j).2 ∈ prs 288 ys := by rw [← h]; exact List.mem_map.2 ⟨g j, (fst_mem _ _ _).2 ⟨j, hj, rfl⟩, rfl⟩
  obtain ⟨q, a, b, e, ha, hb⟩ := prs_node hm
  have hS := lvs_sy D n hD
  have hs : ∀ s ∈ sy D n, s < n := fun s hs => ((sy_mem D n s).1 hs).1
  rw [e]
  exact ⟨(Rw.wf hS hr a ha).blw hs, (Rw.wf hS hr b hb).blw hs⟩

set_option maxRecDepth 100000 in
set_option maxHeartbeats 4000000 in
theorem lens_go (ao : Option Addr) (n c m : Nat) (D : Nat → Int) (w : World) (h : Ri w ao n c D) (hk : okc D n = true) (h1 : 1 ≤ m) (h15 : m ≤ 15) (hf : (sy D n).length ≤ 2 ^ m) :
    Calls Tryz.prog 134 #[.slice ao n c, .int .i64 m] w fun e w' => ∃ B L, e = .returned (.tuple #[.slice (some ⟨B, 0, none⟩) n n, .int .i64 0]) ∧ w'.rowIs B 3 n (fun j => .int .i64 (L j)) ∧ Gd D n m L ∧ w.heap.size ≤ B ∧ Below w.heap.size w w' := by
  have hc := counts_any ao n c D w h
  rw [hk] at hc
  obtain ⟨h288, hD⟩ := (okc_iff D n).1 hk
  have d1 : decide ((m : Int) < 1) = false := by simp; omega
  have d2 : decide ((15 : Int) < (m : Int)) = false := by simp; omega
  have HD : Hid (∀ j, j < n → 0 ≤ D j ∧ D j ≤ 16777216) := hD
  have hcm := coming_any ao n c D w h (by omega)
  clear h hk hD
  go_enter Tryz.func134, Tryz.ntmps134
  go_wp2_with fail
  refine hc.mono ?_
  rintro e w1 ⟨rfl, hw⟩
  subst w1
  go_wp2_with fail
  refine hcm.mono ?_
  rintro e w1 ⟨v, f, rfl, ow, hl⟩
  obtain ⟨bo, d, rfl, rp, hbo⟩ := ow.rp
  have hnl : (sy D n).length ≤ n := sy_le D n
  have R1 : Hid (Rp w1 bo (sy D n).length d f) := rp
  have B1 : Hid (Below w.heap.size w w1) := ow.bel
  have HL : Hid ((fst f (sy D n).length).map Prod.snd = lvs D n) := hl
  obtain ⟨N, hN⟩ : ∃ N, N = (sy D n).length := ⟨_, rfl⟩
  rw [← hN] at hf hnl R1 HL ⊢
  have HN : Hid (N = (sy D n).length) := hN
  clear hc hcm ow rp hbo hl hN
  have hp15 := p2_le m 15 h15
  have hp0 := p2 m
  have e15 : (2 : Int) ^ 15 = 32768 := rfl
  have hwr : wrap64 ((2 : Int) ^ m) = 2 ^ m := IntWalk.wrap64_in _ (by omega)
  have hfi : (N : Int) ≤ 2 ^ m := by rw [← p2_nat]; omega
  have q1 : decide (wrap64 ((2 : Int) ^ m) < (N : Int)) = false := by rw [hwr]; simp; omega
  clear hp15 hp0 e15 hwr hfi
  by_cases hN2 : N < 2
  · have d3 : decide ((N : Int) < 2) = true := by simp; omega
    have hoc : ∀ j, ocs f N j = if j < n ∧ 0 < D j then 1 else 0 := fun j => by rw [map_occ, HL.out, lvs_occ]
    have hlen := lengths_any n N d bo f w1 R1.out (by omega) (leaf_blw HL.out) (fun s hs => by rw [hoc]; split <;> omega) (by omega)
    go_wp2_with fail
    refine hlen.mono ?_
    rintro e w2 ⟨B, rfl, hr, hB, hb⟩
    have RES : Hid (w2.rowIs B 3 n (fun j => .int .i64 (ocs f N j)) ∧ w1.heap.size ≤ B ∧ Below w1.heap.size w1 w2) := ⟨hr, hB, hb⟩
    have HOC : Hid (∀ j, ocs f N j = if j < n ∧ 0 < D j then 1 else 0) := hoc
    clear hr hB hb hlen hoc
    go_wp2_with fail
    go_ret2
    refine ⟨B, fun j => (ocs f N j : Int), rfl, RES.out.1, ?_, Nat.le_trans B1.out.size RES.out.2.1, B1.out.trans (RES.out.2.2.mono B1.out.size)⟩
    refine gd_few D n m (by have := HN.out; omega) h1 _ (fun j hj hp => ?_) (fun j hj hp => ?_)
    · rw [HOC.out, if_pos ⟨hj, hp⟩]; rfl
    · rw [HOC.out, if_neg (fun h => hp h.2)]; rfl
  · have d3 : decide ((N : Int) < 2) = false := by simp; omega
    have hpk := packages_any D (sy D n) (lvs D n) (lvs_sy D n HD.out) bo N d m f w1 R1.out HL.out (by omega) (by omega) h15
    go_wp2_with fail
    refine hpk.mono ?_
    rintro e w2 ⟨v2, m2, g2, M2, rfl, ow2, hm2, hk2⟩
    obtain ⟨bo2, d2', rfl, rp2, hbo2⟩ := ow2.rp
    obtain ⟨i, rfl⟩ : ∃ i, m = i + 1 := ⟨m - 1, by omega⟩
    obtain ⟨ys, hrw, hM⟩ := hk2
    rw [hM] at hm2
    have hNe := HN.out
    have pm := pm_main (lvs_sy D n HD.out) hrw (by omega) (by omega)
    have hml : m2 = (prs 288 ys).length := by have := congrArg List.length hm2; simpa [fst] using this
    have hge : N - 1 ≤ m2 := by rw [hml, hNe]; exact pm.2.2.2.2.2
    have hbn : bo2 ≠ none := fun e => by have := (rp2.nul e).1; omega
    have hoc : ∀ j, ocs g2 (N - 1) j = bt ys (sy D n).length j := fun j => by rw [map_occ, fst_take g2 (N - 1) m2 hge, List.map_take, hm2, hNe]; exact pm.2.2.2.2.1 j
    have hbt : ∀ j, bt ys (sy D n).length j ≤ 15 := fun j => by
      by_cases hj : j ∈ sy D n
      · have := (pm.1 j hj).2; omega
      · have := pm.2.1 j hj; omega
    have hlen := lengths_any n (N - 1) d2' bo2 g2 w2 (rp2.front hge hbn) (by omega) (fun j hj => pk_blw HD.out hrw hm2 j (by omega)) (fun s hs => by rw [hoc]; have := hbt s; omega) (by omega)
    have B2 : Hid (Below w.heap.size w w2) := B1.out.trans (ow2.bel.mono B1.out.size)
    have GD : Hid (Gd D n (i + 1) (fun j => (bt ys (sy D n).length j : Int))) := gd_many D n i HD.out ys hrw (by omega) (by omega)
    have HOC : Hid (∀ j, ocs g2 (N - 1) j = bt ys (sy D n).length j) := hoc
    have hN1 : ((N - 1 : Nat) : Int) = (N : Int) - 1 := by omega
    have hle2 := rp2.le
    obtain ⟨A2, o2, rfl, _⟩ := rp2.plain (by omega)
    clear ow2 hm2 hM hNe pm hml hbn hoc hbt hrw rp2 hpk
    go_wp2_with fail
    refine hlen.mono ?_
    rintro e w3 ⟨B, rfl, hr, hB, hb⟩
    have RES : Hid (w3.rowIs B 3 n (fun j => .int .i64 (ocs g2 (N - 1) j)) ∧ w2.heap.size ≤ B ∧ Below w2.heap.size w2 w3) := ⟨hr, hB, hb⟩
    clear hr hB hb hlen
    go_wp2_with fail
    go_ret2
    refine ⟨B, fun j => (bt ys (sy D n).length j : Int), rfl, RES.out.1.congr (fun j _ => by rw [HOC.out]), GD.out, Nat.le_trans B2.out.size RES.out.2.1, B2.out.trans (RES.out.2.2.mono B2.out.size)⟩

set_option maxRecDepth 100000 in
set_option maxHeartbeats 4000000 in
theorem lens_full (ao : Option Addr) (n c m : Nat) (D : Nat → Int) (w : World) (h : Ri w ao n c D) (hk : okc D n = true) (h1 : 1 ≤ m) (h15 : m ≤ 15) (hf : ¬ (sy D n).length ≤ 2 ^ m) :
    Calls Tryz.prog 134 #[.slice ao n c, .int .i64 m] w fun e w' => e = .returned (.tuple #[.slice none 0 0, .int .i64 7]) ∧ Below w.heap.size w w' := by
  have hc := counts_any ao n c D w h
  rw [hk] at hc
  obtain ⟨h288, hD⟩ := (okc_iff D n).1 hk
  have d1 : decide ((m : Int) < 1) = false := by simp; omega
  have d2 : decide ((15 : Int) < (m : Int)) = false := by simp; omega
  have hcm := coming_any ao n c D w h (by omega)
  clear h hk hD
  go_enter Tryz.func134, Tryz.ntmps134
  go_wp2_with fail
  refine hc.mono ?_
  rintro e w1 ⟨rfl, hw⟩
  subst w1
  go_wp2_with fail
  refine hcm.mono ?_
  rintro e w1 ⟨v, f, rfl, ow, hl⟩
  obtain ⟨bo, d, rfl, rp, hbo⟩ := ow.rp
  have hnl : (sy D n).length ≤ n := sy_le D n
  have B1 : Hid (Below w.heap.size w w1) := ow.bel
  obtain ⟨N, hN⟩ : ∃ N, N = (sy D n).length := ⟨_, rfl⟩
  rw [← hN] at hf hnl ⊢
  clear hc hcm ow rp hbo hl hN
  have hp15 := p2_le m 15 h15
  have hp0 := p2 m
  have e15 : (2 : Int) ^ 15 = 32768 := rfl
  have hwr : wrap64 ((2 : Int) ^ m) = 2 ^ m := IntWalk.wrap64_in _ (by omega)
  have hfi : (2 : Int) ^ m < (N : Int) := by rw [← p2_nat]; omega
  have q1 : decide (wrap64 ((2 : Int) ^ m) < (N : Int)) = true := by rw [hwr]; simp; omega
  clear hp15 hp0 e15 hwr hfi hf
  go_wp2_with fail
  go_ret2
  exact ⟨rfl, B1.out⟩

theorem lens_no (ao : Option Addr) (n c : Nat) (D : Nat → Int) (most : Int) (w : World) (h : Ri w ao n c D) (he : lerr D n most ≠ 0) :
    Calls Tryz.prog 134 #[.slice ao n c, .int .i64 most] w fun e w' => e = .returned (.tuple #[.slice none 0 0, .int .i64 (lerr D n most)]) ∧ Below w.heap.size w w' := by
  unfold lerr at he ⊢
  by_cases ho : okc D n = true ∧ 1 ≤ most ∧ most ≤ 15
  · rw [if_pos ho] at he ⊢
    obtain ⟨m, rfl⟩ : ∃ m : Nat, most = m := ⟨most.toNat, by omega⟩
    rw [Int.toNat_natCast] at he ⊢
    by_cases hf : 2 ^ m < (sy D n).length
    · rw [if_pos hf]
      exact lens_full ao n c m D w h ho.1 (by omega) (by omega) (by omega)
    · rw [if_neg hf] at he
      exact absurd rfl he
  · rw [if_neg ho]
    exact lens_arg ao n c D most w h ho

/-- Where there is no error. -/
theorem lerr_ok {D : Nat → Int} {n : Nat} {most : Int} (h : lerr D n most = 0) : ∃ m : Nat, most = m ∧ okc D n = true ∧ 1 ≤ m ∧ m ≤ 15 ∧ (sy D n).length ≤ 2 ^ m := by
  unfold lerr at h
  by_cases ho : okc D n = true ∧ 1 ≤ most ∧ most ≤ 15
  · rw [if_pos ho] at h
    by_cases hf : 2 ^ most.toNat < (sy D n).length
    · rw [if_pos hf] at h; omega
    · exact ⟨most.toNat, by omega, ho.1, by omega, by omega, by omega⟩
  · rw [if_neg ho] at h; omega

theorem lens_yes (ao : Option Addr) (n c : Nat) (D : Nat → Int) (most : Int) (w : World) (h : Ri w ao n c D) (he : lerr D n most = 0) :
    Calls Tryz.prog 134 #[.slice ao n c, .int .i64 most] w fun e w' => ∃ B L, e = .returned (.tuple #[.slice (some ⟨B, 0, none⟩) n n, .int .i64 0]) ∧ w'.rowIs B 3 n (fun j => .int .i64 (L j)) ∧ Gd D n most.toNat L ∧ w.heap.size ≤ B ∧ Below w.heap.size w w' := by
  obtain ⟨m, rfl, hk, h1, h15, hf⟩ := lerr_ok he
  rw [Int.toNat_natCast]
  exact lens_go ao n c m D w h hk h1 h15 hf

end Go.Proofs.YtiahbicodlgmhaaGreatDoor.Lim

/- Plain; its tree, reckoned. -/
namespace Go.Proofs.YtiahbicodlgmhaaGreatDoor.Lim
open Go.RowKit

theorem HR.blw {n : Nat} {p : Int} {q ps : List Pt} (h : HR p q ps) (hq : ∀ t ∈ q, Blw n t) : ∀ t ∈ ps, Blw n t := by
  induction h with
  | done p q _ => intro t ht; simp at ht
  | step p q x y r ps h1 _ _ _ ih =>
    have hx := hq x (h1.mem_iff.1 (by simp))
    have hy := hq y (h1.mem_iff.1 (by simp))
    intro t ht
    rcases List.mem_cons.1 ht with rfl | ht
    · exact ⟨hx, hy⟩
    · refine ih (fun z hz => ?_) t ht
      rcases List.mem_append.1 hz with h' | h'
      · exact hq z (h1.mem_iff.1 (by simp [h']))
      · rw [List.mem_singleton] at h'
        subst h'
        exact ⟨hx, hy⟩

theorem HR.occ {p : Int} {q ps : List Pt} (h : HR p q ps) (s : Nat) (hq : sn (fun t => t.occ s) q ≤ 1) : sn (fun t => t.occ s) ps ≤ ps.length := by
  induction h with
  | done p q _ => simp [sn]
  | step p q x y r ps h1 _ _ _ ih =>
    have e1 := sn_perm (fun t => t.occ s) h1
    simp only [sn] at e1
    have e2 : sn (fun t => t.occ s) (r ++ [.node (x.ct + y.ct) p x y]) ≤ 1 := by
      rw [sn_append]
      have : sn (fun t => t.occ s) [Pt.node (x.ct + y.ct) p x y] = x.occ s + y.occ s := by simp [sn, Pt.occ]
      omega
    have e3 := ih e2
    have e4 : (Pt.node (x.ct + y.ct) p x y).occ s = x.occ s + y.occ s := rfl
    simp only [sn, List.length_cons]
    rw [e4]
    omega

/-- Whether counts and places are in order. -/
def pleb (a b : Pt) : Bool := decide (a.ct < b.ct) || (decide (a.ct = b.ct) && decide (a.pl ≤ b.pl))

theorem pleb_iff (a b : Pt) : pleb a b = true ↔ Ple a b := by
  unfold pleb Ple
  simp

/-- A part put among others in order. -/
def pins (x : Pt) : List Pt → List Pt
  | [] => [x]
  | a :: l => if pleb a x = true then a :: pins x l else x :: a :: l

theorem pins_perm (x : Pt) (l : List Pt) : (pins x l).Perm (x :: l) := by
  induction l with
  | nil => exact List.Perm.refl _
  | cons a l ih =>
    simp only [pins]
    split
    · exact (ih.cons a).trans (List.Perm.swap x a l)
    · exact List.Perm.refl _

theorem pins_srt (x : Pt) (l : List Pt) (h : l.Pairwise Ple) : (pins x l).Pairwise Ple := by
  induction l with
  | nil => simp [pins]
  | cons a l ih =>
    obtain ⟨h1, h2⟩ := List.pairwise_cons.1 h
    simp only [pins]
    split
    · rename_i hle
      refine List.pairwise_cons.2 ⟨fun b hb => ?_, ih h2⟩
      rcases List.mem_cons.1 ((pins_perm x l).mem_iff.1 hb) with rfl | hb
      · exact (pleb_iff _ _).1 hle
      · exact h1 b hb
    · rename_i hle
      have hxa : Ple x a := (Ple.total x a).resolve_right (fun h' => hle ((pleb_iff _ _).2 h'))
      refine List.pairwise_cons.2 ⟨fun b hb => ?_, h⟩
      rcases List.mem_cons.1 hb with rfl | hb
      · exact hxa
      · exact hxa.trans (h1 b hb)

/-- The inner parts of the tree, reckoned over a list in order. -/
def hrf : Nat → Int → List Pt → List Pt
  | 0, _, _ => []
  | k + 1, p, a :: b :: r => .node (a.ct + b.ct) p a b :: hrf k (p + 1) (pins (.node (a.ct + b.ct) p a b) r)
  | _ + 1, _, _ => []

theorem pins_nodup (x : Pt) (l : List Pt) (h : (l.map Pt.pl).Nodup) (hx : ∀ t ∈ l, t.pl ≠ x.pl) : ((pins x l).map Pt.pl).Nodup := by
  refine ((pins_perm x l).map Pt.pl).nodup_iff.2 ?_
  rw [List.map_cons, List.nodup_cons]
  refine ⟨fun hm => ?_, h⟩
  obtain ⟨t, ht, e⟩ := List.mem_map.1 hm
  exact hx t ht e

theorem pl_inj {l : List Pt} (h : (l.map Pt.pl).Nodup) {a b : Pt} (ha : a ∈ l) (hb : b ∈ l) (e : a.pl = b.pl) : a = b := by
  induction l with
  | nil => simp at ha
  | cons x l ih =>
    rw [List.map_cons, List.nodup_cons] at h
    rcases List.mem_cons.1 ha with rfl | ha'
    · rcases List.mem_cons.1 hb with rfl | hb'
      · rfl
      · exact absurd (List.mem_map.2 ⟨b, hb', e.symm⟩) h.1
    · rcases List.mem_cons.1 hb with rfl | hb'
      · exact absurd (List.mem_map.2 ⟨a, ha', e⟩) h.1
      · exact ih h.2 ha' hb'

theorem psort (l : List Pt) : ∃ l' : List Pt, l'.Perm l ∧ l'.Pairwise Ple := by
  induction l with
  | nil => exact ⟨[], List.Perm.refl _, List.Pairwise.nil⟩
  | cons x l ih =>
    obtain ⟨l', h1, h2⟩ := ih
    exact ⟨pins x l', (pins_perm x l').trans (h1.cons x), pins_srt x l' h2⟩

theorem HR.det {p : Int} {q ps : List Pt} (h : HR p q ps) : ∀ (k : Nat) (l : List Pt), l.Perm q → l.Pairwise Ple → (l.map Pt.pl).Nodup → (∀ t ∈ l, t.pl < p) → l.length ≤ k → ps = hrf k p l := by
  induction h with
  | done p q hq =>
    intro k l hl _ _ _ _
    have h1 := hl.length_eq
    match k, l, h1 with
    | 0, _, _ => rfl
    | k + 1, [], _ => rfl
    | k + 1, [_], _ => rfl
    | k + 1, a :: b :: r, h1 => simp at h1; omega
  | step p q x y r ps h1 h2 h3 _ ih =>
    intro k l hl hs hn hp hk
    obtain ⟨r', hr1, hr2⟩ := psort r
    have hperm : (x :: y :: r').Perm l := ((hr1.cons y).cons x).trans (h1.trans hl.symm)
    have hsr : (x :: y :: r').Pairwise Ple := by
      refine List.pairwise_cons.2 ⟨fun b hb => ?_, List.pairwise_cons.2 ⟨fun b hb => h3 b (hr1.mem_iff.1 hb), hr2⟩⟩
      rcases List.mem_cons.1 hb with rfl | hb
      · exact h2
      · exact h2.trans (h3 b (hr1.mem_iff.1 hb))
    have e : x :: y :: r' = l := List.Perm.eq_of_pairwise (le := Ple) (fun a b ha hb hab hba => pl_inj hn (hperm.mem_iff.1 ha) hb (by unfold Ple at hab hba; omega)) hsr hs hperm
    subst e
    match k, hk with
    | k + 1, hk =>
      simp only [hrf]
      congr 1
      refine ih k _ ?_ ?_ ?_ ?_ ?_
      · refine (pins_perm _ _).trans ((hr1.cons _).trans ?_)
        exact List.perm_append_comm (l₁ := [Pt.node (x.ct + y.ct) p x y])
      · exact pins_srt _ _ hr2
      · rw [List.map_cons, List.nodup_cons, List.map_cons, List.nodup_cons] at hn
        refine pins_nodup _ _ hn.2.2 (fun t ht e => ?_)
        have := hp t (by simp [ht])
        have e' : t.pl = p := e
        omega
      · intro t ht
        rcases List.mem_cons.1 ((pins_perm _ _).mem_iff.1 ht) with rfl | ht
        · show p < p + 1
          omega
        · have := hp t (by simp [ht]); omega
      · have h5 := (pins_perm (.node (x.ct + y.ct) p x y) r').length_eq
        simp only [List.length_cons] at h5 hk
        omega

/-- What Plain answers of counts. -/
def Pg (D : Nat → Int) (n : Nat) (L : Nat → Int) : Prop :=
  ((sy D n).length < 2 ∧ ∀ j, j < n → L j = if 0 < D j then 1 else 0) ∨ (2 ≤ (sy D n).length ∧ ∃ ps, HR 288 (lvs D n) ps ∧ ∀ j, j < n → L j = (sn (fun t => t.occ j) ps : Int))

theorem lvs_nn (D : Nat → Int) (n : Nat) (hD : ∀ j, j < n → 0 ≤ D j ∧ D j ≤ 16777216) : (∀ t ∈ lvs D n, 0 ≤ t.ct) ∧ sm Pt.ct (lvs D n) ≤ 16777216 * n := by
  refine ⟨fun t ht => ?_, ?_⟩
  · unfold lvs at ht
    obtain ⟨s, hs, rfl⟩ := List.mem_map.1 ht
    have := (sy_mem D n s).1 hs
    exact (hD s this.1).1
  · have e : sm Pt.ct (lvs D n) = sm D (sy D n) := by unfold lvs; rw [sm_map]; rfl
    rw [e]
    have h1 := sm_mono (f := D) (g := fun _ => (16777216 : Int)) (l := sy D n) (fun s hs => (hD s ((sy_mem D n s).1 hs).1).2)
    rw [sm_const] at h1
    have h2 := sy_le D n
    omega

set_option maxRecDepth 100000 in
set_option maxHeartbeats 4000000 in
theorem plain_go (ao : Option Addr) (n c : Nat) (D : Nat → Int) (w : World) (h : Ri w ao n c D) (hk : okc D n = true) :
    Calls Tryz.prog 132 #[.slice ao n c] w fun e w' => ∃ B L, e = .returned (.tuple #[.slice (some ⟨B, 0, none⟩) n n, .int .i64 0]) ∧ w'.rowIs B 3 n (fun j => .int .i64 (L j)) ∧ Pg D n L ∧ w.heap.size ≤ B ∧ Below w.heap.size w w' := by
  have hc := counts_any ao n c D w h
  rw [hk] at hc
  obtain ⟨h288, hD⟩ := (okc_iff D n).1 hk
  have HD : Hid (∀ j, j < n → 0 ≤ D j ∧ D j ≤ 16777216) := hD
  have hcm := coming_any ao n c D w h (by omega)
  clear h hk hD
  go_enter Tryz.func132, Tryz.ntmps132
  go_wp2_with fail
  refine hc.mono ?_
  rintro e w1 ⟨rfl, hw⟩
  subst w1
  go_wp2_with fail
  refine hcm.mono ?_
  rintro e w1 ⟨v, f, rfl, ow, hl⟩
  obtain ⟨bo, d, rfl, rp, hbo⟩ := ow.rp
  have hnl : (sy D n).length ≤ n := sy_le D n
  have R1 : Hid (Rp w1 bo (sy D n).length d f) := rp
  have B1 : Hid (Below w.heap.size w w1) := ow.bel
  have HL : Hid ((fst f (sy D n).length).map Prod.snd = lvs D n) := hl
  obtain ⟨N, hN⟩ : ∃ N, N = (sy D n).length := ⟨_, rfl⟩
  rw [← hN] at hnl R1 HL ⊢
  have HN : Hid (N = (sy D n).length) := hN
  clear hc hcm ow rp hbo hl hN
  by_cases hN2 : N < 2
  · have d3 : decide ((N : Int) < 2) = true := by simp; omega
    have hoc : ∀ j, ocs f N j = if j < n ∧ 0 < D j then 1 else 0 := fun j => by rw [map_occ, HL.out, lvs_occ]
    have hlen := lengths_any n N d bo f w1 R1.out (by omega) (leaf_blw HL.out) (fun s hs => by rw [hoc]; split <;> omega) (by omega)
    go_wp2_with fail
    refine hlen.mono ?_
    rintro e w2 ⟨B, rfl, hr, hB, hb⟩
    have RES : Hid (w2.rowIs B 3 n (fun j => .int .i64 (ocs f N j)) ∧ w1.heap.size ≤ B ∧ Below w1.heap.size w1 w2) := ⟨hr, hB, hb⟩
    have HOC : Hid (∀ j, ocs f N j = if j < n ∧ 0 < D j then 1 else 0) := hoc
    clear hr hB hb hlen hoc
    go_wp2_with fail
    go_ret2
    refine ⟨B, fun j => (ocs f N j : Int), rfl, RES.out.1, .inl ⟨by have := HN.out; omega, fun j hj => ?_⟩, Nat.le_trans B1.out.size RES.out.2.1, B1.out.trans (RES.out.2.2.mono B1.out.size)⟩
    show ((ocs f N j : Nat) : Int) = _
    rw [HOC.out]
    by_cases hp : 0 < D j
    · rw [if_pos ⟨hj, hp⟩, if_pos hp]; rfl
    · rw [if_neg (fun h => hp h.2), if_neg hp]; rfl
  · have d3 : decide ((N : Int) < 2) = false := by simp; omega
    have hnn := lvs_nn D n HD.out
    have htr := tree_any (lvs D n) bo N d f w1 R1.out HL.out (by omega) (by omega) hnn.1 (by have := hnn.2; omega)
    clear hnn
    go_wp2_with fail
    refine htr.mono ?_
    rintro e w2 ⟨v2, m2, g2, rfl, ow2, hr2, hm2⟩
    obtain ⟨bo2, d2', rfl, rp2, hbo2⟩ := ow2.rp
    have hblw : ∀ t ∈ (fst g2 m2).map Prod.snd, Blw n t := hr2.blw (fun t ht => by
      rw [← HL.out] at ht
      obtain ⟨x, hx, rfl⟩ := List.mem_map.1 ht
      obtain ⟨j, hj, rfl⟩ := (fst_mem _ _ _).1 hx
      exact leaf_blw HL.out j hj)
    have hocc : ∀ s, ocs g2 m2 s ≤ 1000000 := fun s => by
      have h1 := hr2.occ s (by rw [lvs_occ]; split <;> omega)
      rw [map_occ]
      simp [fst] at h1 ⊢
      omega
    have hlen := lengths_any n m2 d2' bo2 g2 w2 rp2 (by omega) (fun j hj => hblw _ (List.mem_map.2 ⟨g2 j, (fst_mem _ _ _).2 ⟨j, hj, rfl⟩, rfl⟩)) (fun s _ => hocc s) (by omega)
    have B2 : Hid (Below w.heap.size w w2) := B1.out.trans (ow2.bel.mono B1.out.size)
    have H2 : Hid (HR 288 (lvs D n) ((fst g2 m2).map Prod.snd)) := hr2
    clear ow2 rp2 hblw hocc hr2 hbo2 htr
    go_wp2_with fail
    refine hlen.mono ?_
    rintro e w3 ⟨B, rfl, hr, hB, hb⟩
    have RES : Hid (w3.rowIs B 3 n (fun j => .int .i64 (ocs g2 m2 j)) ∧ w2.heap.size ≤ B ∧ Below w2.heap.size w2 w3) := ⟨hr, hB, hb⟩
    clear hr hB hb hlen
    go_wp2_with fail
    go_ret2
    exact ⟨B, fun j => (ocs g2 m2 j : Int), rfl, RES.out.1, .inr ⟨by have := HN.out; omega, _, H2.out, fun j _ => by show ((ocs g2 m2 j : Nat) : Int) = _; rw [map_occ]⟩, Nat.le_trans B2.out.size RES.out.2.1, B2.out.trans (RES.out.2.2.mono B2.out.size)⟩

end Go.Proofs.YtiahbicodlgmhaaGreatDoor.Lim
