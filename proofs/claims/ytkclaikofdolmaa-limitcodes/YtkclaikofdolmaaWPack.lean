/- packages. -/
import Derived.Test.YtkclaikofdolmaaWLens
import Derived.Deep.LoopGhost
namespace Go.Proofs.Ytkclaikofdolmaa
open Go.RowKit

/-- What is made in i rounds. -/
def Mk (S : List Pt) : Nat → List Pt → Prop
  | 0, M => M = []
  | i + 1, M => ∃ ys, Rw S i ys ∧ M = prs 288 ys

theorem Mk.next {S M zs : List Pt} {i : Nat} (h : Mk S i M) (hp : zs.Perm (S ++ M)) (hs : zs.Pairwise Ple) : Rw S i zs := by
  cases i with
  | zero =>
    have e : M = [] := h
    subst e
    rw [List.append_nil] at hp
    exact .base zs hp hs
  | succ i =>
    obtain ⟨ys, hr, rfl⟩ := h
    exact .step i ys zs hr hp hs

theorem Mk.len {S M : List Pt} {i : Nat} (h : Mk S i M) (hn : 0 < S.length) : M.length < S.length := by
  cases i with
  | zero =>
    have e : M = [] := h
    subst e
    exact hn
  | succ i =>
    obtain ⟨ys, hr, rfl⟩ := h
    have := (hr.len hn).1
    rw [prs_len]
    omega

theorem Mk.ct {D : Nat → Int} {ss : List Nat} {S M : List Pt} (hS : Sy D ss S) {i : Nat} (h : Mk S i M) (hi : i ≤ 15) : ∀ t ∈ S ++ M, 0 ≤ t.ct ∧ t.ct ≤ 1000000000000 := by
  intro t ht
  have key : ∀ k, k ≤ 15 → Wf D ss k t → 0 ≤ t.ct ∧ t.ct ≤ 1000000000000 := fun k hk hw => by
    have h1 := hw.bound hS.pos
    have h2 := p2_le k 15 hk
    have h3 : (2 : Int) ^ 15 = 32768 := rfl
    omega
  rcases List.mem_append.1 ht with h' | h'
  · obtain ⟨s, hs, rfl⟩ := hS.leaf h'
    exact key 0 (by omega) ⟨rfl, hs⟩
  · cases i with
    | zero =>
      have e : M = [] := h
      subst e
      simp at h'
    | succ i =>
      obtain ⟨ys, hr, rfl⟩ := h
      obtain ⟨q, a, b, rfl, ha, hb⟩ := prs_node h'
      exact key (i + 1) hi ⟨rfl, Rw.wf hS hr a ha, Rw.wf hS hr b hb⟩

theorem prs_app : ∀ (p : Int) (l : List Pt) (x y : Pt), l.length % 2 = 0 → prs p (l ++ [x, y]) = prs p l ++ [.node (x.ct + y.ct) (p + ((prs p l).length : Int)) x y]
  | p, [], x, y, _ => by simp [prs]
  | _, [_], _, _, h => by simp at h
  | p, a :: b :: r, x, y, h => by
    have ih := prs_app (p + 1) r x y (by simp only [List.length_cons] at h; omega)
    simp only [List.cons_append, prs, List.length_cons]
    rw [ih, show p + 1 + ((prs (p + 1) r).length : Int) = p + (((prs (p + 1) r).length + 1 : Nat) : Int) by omega]

theorem prs_odd : ∀ (p : Int) (l r : List Pt), l.length % 2 = 0 → r.length ≤ 1 → prs p (l ++ r) = prs p l
  | _, [], [], _, _ => rfl
  | _, [], [_], _, _ => rfl
  | _, [], _ :: _ :: _, _, hr => by simp at hr
  | _, [_], _, h, _ => by simp at h
  | p, a :: b :: q, r, h, hr => by
    simp only [List.cons_append, prs]
    rw [prs_odd (p + 1) q r (by simp only [List.length_cons] at h; omega) hr]

/-- Within a round: what was taken out, what is left, what was made. -/
structure Po (U pre rest made : List Pt) : Prop where
  perm : (pre ++ rest).Perm U
  srt : pre.Pairwise Ple
  sep : ∀ a ∈ pre, ∀ b ∈ rest, Ple a b
  even : pre.length % 2 = 0
  pk : made = prs 288 pre

theorem Po.step {U pre rest made rest' : List Pt} {x y : Pt} (h : Po U pre rest made) (hp : (x :: y :: rest').Perm rest) (hxy : Ple x y) (hy : ∀ z ∈ rest', Ple y z) :
    Po U (pre ++ [x, y]) rest' (made ++ [.node (x.ct + y.ct) (288 + (made.length : Int)) x y]) := by
  refine ⟨?_, ?_, ?_, by rw [List.length_append]; have := h.even; simp; omega, by rw [prs_app _ _ _ _ h.even, h.pk]⟩
  · rw [List.append_assoc]
    exact ((List.perm_append_left_iff pre).2 hp).trans h.perm
  · refine List.pairwise_append.2 ⟨h.srt, List.pairwise_cons.2 ⟨fun b hb => by rw [List.mem_singleton] at hb; subst hb; exact hxy, List.pairwise_singleton _ _⟩, fun a ha b hb => ?_⟩
    refine h.sep a ha b (hp.mem_iff.1 ?_)
    simp only [List.mem_cons, List.not_mem_nil, or_false] at hb ⊢
    rcases hb with h' | h'
    · exact .inl h'
    · exact .inr (.inl h')
  · intro a ha b hb
    rcases List.mem_append.1 ha with h' | h'
    · exact h.sep a h' b (hp.mem_iff.1 (by simp [hb]))
    · simp only [List.mem_cons, List.not_mem_nil, or_false] at h'
      rcases h' with rfl | rfl
      · exact hxy.trans (hy b hb)
      · exact hy b hb

theorem Po.done {S M pre rest made : List Pt} {i : Nat} (h : Po (S ++ M) pre rest made) (hM : Mk S i M) (hl : rest.length ≤ 1) : Mk S (i + 1) made := by
  refine ⟨pre ++ rest, hM.next h.perm ?_, by rw [prs_odd _ _ _ h.even hl]; exact h.pk⟩
  refine List.pairwise_append.2 ⟨h.srt, ?_, h.sep⟩
  match rest, hl with
  | [], _ => exact List.Pairwise.nil
  | [_], _ => exact List.pairwise_singleton _ _
  | a :: b :: q, hl => simp at hl

/-- Within a round, in memory. -/
structure In (w wq wr : World) (Q A c k : Nat) (f : Nat → It) (v : Value) (m : Nat) (g : Nat → It) : Prop where
  q : IsQ wr Q A k c f
  hp : Hp f 0 k
  own : wr.ownsRow wq.heap.size 82 1 v m (pps g m)
  prt : ∀ j, j < m → IsP wr (g j).1 (g j).2
  fr : Fr (fun k => k = Q ∨ k = A) wq wr
  bel : Below w.heap.size w wq
  bQ : w.heap.size ≤ Q ∧ Q < wq.heap.size
  bA : w.heap.size ≤ A ∧ A < wq.heap.size

theorem In.ow {w wq wr : World} {Q A c k : Nat} {f : Nat → It} {v : Value} {m : Nat} {g : Nat → It} (h : In w wq wr Q A c k f v m g) : Ow w wr v m g := by
  have hs := h.bel.size
  refine ⟨?_, h.prt, h.bel.trans (h.fr.below _ hs (fun i hi e => by have := h.bQ; have := h.bA; omega))⟩
  refine ⟨h.own.1, ?_⟩
  rcases h.own.2 with h' | ⟨g', cap, cur, e, hb, hrest⟩
  · exact .inl h'
  · exact .inr ⟨g', cap, cur, e, by omega, hrest⟩

/-- One more is made. -/
theorem In.put {w wq w1 w2 w3 : World} {Q A c k k' : Nat} {f f' : Nat → It} {v v' : Value} {m b : Nat} {t : Pt} {g : Nat → It} (h : In w wq w1 Q A c k f v m g)
    (hq : IsQ w2 Q A k' c f') (hh : Hp f' 0 k') (hf : Fr (fun k => k = Q ∨ k = A) w1 w2) (hb : IsP w2 b t)
    (ho : w3.ownsRow wq.heap.size 82 1 v' (m + 1) (pps g m ++ pps (fun _ => (b, t)) 1)) (hg : (w2.alloc (Obj.cells #[pp b] 82)).grownBy w3 v.ownBlock) : In w wq w3 Q A c k' f' v' (m + 1) (psh g m (b, t)) := by
  have kp12 := h.q.kp hf
  have f12 : Fr (fun k => k = Q ∨ k = A) wq w2 := h.fr.trans hf (fun _ _ e => e)
  have own2 : w2.ownsRow wq.heap.size 82 1 v m (pps g m) := ownsRow_fr h.own hf (fun k hk e => by have := (h.own.lt k hk).1; have := h.bQ; have := h.bA; omega)
  have f23 : Fr (fun k => v.ownBlock = some k) w2 w3 := ((Fr.refl (fun k => v.ownBlock = some k) w2).alloc _).grown hg (fun k _ e => e)
  have kp23 : Kp w2 w3 := Kp.ofFr f23 (fun k f' hk hr => by
    rcases own2.2 with ⟨rfl, _⟩ | ⟨gg, cap, cur, rfl, _, hh, _⟩
    · cases hk
    · cases hk
      obtain ⟨cs, hb, _⟩ := hr
      rw [hh] at hb
      simp at hb)
  have hge : ∀ k, v.ownBlock = some k → wq.heap.size ≤ k := fun k hk => (h.own.lt k hk).1
  have q3 : IsQ w3 Q A k' c f' := ⟨rowIs_fr hq.box f23 (fun e => by have := hge _ e; have := h.bQ; omega), hq.arr.fr f23 (fun e => by have := hge _ e; have := h.bA; omega) kp23⟩
  refine ⟨q3, hh, ?_, fun j hj => ?_, f12.trans f23 (fun i hi e => by have := hge _ e; omega), h.bel, h.bQ, h.bA⟩
  · have e : pps (psh g m (b, t)) (m + 1) = pps g m ++ pps (fun _ => (b, t)) 1 := by unfold pps; rw [fst_psh, List.map_append]; rfl
    rw [e]; exact ho
  · by_cases e : j = m
    · subst e; rw [psh_at]; exact hb.kp kp23
    · rw [psh_lt _ _ _ _ (by omega)]
      exact ((h.prt j (by omega)).kp kp12).kp kp23

/-- Two lists, one behind the other. -/
def jn (f : Nat → It) (n : Nat) (g : Nat → It) : Nat → It := fun j => if j < n then f j else g (j - n)

theorem jn_fst (f : Nat → It) (n : Nat) (g : Nat → It) (m : Nat) : fst (jn f n g) (n + m) = fst f n ++ fst g m := by
  induction m with
  | zero =>
    rw [Nat.add_zero, fst_congr (jn f n g) f n (fun k hk => by simp [jn, hk])]
    simp [fst]
  | succ m ih =>
    rw [← Nat.add_assoc, fst_succ, ih, fst_succ, ← List.append_assoc]
    congr 2
    have : ¬ n + m < n := by omega
    simp [jn, this]

theorem jn_pps (f : Nat → It) (n : Nat) (g : Nat → It) (m : Nat) : pps (jn f n g) (n + m) = pps f n ++ pps g m := by
  unfold pps; rw [jn_fst, List.map_append]

theorem load_q {wr : World} {Q A k c : Nat} {f : Nat → It} (h : IsQ wr Q A k c f) : wr.cell? ⟨Q, 0, none⟩ = some (.slice (some ⟨A, 0, none⟩) k c) := h.box.cell (i := 0) (by omega)

set_option maxRecDepth 100000 in
set_option maxHeartbeats 4000000 in
theorem packages_any (D : Nat → Int) (ss : List Nat) (S : List Pt) (hS : Sy D ss S) (ao : Option Addr) (n c r : Nat) (f : Nat → It) (w : World) (h : Rp w ao n c f) (hmap : (fst f n).map Prod.snd = S) (h2 : 2 ≤ n) (hn : n ≤ 300) (hr : r ≤ 15) :
    Calls Try.prog 28 #[.slice ao n c, .int .i64 r] w fun e w' => ∃ v m g M, e = .returned v ∧ Ow w w' v m g ∧ (fst g m).map Prod.snd = M ∧ Mk S r M := by
  have hlS : S.length = n := by rw [← hmap]; simp [fst]
  have HR : Hid (Rp w ao n c f) := h
  have HM : Hid ((fst f n).map Prod.snd = S) := hmap
  have HS : Hid (Sy D ss S) := hS
  clear h hmap hS
  go_enter Try.func28, Try.ntmps28
  go_wp2
  go_loopw [5, 6, 8] (fun mv _ iv wr => ∃ (i m : Nat) (g : Nat → It) (M : List Pt), iv = .int .i64 i ∧ i ≤ r ∧ Hid (Ow w wr mv m g) ∧ Hid ((fst g m).map Prod.snd = M) ∧ Hid (Mk S i M)) (fun _ _ iv _ => r - (intOf iv).toNat)
  case atStart => exact ⟨0, 0, fun _ => (0, .leaf 0 0), [], rfl, by omega, ⟨World.ownsRow_nil _ _ _ _, fun j hj => by omega, Below.refl _ _⟩, rfl, rfl⟩
  case round =>
    obtain ⟨i, m, g, M, rfl, hi, HO, HG, HK⟩ := hrel
    by_cases hlt : i < r
    · obtain ⟨bo, d, hv, hrp, hbo⟩ := HO.out.rp
      subst hv
      have hm : m < n := by
        have h1 := HK.out.len (by omega)
        rw [← HG.out] at h1
        simp [fst] at h1
        omega
      have b1 : Below wr.heap.size wr (wr.alloc (Obj.cells #[.slice ao n c, .slice bo m d] 54)) := (Below.refl _ _).alloc (Nat.le_refl _) _
      have rw2 := World.rowIs_alloc wr #[.slice ao n c, .slice bo m d] 54 (fun j => if j = 0 then .slice ao n c else .slice bo m d) (fun j hj => by
        simp at hj
        rcases j with _ | _ | j <;> first | rfl | omega)
      have k0 := rw2.cell (i := 0) (by simp)
      have k1 := rw2.cell (i := 1) (by simp)
      have rf := (HR.out.keep HO.out.bel).keep b1
      have rg := hrp.keep b1
      have B1 : Hid (Below w.heap.size w (wr.alloc (Obj.cells #[.slice ao n c, .slice bo m d] 54))) := HO.out.bel.trans (b1.mono HO.out.bel.size)
      have hc := concat_any wr.heap.size n c m d ao bo f g _ rf rg (by omega) (by omega) k0 k1
      have HPR : Hid ((∀ j, j < n → IsP (wr.alloc (Obj.cells #[.slice ao n c, .slice bo m d] 54)) (f j).1 (f j).2) ∧ (∀ j, j < m → IsP (wr.alloc (Obj.cells #[.slice ao n c, .slice bo m d] 54)) (g j).1 (g j).2)) := ⟨rf.prt, rg.prt⟩
      clear k0 k1 rf rg rw2 b1 hrp hbo HO
      go_wp2_with fail
      refine hc.mono ?_
      rintro e w2 ⟨v2, rfl, o2, b2⟩
      have B2 : Hid (Below w.heap.size w w2) := B1.out.trans (b2.mono B1.out.size)
      obtain ⟨ao2, c2, rfl, rp2⟩ : ∃ ao2 c2, v2 = .slice ao2 (n + m) c2 ∧ Rp w2 ao2 (n + m) c2 (jn f n g) := by
        have o2' : w2.ownsRow (wr.alloc (Obj.cells #[.slice ao n c, .slice bo m d] 54)).heap.size 82 1 v2 (n + m) (pps (jn f n g) (n + m)) := by rw [jn_pps]; exact o2
        obtain ⟨a2, c2, e2, r2, _⟩ := own_rp o2' (fun j hj => by
          unfold jn
          split
          · exact (HPR.out.1 j (by assumption)).kp (Kp.ofBelow b2)
          · exact (HPR.out.2 (j - n) (by omega)).kp (Kp.ofBelow b2))
        exact ⟨a2, c2, e2, r2⟩
      clear o2 b2 hc HPR B1
      go_wp2_with fail
      refine (newq_any ao2 (n + m) c2 (jn f n g) w2 rp2 (by omega) (by omega)).mono ?_
      rintro e w3 ⟨Q, A, c3, f3, rfl, q3, hp3, pm3, bQ, bA, b3⟩
      have hAlt : A < w3.heap.size := by obtain ⟨_, hr, _⟩ := q3.arr.row; exact hr.lt
      have hQlt : Q < w3.heap.size := q3.box.lt
      have hws := B2.out.size
      have IN : Hid (In w w3 w3 Q A c3 (n + m) f3 (.slice none 0 0) 0 (fun _ => (0, .leaf 0 0))) :=
        ⟨q3, hp3, World.ownsRow_nil _ _ _ _, (fun j hj => by omega), Fr.refl _ _, B2.out.trans (b3.mono hws), ⟨by omega, hQlt⟩, ⟨by omega, hAlt⟩⟩
      have PO : Hid (Po (S ++ M) [] ((fst f3 (n + m)).map Prod.snd) ((fst (fun _ => ((0, .leaf 0 0) : It)) 0).map Prod.snd)) := by
        refine ⟨?_, List.Pairwise.nil, (fun a ha => by simp at ha), rfl, rfl⟩
        rw [List.nil_append, ← HM.out, ← HG.out, ← List.map_append, ← jn_fst]
        exact pm3.map _
      have HCT : Hid (∀ t ∈ S ++ M, 0 ≤ t.ct ∧ t.ct ≤ 1000000000000) := HK.out.ct HS.out (by omega)
      have hUl : (S ++ M).length = n + m := by rw [List.length_append, hlS, ← HG.out]; simp [fst]
      have HUl : Hid ((S ++ M).length = n + m) := hUl
      clear q3 hp3 pm3 bQ bA b3 rp2 B2 hAlt hQlt hws hUl
      go_wp2_with fail
      go_loopg [5] (n + m) (fun kx mv wx => ∃ (m1 : Nat) (g1 f1 : Nat → It) (pre : List Pt), Hid (In w w3 wx Q A c3 kx f1 mv m1 g1) ∧ Hid (Po (S ++ M) pre ((fst f1 kx).map Prod.snd) ((fst g1 m1).map Prod.snd)))
      case atStart => exact ⟨0, _, f3, [], IN, PO⟩
      case round =>
        clear IN PO
        obtain ⟨m1, g1, f1, pre, I1, P1⟩ := hrel
        have cq := load_q I1.out.q
        have hlen : pre.length + gk = n + m := by
          have := P1.out.perm.length_eq
          rw [List.length_append, HUl.out] at this
          simpa [fst] using this
        by_cases hk : gk ≤ 1
        · have d1 : decide ((1 : Int) < (gk : Int)) = false := by simp; omega
          have OW : Hid (Ow w _ _ m1 g1) := I1.out.ow
          have MK : Hid (Mk S (i + 1) ((fst g1 m1).map Prod.snd)) := P1.out.done HK.out (by simp [fst]; omega)
          clear I1 P1 HK HG HCT HUl hlen
          go_wp2_with fail
          refine (qlen_any _ _ _ _).mono ?_
          rintro e w4 ⟨rfl, hw⟩
          subst w4
          go_wp2_with fail
          go_roundw
          case rel => exact ⟨i + 1, m1, g1, _, by go_num, by omega, OW, rfl, MK⟩
          case measure => simp [intOf]; omega
        · obtain ⟨k, rfl⟩ : ∃ k, gk = k + 2 := ⟨gk - 2, by omega⟩
          have d1 : decide ((1 : Int) < ((k + 2 : Nat) : Int)) = true := by simp; omega
          have hm1 : m1 = pre.length / 2 := by
            have := congrArg List.length P1.out.pk
            rw [prs_len] at this
            simpa [fst] using this
          have hm2 : m1 ≤ 1000 := by omega
          obtain ⟨ao1, e1, hv1, rp1, _⟩ := I1.out.ow.rp
          subst hv1
          have hct1 : ∀ j, j < k + 2 → 0 ≤ (f1 j).2.ct ∧ (f1 j).2.ct ≤ 1000000000000 := fun j hj => HCT.out _ (P1.out.perm.mem_iff.1 (List.mem_append_right _ (List.mem_map.2 ⟨f1 j, (fst_mem _ _ _).2 ⟨j, hj, rfl⟩, rfl⟩)))
          have hpair := pair_any Q A k c3 (288 + (m1 : Int)) f1 _ I1.out.q (by omega) I1.out.hp hct1
          clear hct1 hm1 rp1
          go_wp2_with fail
          refine (qlen_any _ _ _ _).mono ?_
          rintro e w4 ⟨rfl, hw⟩
          subst w4
          go_wp2_with fail
          refine hpair.mono ?_
          rintro e w4 ⟨b, x, y, f4, rfl, pb, q4, hp4, ⟨bx, bY, pm4⟩, lxy, ly, hb4, fr4⟩
          have op := one_part w4 b _ pb
          have own4 : (w4.alloc (Obj.cells #[pp b] 82)).ownsRow w3.heap.size 82 1 (.slice ao1 m1 e1) m1 (pps g1 m1) :=
            ownsRow_fr (ownsRow_fr I1.out.own fr4 (fun q hq e => by have := (I1.out.own.lt q hq).1; have := I1.out.bQ; have := I1.out.bA; omega)) ((Fr.refl (fun _ => False) _).alloc _) (fun _ _ h => h)
          have hsz4 : w3.heap.size ≤ (w4.alloc (Obj.cells #[pp b] 82)).heap.size := by
            have h1 := (I1.out.fr.trans fr4 (fun _ _ e => e)).size
            simp
            omega
          have P2 : Hid (Po (S ++ M) (pre ++ [x, y]) ((fst f4 k).map Prod.snd) ((fst (psh g1 m1 (b, .node (x.ct + y.ct) (288 + (m1 : Int)) x y)) (m1 + 1)).map Prod.snd)) := by
            have h1 := P1.out.step (x := x) (y := y) (rest' := (fst f4 k).map Prod.snd) (by have := pm4.map Prod.snd; simpa using this) lxy (fun z hz => by
              obtain ⟨t, ht, rfl⟩ := List.mem_map.1 hz
              exact ly t ht)
            have e2 : ((fst g1 m1).map Prod.snd).length = m1 := by simp [fst]
            rw [e2] at h1
            show Po _ _ _ _
            rw [fst_psh, List.map_append]
            exact h1
          have PUT : Hid (∀ w5 v5, w5.ownsRow w3.heap.size 82 1 v5 (m1 + 1) (pps g1 m1 ++ pps (fun _ => (b, Pt.node (x.ct + y.ct) (288 + (m1 : Int)) x y)) 1) → (w4.alloc (Obj.cells #[pp b] 82)).grownBy w5 (Value.slice ao1 m1 e1).ownBlock →
            In w w3 w5 Q A c3 k f4 v5 (m1 + 1) (psh g1 m1 (b, Pt.node (x.ct + y.ct) (288 + (m1 : Int)) x y))) := fun w5 v5 ho hg => I1.out.put q4 hp4 fr4 pb ho hg
          clear pb q4 hp4 pm4 lxy ly hb4 fr4 hpair I1 P1 cq
          go_wp2_with (refine wpList_append_pv rfl _ _ rfl w3.heap.size m1 _ (pps g1 m1) rfl own4 _ 1 1 (fun _ => (b, Pt.node (x.ct + y.ct) (288 + (m1 : Int)) x y)) rfl op (by omega) hsz4 ?_; intro v5 w5 o5 g5)
          have I5 : Hid (In w w3 w5 Q A c3 k f4 v5 (m1 + 1) (psh g1 m1 (b, Pt.node (x.ct + y.ct) (288 + (m1 : Int)) x y))) := PUT.out w5 v5 o5 g5
          clear o5 g5 PUT own4 op hsz4
          go_wp2_with fail
          go_roundg k
          case measure => omega
          case rel => exact ⟨m1 + 1, _, f4, _, I5, P2⟩
    · obtain rfl : i = r := by omega
      go_wp2
      go_ret
      exact ⟨_, m, g, M, rfl, HO.out, HG.out, HK.out⟩

end Go.Proofs.Ytkclaikofdolmaa
