/- ZTold, ZKind. -/
import Derived.Test.YtiahbicodlgmhaaGreatDoorM24
/- A telling written. -/
namespace Go.Proofs.YtiahbicodlgmhaaGreatDoor.Z
open Go.RowKit

/-- The lengths' code's own lengths, as fields. -/
def vfo (Lc : Nat → Int) : Nat → List Fd
  | 0 => []
  | k + 1 => vfo Lc k ++ [(Lc (ord k), 3)]

theorem vfo_fb (Lc : Nat → Int) (k : Nat) : fb (vfo Lc k) = 3 * k := by
  induction k with
  | zero => rfl
  | succ k ih => simp only [vfo, fb_app, ih, fb]; omega

theorem clst_more (q : Cl) {L : Nat → Int} {n a : Nat} (h : Rn L n a q) : ∃ u k : Nat, clst q = (0, (q.sym : Int), (u : Int), (k : Int)) ∧ u < 2 ^ k ∧ k ≤ 13 := by
  have ho := h.ok
  cases q with
  | len x => exact ⟨0, 0, rfl, by simp, by omega⟩
  | rep v => exact ⟨v, 2, rfl, ho.1, by omega⟩
  | few v => exact ⟨v, 3, rfl, ho, by omega⟩
  | many v => exact ⟨v, 7, rfl, ho, by omega⟩

theorem Rns.each {L : Nat → Int} {n a : Nat} {qs : List Cl} (h : Rns L n a qs) : ∀ q ∈ qs, ∃ p, Rn L n p q := by
  induction h with
  | nil => intro q hq; cases hq
  | snoc a qs q _ hr ih =>
    intro x hx
    rcases List.mem_append.1 hx with h' | h'
    · exact ih x h'
    · obtain rfl : x = q := by simpa using h'
      exact ⟨a, hr⟩

/-- Its fields. -/
def tlf (Lc : Nat → Int) (nl nd vn : Nat) (qs : List Cl) : List Fd :=
  [(((nl - 257 : Nat) : Int), 5), (((nd - 1 : Nat) : Int), 5), (((vn - 4 : Nat) : Int), 4)] ++ vfo Lc vn ++ encS Lc 19 Lc 19 (qs.map clst)

theorem tg_okP {w : World} {T lo K : Nat} {D0 D1 : Nat → Int} {R0 R1 Rb nl nd vn : Nat} {L0 L1 Lc : Nat → Int} {qs : List Cl} {oa oc ca : Nat} {sa : Option Addr} {sc : Nat} (h : Tg w T lo K D0 D1 R0 R1 Rb nl nd vn L0 L1 Lc qs oa oc ca sa sc) : ∀ s ∈ qs.map clst, okP Lc 19 Lc 19 s := by
  intro s hs
  obtain ⟨q, hq, rfl⟩ := List.mem_map.1 hs
  obtain ⟨p, hr⟩ := h.rn.each q hq
  obtain ⟨u, k, e, h1, h2⟩ := clst_more q hr
  have h19 := cl_lt hr
  have hp := h.gc.pos q.sym h19 (tl_pos hs (clst_sym q).1 (clst_sym q).2)
  refine ⟨q.sym, u, k, by rw [e], h1, h2, .inl ⟨by rw [e], h19, by omega, by omega⟩⟩

set_option maxRecDepth 100000 in
set_option maxHeartbeats 4000000 in
theorem ztold_any (T B Q lo K : Nat) (A : Nat → Prop) (hA : ∀ k, lo ≤ k → k < K → A k) (D0 D1 : Nat → Int) (R0 R1 Rb nl nd vn : Nat) (L0 L1 Lc : Nat → Int) (qs : List Cl) (oa oc ca : Nat) (sa : Option Addr) (sc : Nat) (l : List Fd) (w : World) (h : Tg w T lo K D0 D1 R0 R1 Rb nl nd vn L0 L1 Lc qs oa oc ca sa sc) (hW : Wz w B Q A l) (hl : fb l ≤ 600000000) :
    Calls Tryz.prog 109 #[.pointer (some ⟨T, 0, none⟩), .pointer (some ⟨Q, 0, none⟩)] w fun e w' => e = .returned (.tuple #[]) ∧ Wz w' B Q A (l ++ tlf Lc nl nd vn qs) ∧ Zw B A w w' := by
  have hql := h.rn.len
  have n0l := h.t0.ls
  have n0u := h.t0.le
  have n1l := h.t1.ls
  have n1u := h.t1.le
  have v4 := h.v4
  have v19 := h.v19
  obtain ⟨m, hm⟩ : ∃ m, m = qs.length := ⟨_, rfl⟩
  have HM : Hid (m = qs.length) := hm
  have hrow := h.row
  rw [← hm] at hrow hql
  have hm9 : m ≤ 400 := by omega
  have HROW : Hid (∀ W, Zw B A w W → W.rowIs T 144 8 (tlc (.pointer (some ⟨R0, 0, none⟩)) (.pointer (some ⟨R1, 0, none⟩)) nl nd (.slice (some ⟨oa, 0, none⟩) vn oc) (.pointer (some ⟨Rb, 0, none⟩)) (.slice (some ⟨ca, 0, none⟩) 19 19) (.slice sa m sc))) := fun W hz => hrow.of_block (hz.mid _ (hA _ h.bT.1 h.bT.2))
  have HORD : Hid (∀ W, Zw B A w W → Ri W (some ⟨oa, 0, none⟩) vn oc (fun k => Lc (ord k))) := fun W hz => ri_of h.od (hz.mid _ (hA _ h.bo.1 h.bo.2))
  have HSS : Hid (∀ W, Zw B A w W → Ss W sa qs.length (qs.map clst)) := fun W hz => h.st.of (fun ad had => hz.mid _ (hA _ (h.bs ad had).1 (h.bs ad had).2))
  have HCX : Hid (∀ W, Zw B A w W → Cx W Rb lo K Lc 19) := fun W hz => h.cb.mid (hz.md hA)
  have HLC : Hid (∀ j, j < 19 → 0 ≤ Lc j ∧ Lc j ≤ 7) := fun j hj => by
    by_cases hp : 0 < tl 0 (qs.map clst) j
    · have := h.gc.pos j hj hp; omega
    · have := h.gc.zer j hj hp; omega
  have HOP : Hid (∀ s ∈ qs.map clst, okP Lc 19 Lc 19 s) := tg_okP h
  have HA : Hid (∀ k, lo ≤ k → k < K → A k) := hA
  have HL : Hid (fb l ≤ 600000000) := hl
  have z0 := Zw.refl B A w
  have q0 := (HROW.out w z0).cell (i := 2) (by omega)
  simp only [tlc] at q0
  have t1 : (nl : Int) - 257 = ((nl - 257 : Nat) : Int) := by omega
  have hp1 := zput_any B Q A l ((nl : Int) - 257) ((nl - 257 : Nat) : Int) 5 w hW (by omega) (by omega) (by rw [t1]; exact Int.emod_eq_of_lt (by omega) (by omega))
  clear h hW hA hl hrow hm hql t1 z0
  go_enter Tryz.func109, Tryz.ntmps109
  go_wp2_with fail
  refine hp1.mono ?_
  rintro e w1 ⟨rfl, hw1, hz1⟩
  have q1 := (HROW.out w1 hz1).cell (i := 3) (by omega)
  simp only [tlc] at q1
  have t2 : (nd : Int) - 1 = ((nd - 1 : Nat) : Int) := by omega
  have hp2 := zput_any B Q A _ ((nd : Int) - 1) ((nd - 1 : Nat) : Int) 5 w1 hw1 (by omega) (by rw [fb_app]; simp only [fb]; have := HL.out; omega) (by rw [t2]; exact Int.emod_eq_of_lt (by omega) (by omega))
  have HZ1 : Hid (Zw B A w w1) := hz1
  clear hp1 q0 hw1 hz1 t2
  go_wp2_with fail
  refine hp2.mono ?_
  rintro e w2 ⟨rfl, hw2, hz2⟩
  have z2 := HZ1.out.trans hz2
  have q2 := (HROW.out w2 z2).cell (i := 4) (by omega)
  simp only [tlc] at q2
  have t3 : (vn : Int) - 4 = ((vn - 4 : Nat) : Int) := by omega
  have hp3 := zput_any B Q A _ ((vn : Int) - 4) ((vn - 4 : Nat) : Int) 4 w2 hw2 (by omega) (by rw [fb_app, fb_app]; simp only [fb]; have := HL.out; omega) (by rw [t3]; exact Int.emod_eq_of_lt (by omega) (by omega))
  have HZ2 : Hid (Zw B A w w2) := z2
  clear hp2 q1 hw2 hz2 z2 t3
  go_wp2_with fail
  refine hp3.mono ?_
  rintro e w3 ⟨rfl, hw3, hz3⟩
  have z3 := HZ2.out.trans hz3
  have q3 := (HROW.out w3 z3).cell (i := 4) (by omega)
  simp only [tlc] at q3
  have HZ3 : Hid (Zw B A w w3) := z3
  have HW3 : Hid (Wz w3 B Q A (l ++ [(((nl - 257 : Nat) : Int), 5), (((nd - 1 : Nat) : Int), 5), (((vn - 4 : Nat) : Int), 4)] ++ vfo Lc 0)) := by
    show Wz _ _ _ _ _
    simpa [vfo] using hw3
  clear hp3 q2 hw3 hz3 z3
  go_wp2_with fail
  clear q3
  go_loopw [37] (fun iv wr => ∃ k : Nat, k ≤ vn ∧ iv = .int .i64 k ∧ Hid (Wz wr B Q A (l ++ [(((nl - 257 : Nat) : Int), 5), (((nd - 1 : Nat) : Int), 5), (((vn - 4 : Nat) : Int), 4)] ++ vfo Lc k)) ∧ Hid (Zw B A w wr)) (fun iv _ => vn - (intOf iv).toNat)
  case atStart => exact ⟨0, by omega, rfl, HW3, HZ3⟩
  case round =>
    clear HW3 HZ1 HZ2 HZ3
    obtain ⟨k, hk, rfl, HW, HZ⟩ := hrel
    by_cases hlt : k < vn
    · have ck := (HORD.out wr HZ.out).cells _ rfl k hlt
      rw [Addr.add_lit, Nat.zero_add] at ck
      have hlc := HLC.out (ord k) (ord_lt k (by omega))
      have hp4 := zput_any B Q A _ (Lc (ord k)) (Lc (ord k)) 3 wr HW.out (by omega) (by rw [fb_app, fb_app, vfo_fb]; simp only [fb]; have := HL.out; omega) (Int.emod_eq_of_lt hlc.1 (by omega))
      have HE : Hid (l ++ [(((nl - 257 : Nat) : Int), 5), (((nd - 1 : Nat) : Int), 5), (((vn - 4 : Nat) : Int), 4)] ++ vfo Lc k ++ [(Lc (ord k), 3)] = l ++ [(((nl - 257 : Nat) : Int), 5), (((nd - 1 : Nat) : Int), 5), (((vn - 4 : Nat) : Int), 4)] ++ vfo Lc (k + 1)) := by
        show _ = _
        simp [vfo]
      clear hlc HW
      go_wp2_with fail
      refine hp4.mono ?_
      rintro e w5 ⟨rfl, hw5, hz5⟩
      rw [HE.out] at hw5
      have HW5 : Hid (Wz w5 B Q A (l ++ [(((nl - 257 : Nat) : Int), 5), (((nd - 1 : Nat) : Int), 5), (((vn - 4 : Nat) : Int), 4)] ++ vfo Lc (k + 1))) := hw5
      have HZ5 : Hid (Zw B A w w5) := HZ.out.trans hz5
      clear hp4 hw5 hz5 HZ HE ck
      go_wp2
      go_roundw
      case rel => exact ⟨k + 1, by omega, by go_num, HW5, HZ5⟩
      case measure => simp [intOf]; omega
    · obtain rfl : k = vn := by omega
      have q7 := (HROW.out wr HZ.out).cell (i := 7) (by omega)
      simp only [tlc] at q7
      obtain ⟨l2, hl2⟩ : ∃ l2, l2 = l ++ [(((nl - 257 : Nat) : Int), 5), (((nd - 1 : Nat) : Int), 5), (((k - 4 : Nat) : Int), 4)] ++ vfo Lc k := ⟨_, rfl⟩
      have hl2b : fb l2 ≤ 610000000 := by rw [hl2, fb_app, fb_app, vfo_fb]; simp only [fb]; have := HL.out; omega
      have HL2 : Hid (l2 = l ++ [(((nl - 257 : Nat) : Int), 5), (((nd - 1 : Nat) : Int), 5), (((k - 4 : Nat) : Int), 4)] ++ vfo Lc k) := hl2
      have HWS : Hid (Wz wr B Q A (l2 ++ encS Lc 19 Lc 19 ((qs.map clst).take 0))) := by
        show Wz _ _ _ _ _
        rw [hl2]
        simpa [encS] using HW.out
      clear hl2 HW hlt hk
      go_wp2_with fail
      clear q7
      go_loopw [50] (fun iv wr => ∃ j : Nat, j ≤ m ∧ iv = .int .i64 j ∧ Hid (Wz wr B Q A (l2 ++ encS Lc 19 Lc 19 ((qs.map clst).take j))) ∧ Hid (Zw B A w wr)) (fun iv _ => m - (intOf iv).toNat)
      case atStart => exact ⟨0, by omega, rfl, HWS, HZ⟩
      case round =>
        clear HWS HZ
        obtain ⟨j, hj, rfl, HW, HZ⟩ := hrel
        by_cases hlt : j < m
        · obtain ⟨bb, off, hsa, x0, x1, x2, x3⟩ := (HSS.out wr HZ.out).cells j (by have := HM.out; omega)
          have htk : (qs.map clst).take (j + 1) = (qs.map clst).take j ++ [(qs.map clst).getD j sz0] := Lzz.take_one _ sz0 j (by have := HM.out; simp; omega)
          have hmem : (qs.map clst).getD j sz0 ∈ qs.map clst := by
            rw [List.getD, List.getElem?_eq_getElem (by have := HM.out; simp; omega : j < (qs.map clst).length)]
            exact List.getElem_mem _
          have hc0 : ((qs.map clst).getD j sz0).1 = 0 := by
            obtain ⟨q, _, e⟩ := List.mem_map.1 hmem
            rw [← e]
            exact (clst_sym q).1
          obtain ⟨i, u, kk, es, hu, hkk, hcase⟩ := HOP.out _ hmem
          obtain ⟨st, hst⟩ : ∃ st, st = (qs.map clst).getD j sz0 := ⟨_, rfl⟩
          rw [← hst] at x0 x1 x2 x3 htk es hcase hc0
          obtain ⟨c, sr⟩ := st
          simp only at es hcase x0 x1 x2 x3 hc0
          subst es
          subst hc0
          simp only at x0 x1 x2 x3
          have hcc : i < 19 ∧ 0 < Lc i := by
            rcases hcase with ⟨_, h2, h3, _⟩ | ⟨h1, _⟩
            · exact ⟨h2, h3⟩
            · omega
          have bY : Below wr.heap.size wr (wr.alloc (Obj.cells #[Value.int .i64 0, Value.int .i64 i, Value.int .i64 u, Value.int .i64 kk] 109)) := (Below.refl _ _).alloc (Nat.le_refl _) _
          have WY := (HW.out.keep bY).drew
          have zY : Zw B A w (wr.alloc (Obj.cells #[Value.int .i64 0, Value.int .i64 i, Value.int .i64 u, Value.int .i64 kk] 109)).drew := HZ.out.trans (Zw.keep HW.out.kB HW.out.kw bY).drew
          have hfb : fb (l2 ++ encS Lc 19 Lc 19 ((qs.map clst).take j)) ≤ 700000000 := by
            rw [fb_app]
            have := encS_le (La := Lc) (na := 19) (Lb := Lc) (nb := 19) (ss := (qs.map clst).take j) (fun s hs => HOP.out s (List.mem_of_mem_take hs))
            rw [List.length_take, List.length_map] at this
            have := HM.out
            omega
          have hstep := zstep_any Rb B Q lo K A HA.out Lc 19 (l2 ++ encS Lc 19 Lc 19 ((qs.map clst).take j)) 0 i u kk _ (HCX.out _ zY) WY hcc.1 hcc.2 (by omega) hu (by omega)
          have q5 := (HROW.out _ zY).cell (i := 5) (by omega)
          simp only [tlc] at q5
          have HE : Hid (l2 ++ encS Lc 19 Lc 19 ((qs.map clst).take (j + 1)) = l2 ++ encS Lc 19 Lc 19 ((qs.map clst).take j) ++ [gf Lc 19 i, ((u : Int), kk)]) := by
            show _ = _
            rw [htk, encS_app, List.append_assoc]
            simp [encS]
          have HZY : Hid (Zw B A w (wr.alloc (Obj.cells #[Value.int .i64 0, Value.int .i64 i, Value.int .i64 u, Value.int .i64 kk] 109)).drew) := zY
          subst hsa
          clear htk hmem hst bY WY zY hfb HW HZ hcc hu hcase
          go_wp2_with fail
          go_region_with (go_at_call 137; refine hstep.mono ?_; rintro e w5 ⟨rfl, hw5, hz5⟩)
          all_goals
            (try simp only [List.getElem_toArray, List.getElem_cons_zero, List.getElem_cons_succ, Act.put, List.setIfInBounds_toArray, List.set_cons_zero, List.set_cons_succ])
            have HW5 : Hid (Wz w5 B Q A (l2 ++ encS Lc 19 Lc 19 ((qs.map clst).take (j + 1)))) := by show Wz _ _ _ _ _; rw [HE.out]; exact hw5
            have HZ5 : Hid (Zw B A w w5) := HZY.out.trans hz5
            clear hstep hw5 hz5 q5
            go_wp2
            go_roundw
            case rel => exact ⟨j + 1, by omega, by go_num, HW5, HZ5⟩
            case measure => simp [intOf]; omega
        · obtain rfl : j = m := by omega
          have hall : (qs.map clst).take j = qs.map clst := by rw [HM.out, ← List.length_map (f := clst), List.take_length]
          have hw := HW.out
          rw [hall, HL2.out, List.append_assoc, List.append_assoc] at hw
          have HW9 : Hid (Wz wr B Q A (l ++ tlf Lc nl nd k qs)) := by
            show Wz _ _ _ _ _
            unfold tlf
            rw [List.append_assoc]
            exact hw
          clear hall hw HW
          go_wp2
          go_end0
          exact ⟨rfl, HW9.out, HZ.out⟩

end Go.Proofs.YtiahbicodlgmhaaGreatDoor.Z

/- putHead, putFixed, putTold. -/
namespace Go.Proofs.YtiahbicodlgmhaaGreatDoor.Z
open Go.RowKit

/-- Whether it is the last, as a bit. -/
def lb1 (last : Bool) : Int := if last then 1 else 0

set_option maxHeartbeats 1000000 in
theorem zhead_any (B Q : Nat) (A : Nat → Prop) (l : List Fd) (last : Bool) (kd : Nat) (w : World) (hW : Wz w B Q A l) (hk : kd < 4) (hl : fb l ≤ 900000000) :
    Calls Tryz.prog 56 #[.pointer (some ⟨Q, 0, none⟩), .bool last, .int .i64 kd] w fun e w' => e = .returned (.tuple #[]) ∧ Wz w' B Q A (l ++ [(lb1 last, 1), ((kd : Int), 2)]) ∧ Zw B A w w' := by
  have hp1 := zput_any B Q A l (lb1 last) (lb1 last) 1 w hW (by omega) (by omega) (by cases last <;> decide)
  have hfb : fb (l ++ [(lb1 last, 1)]) ≤ 900000001 := by rw [fb_app]; simp only [fb]; omega
  have HU : Hid ((kd : Int) % 2 ^ 2 = kd) := Int.emod_eq_of_lt (by omega) (by omega)
  clear hW hl
  cases last
  all_goals
    simp only [lb1, if_true, if_false, Bool.false_eq_true] at hp1 hfb
    go_enter Tryz.func56, Tryz.ntmps56
    go_wp2_with fail
    refine hp1.mono ?_
    rintro e w1 ⟨rfl, hw1, hz1⟩
    have hp2 := zput_any B Q A _ kd kd 2 w1 hw1 (by omega) (by omega) HU.out
    have HZ1 : Hid (Zw B A w w1) := hz1
    clear hp1 hw1 hz1
    go_wp2_with fail
    refine hp2.mono ?_
    rintro e w2 ⟨rfl, hw2, hz2⟩
    rw [List.append_assoc] at hw2
    have HZ2 : Hid (Zw B A w w2) := HZ1.out.trans hz2
    clear hp2 hz2
    go_wp2_with fail
    go_end0
    exact ⟨rfl, hw2, HZ2.out⟩

theorem fl_pos : ∀ i, i < 286 → 0 < fl i ∧ fl i ≤ 15 := by decide +kernel
theorem dl_pos : ∀ i, i < 30 → 0 < dl i ∧ dl i ≤ 15 := by decide +kernel

/-- The shape of a block's steps. -/
theorem stps_shape {l : List It} (h : ∀ i ∈ l, i.ok) : ∀ s ∈ stps l ++ [eos], ∃ i u k : Nat, s.2 = ((i : Int), (u : Int), (k : Int)) ∧ u < 2 ^ k ∧ k ≤ 13 ∧ ((s.1 = 0 ∧ i < 286) ∨ (s.1 = 1 ∧ i < 30)) := by
  intro s hs
  rcases List.mem_append.1 hs with h' | h'
  · obtain ⟨i, hi, hs'⟩ := List.mem_flatMap.1 h'
    have hio := h i hi
    cases i with
    | lit b =>
      have hb : b < 256 := hio
      simp only [stp, List.mem_singleton] at hs'
      subst hs'
      exact ⟨b, 0, 0, rfl, by simp, by omega, .inl ⟨rfl, by omega⟩⟩
    | cpy t v d u =>
      obtain ⟨h1, h2, h3, h4, h5⟩ := hio
      have e1 := (lb_le t (by omega) h1).2.2
      have e2 := (db_le d h4).2.2
      simp only [stp, List.mem_cons, List.not_mem_nil, or_false] at hs'
      rcases hs' with rfl | rfl
      · exact ⟨t, v, lx t, rfl, h3, by omega, .inl ⟨rfl, by omega⟩⟩
      · exact ⟨d, u, dx d, rfl, h5, by omega, .inr ⟨rfl, by omega⟩⟩
  · obtain rfl : s = eos := by simpa using h'
    exact ⟨256, 0, 0, rfl, by simp, by omega, .inl ⟨rfl, by omega⟩⟩

theorem fix_okP {l : List It} (h : ∀ i ∈ l, i.ok) : ∀ s ∈ stps l ++ [eos], okP fl 288 dl 32 s := by
  intro s hs
  obtain ⟨i, u, k, e, h1, h2, h3⟩ := stps_shape h s hs
  refine ⟨i, u, k, e, h1, h2, ?_⟩
  rcases h3 with ⟨h3, h4⟩ | ⟨h3, h4⟩
  · have := fl_pos i h4
    exact .inl ⟨h3, by omega, this.1, this.2⟩
  · have := dl_pos i h4
    exact .inr ⟨h3, by omega, this.1, this.2⟩

theorem told_okP {w : World} {T lo K : Nat} {R0 R1 Rb nl nd vn : Nat} {L0 L1 Lc : Nat → Int} {qs : List Cl} {oa oc ca : Nat} {sa : Option Addr} {sc : Nat} {l : List It} (hok : ∀ i ∈ l, i.ok) (h : Tg w T lo K (tl 0 (stps l ++ [eos])) (tl 1 (stps l ++ [eos])) R0 R1 Rb nl nd vn L0 L1 Lc qs oa oc ca sa sc) : ∀ s ∈ stps l ++ [eos], okP L0 nl L1 nd s := by
  intro s hs
  obtain ⟨i, u, k, e, h1, h2, h3⟩ := stps_shape hok s hs
  refine ⟨i, u, k, e, h1, h2, ?_⟩
  have e1 : s.2.1 = (i : Int) := by rw [e]
  rcases h3 with ⟨h3, h4⟩ | ⟨h3, h4⟩
  · have hp := h.t0.gb.pos i h4 (tl_pos hs h3 e1)
    refine .inl ⟨h3, ?_, by omega, by omega⟩
    rcases Nat.lt_or_ge i nl with h' | h'
    · exact h'
    · have := h.t0.zr i h' h4; omega
  · have hp := h.t1.gb.pos i h4 (tl_pos hs h3 e1)
    refine .inr ⟨h3, ?_, by omega, by omega⟩
    rcases Nat.lt_or_ge i nd with h' | h'
    · exact h'
    · have := h.t1.zr i h' h4; omega

set_option maxRecDepth 100000 in
set_option maxHeartbeats 1000000 in
theorem putFixed_any (x B Q lo K : Nat) (A : Nat → Prop) (hA : ∀ k, lo ≤ k → k < K → A k) (l : List Fd) (d : Value) (last : Bool) (is : List It) (hok : ∀ i ∈ is, i.ok) (sa : Option Addr) (sc g0 g1 f0 f1 T R0 R1 Rb nl nd vn : Nat) (L0 L1 Lc : Nat → Int) (qs : List Cl) (oa oc ca : Nat) (ta : Option Addr) (tc : Nat) (w : World) (h : Bk w x lo K d last is sa sc g0 g1 f0 f1 T R0 R1 Rb nl nd vn L0 L1 Lc qs oa oc ca ta tc) (hW : Wz w B Q A l) (hm : (stps is ++ [eos]).length ≤ 1000000) (hl : fb l ≤ 500000000) :
    Calls Tryz.prog 75 #[.pointer (some ⟨x, 0, none⟩), .pointer (some ⟨Q, 0, none⟩)] w fun e w' => e = .returned (.tuple #[]) ∧ Wz w' B Q A (l ++ [(lb1 last, 1), (1, 2)] ++ encS fl 288 dl 32 (stps is ++ [eos])) ∧ Zw B A w w' := by
  have hh := zhead_any B Q A l last 1 w hW (by omega) (by omega)
  have q1 := h.row.cell (i := 1) (by omega)
  simp only [bkc] at q1
  have HB : Hid (∀ W, Zw B A w W → Bk W x lo K d last is sa sc g0 g1 f0 f1 T R0 R1 Rb nl nd vn L0 L1 Lc qs oa oc ca ta tc) := fun W hz => h.mid (hz.md hA)
  have HA : Hid (∀ k, lo ≤ k → k < K → A k) := hA
  have HM : Hid ((stps is ++ [eos]).length ≤ 1000000 ∧ fb l ≤ 500000000) := ⟨hm, hl⟩
  have HOK : Hid (∀ i ∈ is, i.ok) := hok
  clear hA hok h hW hm hl
  go_enter Tryz.func75, Tryz.ntmps75
  go_wp2_with fail
  refine hh.mono ?_
  rintro e w1 ⟨rfl, hw1, hz1⟩
  have hB := HB.out w1 hz1
  have q6 := hB.row.cell (i := 6) (by omega)
  have q7 := hB.row.cell (i := 7) (by omega)
  simp only [bkc] at q6 q7
  have hst := zsteps_any x f0 f1 B Q lo K A HA.out fl 288 dl 32 _ _ sa sc _ _ w1 hB.row rfl hB.ss (fun ad had => HA.out _ (hB.bs ad had).1 (hB.bs ad had).2) hB.x0 hB.x1 hw1 (fix_okP HOK.out) HM.out.1 (by rw [fb_app]; simp only [fb]; have := HM.out; omega)
  have HZ1 : Hid (Zw B A w w1) := hz1
  clear hh q1 hw1 hz1 hB
  go_wp2_with fail
  refine hst.mono ?_
  rintro e w2 ⟨rfl, hw2, hz2⟩
  have HW2 : Hid (Wz w2 B Q A (l ++ [(lb1 last, 1), (1, 2)] ++ encS fl 288 dl 32 (stps is ++ [eos]))) := hw2
  have HZ2 : Hid (Zw B A w w2) := HZ1.out.trans hz2
  clear hst hw2 hz2 q6 q7
  go_wp2_with fail
  go_end0
  exact ⟨rfl, HW2.out, HZ2.out⟩

theorem tlf_le {w : World} {T lo K : Nat} {D0 D1 : Nat → Int} {R0 R1 Rb nl nd vn : Nat} {L0 L1 Lc : Nat → Int} {qs : List Cl} {oa oc ca : Nat} {sa : Option Addr} {sc : Nat} (h : Tg w T lo K D0 D1 R0 R1 Rb nl nd vn L0 L1 Lc qs oa oc ca sa sc) : fb (tlf Lc nl nd vn qs) ≤ 20000 := by
  have h1 := encS_le (tg_okP h)
  rw [List.length_map] at h1
  have h2 := h.rn.len
  have := h.t0.le
  have := h.t1.le
  have := h.v19
  unfold tlf
  rw [fb_app, fb_app, vfo_fb]
  simp only [fb]
  omega

set_option maxRecDepth 100000 in
set_option maxHeartbeats 1000000 in
theorem putTold_any (x B Q lo K : Nat) (A : Nat → Prop) (hA : ∀ k, lo ≤ k → k < K → A k) (l : List Fd) (d : Value) (last : Bool) (is : List It) (hok : ∀ i ∈ is, i.ok) (sa : Option Addr) (sc g0 g1 f0 f1 T R0 R1 Rb nl nd vn : Nat) (L0 L1 Lc : Nat → Int) (qs : List Cl) (oa oc ca : Nat) (ta : Option Addr) (tc : Nat) (w : World) (h : Bk w x lo K d last is sa sc g0 g1 f0 f1 T R0 R1 Rb nl nd vn L0 L1 Lc qs oa oc ca ta tc) (hW : Wz w B Q A l) (hm : (stps is ++ [eos]).length ≤ 1000000) (hl : fb l ≤ 500000000) :
    Calls Tryz.prog 77 #[.pointer (some ⟨x, 0, none⟩), .pointer (some ⟨Q, 0, none⟩)] w fun e w' => e = .returned (.tuple #[]) ∧ Wz w' B Q A (l ++ [(lb1 last, 1), (2, 2)] ++ tlf Lc nl nd vn qs ++ encS L0 nl L1 nd (stps is ++ [eos])) ∧ Zw B A w w' := by
  have hh := zhead_any B Q A l last 2 w hW (by omega) (by omega)
  have q1 := h.row.cell (i := 1) (by omega)
  simp only [bkc] at q1
  have HB : Hid (∀ W, Zw B A w W → Bk W x lo K d last is sa sc g0 g1 f0 f1 T R0 R1 Rb nl nd vn L0 L1 Lc qs oa oc ca ta tc) := fun W hz => h.mid (hz.md hA)
  have HA : Hid (∀ k, lo ≤ k → k < K → A k) := hA
  have HM : Hid ((stps is ++ [eos]).length ≤ 1000000 ∧ fb l ≤ 500000000 ∧ fb (tlf Lc nl nd vn qs) ≤ 20000) := ⟨hm, hl, tlf_le h.tg⟩
  have HOK : Hid (∀ i ∈ is, i.ok) := hok
  clear hA hok h hW hm hl
  go_enter Tryz.func77, Tryz.ntmps77
  go_wp2_with fail
  refine hh.mono ?_
  rintro e w1 ⟨rfl, hw1, hz1⟩
  have hB := HB.out w1 hz1
  have q8 := hB.row.cell (i := 8) (by omega)
  simp only [bkc] at q8
  have htd := ztold_any T B Q lo K A HA.out _ _ R0 R1 Rb nl nd vn L0 L1 Lc qs oa oc ca ta tc _ w1 hB.tg hw1 (by rw [fb_app]; simp only [fb]; have := HM.out; omega)
  have HZ1 : Hid (Zw B A w w1) := hz1
  clear hh q1 hw1 hz1 hB
  go_wp2_with fail
  refine htd.mono ?_
  rintro e w2 ⟨rfl, hw2, hz2⟩
  have z2 := HZ1.out.trans hz2
  have hB := HB.out w2 z2
  have p8 := hB.row.cell (i := 8) (by omega)
  have p0 := hB.tg.row.cell (i := 0) (by omega)
  have p1 := hB.tg.row.cell (i := 1) (by omega)
  simp only [bkc] at p8
  simp only [tlc] at p0 p1
  have hst := zsteps_any x R0 R1 B Q lo K A HA.out L0 nl L1 nd _ _ sa sc _ _ w2 hB.row rfl hB.ss (fun ad had => HA.out _ (hB.bs ad had).1 (hB.bs ad had).2) hB.tg.t0.cx hB.tg.t1.cx hw2 (told_okP HOK.out hB.tg) HM.out.1 (by rw [fb_app, fb_app]; simp only [fb]; have := HM.out; omega)
  have HZ2 : Hid (Zw B A w w2) := z2
  clear htd q8 hw2 hz2 z2 hB
  go_wp2_with fail
  refine hst.mono ?_
  rintro e w3 ⟨rfl, hw3, hz3⟩
  have HW3 : Hid (Wz w3 B Q A (l ++ [(lb1 last, 1), (2, 2)] ++ tlf Lc nl nd vn qs ++ encS L0 nl L1 nd (stps is ++ [eos]))) := hw3
  have HZ3 : Hid (Zw B A w w3) := HZ2.out.trans hz3
  clear hst hw3 hz3 p8 p0 p1
  go_wp2_with fail
  go_end0
  exact ⟨rfl, HW3.out, HZ3.out⟩

end Go.Proofs.YtiahbicodlgmhaaGreatDoor.Z
