/- readSteps. -/
import Derived.Test.YthaibdflehnbbaaWRCopy
import Derived.Deep.LoopGhost
namespace Go.Proofs.Ythaibdflehnbbaa
open Go.RowKit

theorem OwO.fr {P : Nat → Prop} {w w' : World} {e B : Nat} {v : Value} {n : Nat} {xs : List MO} {l : List Op} (h : OwO w e B v n xs l) (hf : Fr P w w') (h1 : ∀ k, v.ownBlock = some k → ¬ P k)
    (h2 : ∀ j, j < n → ∀ ad, (xs.getD j mz).a = some ad → 0 < (xs.getD j mz).m → ¬ P ad.block) : OwO w' e B v n xs l :=
  ⟨ownsRow_fr h.own hf h1, h.len, fun j hj => ⟨(h.is j hj).cp, (h.is j hj).fr, (h.is j hj).n, (h.is j hj).rd.fr hf (h2 j hj)⟩, h.sep⟩

/-- What is answered if the steps l were read and these bytes are left. -/
def ansOf (l : List Op) : Option (List Int) → Int × List Op
  | some zs => cat l (psl zs)
  | none => (3, [])

structure Sg (w wr : World) (R : Nat) (ao : Option Addr) (n c : Nat) (xs ys : List Int) (gk : Nat) (lv : Value) (m : Nat) (ms : List MO) (l : List Op) (oc : Option (List Int)) : Prop where
  rd : At wr R ao n c xs oc
  own : OwO wr 42 w.heap.size lv m ms l
  gk : gk = (oc.getD []).length
  lim : m + (oc.getD []).length ≤ ys.length
  ans : psl ys = ansOf l oc
  fr : Fr (fun k => k = R) w wr
  dat : ∀ j, j < m → ∀ ad, (ms.getD j mz).a = some ad → 0 < (ms.getD j mz).m → ¬ ad.block = R

theorem cat_bad (l : List Op) (q : Int × List Op) (h : q.1 ≠ 0) : cat l q = (q.1, []) := by unfold cat; rw [if_neg h]

/-- A step is read, put behind the others. -/
theorem Sg.next {w wr w' : World} {R : Nat} {ao : Option Addr} {n c : Nat} {xs ys : List Int} {gk : Nat} {lv : Value} {m : Nat} {ms : List MO} {l : List Op} {b : Int} {r : List Int} (h : Sg w wr R ao n c xs ys gk lv m ms l (some (b :: r))) (hb : b ≠ 0)
    {x : MO} {o : Op} {od : Option (List Int)} (hst : st1 b r = od.map (fun t => (o, t)) ∨ (st1 b r = none ∧ od = none)) (hat : At w' R ao n c xs od) {v' : Value} (hown : OwO w' 42 w.heap.size v' (m + 1) (ms ++ [x]) (l ++ [o])) (hfr : Fr (fun k => k = R) w w')
    (hx : ∀ ad, x.a = some ad → 0 < x.m → ¬ ad.block = R) : Sg w w' R ao n c xs ys (od.getD []).length v' (m + 1) (ms ++ [x]) (l ++ [o]) od ∧ (od.getD []).length < gk := by
  have hlx := h.own.lenx
  have hlim := h.lim
  have hgk := h.gk
  simp only [Option.getD_some, List.length_cons] at hlim hgk
  have hle : (od.getD []).length ≤ r.length := by
    cases od with
    | none => simp
    | some t =>
      rcases hst with h1 | ⟨_, h1⟩
      · exact st1_len b r (o, t) h1
      · cases h1
  refine ⟨⟨hat, hown, rfl, by omega, ?_, hfr, fun j hj ad e hm => ?_⟩, by omega⟩
  · rw [h.ans]
    cases od with
    | none =>
      have hn : st1 b r = none := by rcases hst with h1 | ⟨h1, _⟩ <;> simpa using h1
      show cat l (psl (b :: r)) = (3, [])
      rw [psl_none b r hb hn]
      rfl
    | some t =>
      have hs : st1 b r = some (o, t) := by
        rcases hst with h1 | ⟨_, h1⟩
        · exact h1
        · cases h1
      show cat l (psl (b :: r)) = cat (l ++ [o]) (psl t)
      rw [psl_some b r hb (o, t) hs]
      exact cat_step l o (psl t)
  · by_cases hjn : j < m
    · rw [getD_app1 ms x mz j (by omega)] at e hm
      exact h.dat j hjn ad e hm
    · have : j = ms.length := by omega
      subst this
      rw [getD_app2] at e hm
      exact hx ad e hm

set_option maxRecDepth 100000 in
set_option maxHeartbeats 2000000 in
theorem readSteps_at (R : Nat) (ao : Option Addr) (n c : Nat) (xs ys : List Int) (w : World) (h : At w R ao n c xs (some ys)) (hn : n ≤ 1000000) :
    Calls Try.prog 34 #[.pointer (some ⟨R, 0, none⟩)] w fun e w' => ∃ v m ms, e = .returned (.tuple #[v, .int .i64 (psl ys).1]) ∧ OwO w' 42 w.heap.size v m ms (psl ys).2 ∧ Fr (fun k => k = R) w w' := by
  obtain ⟨i0, hi, hz0, hz1, hz2⟩ := info_parts Try.info42
  have hlt := h.lt
  have hsrc := h.src
  have hyn := h.len
  have hN : n ≤ 1000000 := hn
  have H0 : Hid (Sg w w R ao n c xs ys ys.length (.slice none 0 0) 0 [] [] (some ys)) := by
    refine ⟨h, OwO.nil _ _ _, rfl, by simp, ?_, Fr.refl _ _, (fun j hj => by omega)⟩
    show psl ys = cat [] (psl ys)
    rw [cat_nil _ (psl_bad ys)]
  clear h
  go_enter Try.func34, Try.ntmps34
  go_wp2_with fail
  go_loopg [4] ys.length (fun gk lv wr => ∃ m ms l oc, Hid (Sg w wr R ao n c xs ys gk lv m ms l oc))
  case atStart => exact ⟨0, [], [], some ys, H0⟩
  case round =>
    obtain ⟨m, ms, l, oc, HY⟩ := hrel
    clear H0
    have hm := HY.out.lim
    go_wp2_with fail
    refine (left_at R ao n c xs oc wr HY.out.rd).mono ?_
    rintro e w1 ⟨rfl, hb1⟩
    rcases oc with _ | zs
    · -- the fault
      simp only [Option.getD_none, List.length_nil] at hm ⊢
      have A1 := HY.out.rd.keep hb1
      have HA : Hid (psl ys = (3, [])) := HY.out.ans
      have F1 : Hid (Fr (fun k => k = R) w w1) := HY.out.fr.trans (P' := fun _ => False) (Fr.ofBelow hb1) (fun _ _ h => h.elim)
      clear HY hb1
      go_wp2_with (first
        | (go_at_call 51; refine (err_at R ao n c xs none _ A1).mono ?_; rintro e w2 ⟨rfl, rfl⟩; rw [if_pos rfl]))
      go_ret2
      rw [HA.out]
      exact ⟨_, 0, [], rfl, OwO.nil _ _ _, F1.out⟩
    · cases zs with
      | nil =>
        simp only [Option.getD_some, List.length_nil] at hm ⊢
        have A1 := HY.out.rd.keep hb1
        have HA : Hid (psl ys = (0, l)) := by
          have := HY.out.ans
          show _ = _
          rw [this]
          show cat l (psl []) = _
          rw [psl_nil]
          simp [cat]
        have F1 : Hid (Fr (fun k => k = R) w w1) := HY.out.fr.trans (P' := fun _ => False) (Fr.ofBelow hb1) (fun _ _ h => h.elim)
        have O1 : Hid (OwO w1 42 w.heap.size u4 m ms l) := HY.out.own.keep hb1
        clear HY hb1
        go_wp2_with (first
          | (go_at_call 51; refine (err_at R ao n c xs (some []) _ A1).mono ?_; rintro e w2 ⟨rfl, rfl⟩; rw [if_neg (by simp)]))
        go_ret2
        rw [HA.out]
        exact ⟨_, m, ms, rfl, O1.out, F1.out⟩
      | cons b r =>
        simp only [Option.getD_some, List.length_cons] at hm ⊢
        have A1 := HY.out.rd.keep hb1
        have z1 : (0 : Int) < ((r.length + 1 : Nat) : Int) := by omega
        have z2 : (0 : Int) < (r.length : Int) + 1 := by omega
        have F1 : Fr (fun k => k = R) w w1 := HY.out.fr.trans (P' := fun _ => False) (Fr.ofBelow hb1) (fun _ _ h => h.elim)
        have O1 : OwO w1 42 w.heap.size u4 m ms l := HY.out.own.keep hb1
        have hbb := A1.byt b (by simp)
        clear hb1
        go_wp2_with fail
        refine (u8_at R ao n c xs (some (b :: r)) w1 A1).mono ?_
        rintro e w2 ⟨b', od, rfl, _, _, hu, A2, hg2⟩
        have hu' : od = some r ∧ b' = b := by
          cases od with
          | none => simp [unc] at hu
          | some t => simp [unc] at hu; exact ⟨by rw [hu.2], hu.1.symm⟩
        obtain ⟨rfl, rfl⟩ := hu'
        have G2 := Fr.ofGrown hg2
        have F2 : Fr (fun k => k = R) w w2 := F1.trans G2 (fun _ _ e => e)
        have HLT : Hid (∀ q, u4.ownBlock = some q → w.heap.size ≤ q) := fun q hq => (HY.out.own.own.lt q hq).1
        have hnR : ∀ q, u4.ownBlock = some q → ¬ q = R := fun q hq e => by have := HLT.out q hq; omega
        have O2 : OwO w2 42 w.heap.size u4 m ms l := O1.fr G2 hnR HY.out.dat
        clear O1 F1 A1 hg2 G2 z1 z2
        by_cases hb0 : b' = 0
        · subst hb0
          have HA : Hid (psl ys = (2, [])) := by
            have := HY.out.ans
            show _ = _
            rw [this]
            show cat l (psl (0 :: r)) = _
            rw [psl_zero]
            rfl
          have F3 : Hid (Fr (fun k => k = R) w w2) := F2
          clear HY O2 F2 A2
          go_wp2
          go_ret2
          rw [HA.out]
          exact ⟨_, 0, [], rfl, OwO.nil _ _ _, F3.out⟩
        · have q0 : (b' == 0) = false := by simp [hb0]
          by_cases hb128 : b' < 128
          · obtain ⟨B, rfl⟩ : ∃ B : Nat, b' = B := ⟨b'.toNat, by omega⟩
            have HB0 : Hid ((B : Int) ≠ 0) := hb0
            clear hb0
            go_wp2_with fail
            refine (bytes_at R ao n c xs r B w2 A2).mono ?_
            rintro e w3 ⟨da, dn, dc, rfl, hrd, hda, A3, hg3⟩
            have G3 := Fr.ofGrown hg3
            have F3 : Fr (fun k => k = R) w w3 := F2.trans G3 (fun _ _ e => e)
            have O3 : OwO w3 42 w.heap.size u4 m ms l := O2.fr G3 hnR HY.out.dat
            have HRD : Hid (Rd w3 da dn dc (if r.length < B then [] else r.take B)) := hrd
            have HDA : Hid (∀ ad, da = some ad → w2.heap.size ≤ ad.block) := hda
            have HF3 : Hid (Fr (fun k => k = R) w w3) := F3
            have HA3 : Hid (At w3 R ao n c xs (if r.length < B then none else some (r.drop B))) := A3
            have HF2 : Hid (Fr (fun k => k = R) w w2) := F2
            have hlim : m ≤ 1000000 := by omega
            have HS2 : Hid (∀ q, u4.ownBlock = some q → q < w2.heap.size) := fun q hq => (O2.own.lt q hq).2
            clear O2 A2 F2 G3 hg3 hrd hda A3 F3
            go_wp2_with (first
              | (at_builtin; refine wpList_append_lies _ rfl _ _ 59 rfl w.heap.size 42 i0 (.agg #[.bool false, .int .i64 0, .int .i64 0, .slice none 0 0]) 4 48 Try.underlying59 hi hz0 hz1 hz2 rfl (by decide) u4 m _ rfl (O3.own.alloc _) ⟨w3.heap.size, 0, none⟩ 1 1 (oc ⟨false, 0, 0, da, dn, dc⟩) rfl rfl (cell_four_new _ _ _ _ _ _) (oc_oneCell _) (by omega) (by unfold maxLen; omega) (by omega) (by have := HF3.out.size; simp; omega) (w3.heap.size + 1) (by simp) ?_; intro g5 c5 w5 o5 gr5 l5 s5))
            have O4 := O3.keep (new_below w3 (.cells #[.bool false, .int .i64 0, .int .i64 0, .slice da dn dc] 42))
            have R4 := HRD.out.keep (new_below w3 (.cells #[.bool false, .int .i64 0, .int .i64 0, .slice da dn dc] 42))
            have O5 := O4.push (x := ⟨false, 0, 0, da, dn, dc⟩) (o := ⟨false, 0, 0, if r.length < B then [] else r.take B⟩) ⟨rfl, rfl, rfl, R4⟩ (fun q hq ad e _ e2 => by have := HDA.out ad e; have := HS2.out q hq; omega) o5 gr5 l5 (by simp)
            have hf5 : Fr (fun k => k = R) w w5 := (HF3.out.alloc _).grown gr5 (fun k hk e => by have := HLT.out k e; omega)
            have A5 : At w5 R ao n c xs (if r.length < B then none else some (r.drop B)) := (HA3.out.keep (new_below w3 _)).fr (P := fun k => u4.ownBlock = some k) ((Fr.refl _ _).grown gr5 (fun _ _ e => e)) (fun e => by have := HLT.out R e; omega) (fun ad e hn e2 => by have := hsrc ad e hn; have := HLT.out _ e2; omega)
            have HST : st1 B r = (if r.length < B then none else some (r.drop B)).map (fun t => ((⟨false, 0, 0, if r.length < B then [] else r.take B⟩ : Op), t)) := by
              unfold st1
              rw [if_pos hb128, Int.toNat_natCast]
              by_cases hrl : r.length < B
              · simp [hrl]
              · simp [hrl]
            have HN := HY.out.next HB0.out (.inl HST) A5 O5 hf5 (fun ad e _ e2 => by have := HDA.out ad e; have := HF2.out.size; omega)
            have HN1 : Hid (Sg w w5 R ao n c xs ys ((if r.length < B then none else some (r.drop B)).getD []).length (.slice (some ⟨g5, 0, none⟩) (m + 1) c5) (m + 1) (ms ++ [⟨false, 0, 0, da, dn, dc⟩]) (l ++ [⟨false, 0, 0, if r.length < B then [] else r.take B⟩]) (if r.length < B then none else some (r.drop B))) := HN.1
            have HN2 : Hid (((if r.length < B then none else some (r.drop B)).getD []).length < gk) := HN.2
            clear HN HST A5 hf5 O5 O4 R4 o5 gr5 l5 s5 O3 HY
            go_roundg ((if r.length < B then none else some (r.drop B)).getD []).length
            case measure => exact HN2.out
            case rel => exact ⟨_, _, _, _, HN1⟩
          · have HB0 : Hid (b' ≠ 0) := hb0
            have HB1 : Hid (¬ b' < 128) := hb128
            clear hb0
            go_wp2_with fail
            refine (copy_at R ao n c xs (some r) b' w2 A2).mono ?_
            rintro e w3 ⟨cf, cn, od, rfl, hcp, A3, hg3⟩
            have G3 := Fr.ofGrown hg3
            have F3 : Fr (fun k => k = R) w w3 := F2.trans G3 (fun _ _ e => e)
            have O3 : OwO w3 42 w.heap.size u4 m ms l := O2.fr G3 hnR HY.out.dat
            have HF3 : Hid (Fr (fun k => k = R) w w3) := F3
            have HA3 : Hid (At w3 R ao n c xs od) := A3
            have hlim : m ≤ 1000000 := by omega
            have HCP : Hid (st1 b' r = od.map (fun t => ((⟨true, cf, cn, []⟩ : Op), t))) := by
              show _ = _
              unfold st1
              rw [if_neg (by have := HB1.out; omega)]
              exact hcp
            clear O2 A2 F2 G3 hg3 A3 F3 hcp
            go_wp2_with (first
              | (at_builtin; refine wpList_append_lies _ rfl _ _ 59 rfl w.heap.size 42 i0 (.agg #[.bool false, .int .i64 0, .int .i64 0, .slice none 0 0]) 4 48 Try.underlying59 hi hz0 hz1 hz2 rfl (by decide) u4 m _ rfl (O3.own.alloc _) ⟨w3.heap.size, 0, none⟩ 1 1 (oc ⟨true, cf, cn, none, 0, 0⟩) rfl rfl (cell_four_new _ _ _ _ _ _) (oc_oneCell _) (by omega) (by unfold maxLen; omega) (by omega) (by have := HF3.out.size; simp; omega) (w3.heap.size + 1) (by simp) ?_; intro g5 c5 w5 o5 gr5 l5 s5))
            have O4 := O3.keep (new_below w3 (.cells #[.bool true, .int .i64 cf, .int .i64 cn, .slice none 0 0] 42))
            have O5 := O4.push (x := ⟨true, cf, cn, none, 0, 0⟩) (o := ⟨true, cf, cn, []⟩) ⟨rfl, rfl, rfl, Rd.nil _⟩ (fun q hq ad e => by cases e) o5 gr5 l5 (by simp)
            have hf5 : Fr (fun k => k = R) w w5 := (HF3.out.alloc _).grown gr5 (fun k hk e => by have := HLT.out k e; omega)
            have A5 : At w5 R ao n c xs od := (HA3.out.keep (new_below w3 _)).fr (P := fun k => u4.ownBlock = some k) ((Fr.refl _ _).grown gr5 (fun _ _ e => e)) (fun e => by have := HLT.out R e; omega) (fun ad e hn e2 => by have := hsrc ad e hn; have := HLT.out _ e2; omega)
            have HN := HY.out.next HB0.out (.inl HCP.out) A5 O5 hf5 (fun ad e => by cases e)
            have HN1 : Hid (Sg w w5 R ao n c xs ys (od.getD []).length (.slice (some ⟨g5, 0, none⟩) (m + 1) c5) (m + 1) (ms ++ [⟨true, cf, cn, none, 0, 0⟩]) (l ++ [⟨true, cf, cn, []⟩]) od) := HN.1
            have HN2 : Hid ((od.getD []).length < gk) := HN.2
            clear HN HCP A5 hf5 O5 O4 o5 gr5 l5 s5 O3 HY
            go_roundg (od.getD []).length
            case measure => exact HN2.out
            case rel => exact ⟨_, _, _, _, HN1⟩

end Go.Proofs.Ythaibdflehnbbaa
