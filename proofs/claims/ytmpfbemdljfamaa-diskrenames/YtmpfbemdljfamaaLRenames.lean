/- DiskRenames. -/
import Derived.Test.YtmpfbemdljfamaaAtA
namespace Go.Proofs.Ytmpfbemdljfamaa
open Go.RowKit Go.Maps Go.Sort

abbrev tAF : ByteArray := { data := #[97, 47, 102] }
abbrev tAT : ByteArray := { data := #[97, 47, 102, 46, 116, 109, 112] }

theorem nmAF : Nm tAF tA { data := #[102] } := nmA _ _ (by decide) (by decide) (by decide) (by decide) (by decide) (by decide) (part_of _ (by decide) (by decide) (by decide) (by decide) (by decide))
theorem nmAT : Nm tAT tA { data := #[102, 46, 116, 109, 112] } := nmA _ _ (by decide) (by decide) (by decide) (by decide) (by decide) (by decide) (part_of _ (by decide) (by decide) (by decide) (by decide) (by decide))

theorem cutd_full {x x' : Fl} (h : Cutd x x') (hs : x.s = x.xs.length) : x'.xs = x.xs := by
  rcases h with rfl | ⟨k, k1, k2, k3, _⟩
  · rfl
  · rw [k3, List.take_of_length_le (by omega)]

theorem good1 {S : St} {f : Nat} {x : Fl} (hx : S.F f = some x) : GoodL S [(nm tAF, pd f)] :=
  ⟨by simp, fun a ha => by
    have e : a = [97, 47, 102] := by simpa [strKeys, strOf] using ha
    subst e
    exact ⟨by decide, f, x, rfl, hx⟩⟩

theorem good2 {S : St} {f g : Nat} {x y : Fl} (hx : S.F f = some x) (hy : S.F g = some y) : GoodL S [(nm tAF, pd f), (nm tAT, pd g)] :=
  ⟨by simp, fun a ha => by
    have e : a = [97, 47, 102] ∨ a = [97, 47, 102, 46, 116, 109, 112] := by simpa [strKeys, strOf] using ha
    rcases e with rfl | rfl
    · exact ⟨by decide, f, x, rfl, hx⟩
    · exact ⟨by decide, g, y, rfl, hy⟩⟩

/-- The names that a crash may leave. -/
def Ln (f g : Nat) : Nat → List (Lit × DataW Unit)
  | 0 => [(nm tAF, pd f)]
  | 1 => [(nm tAF, pd f), (nm tAT, pd g)]
  | _ => [(nm tAF, pd g)]

theorem ln_good {S : St} {f g : Nat} {x y : Fl} (hx : S.F f = some x) (hy : S.F g = some y) : ∀ n, GoodL S (Ln f g n)
  | 0 => good1 hx
  | 1 => good2 hx hy
  | _ + 2 => good1 hy

theorem le1 {n : Nat} (h : n ≤ 1) : n = 0 ∨ n = 1 := by omega
theorem le2 {n : Nat} (h : n ≤ 2) : n = 0 ∨ n = 1 ∨ n = 2 := by omega

set_option maxRecDepth 100000 in
set_option maxHeartbeats 4000000 in
theorem renames_main (ao bo po : Option Addr) (m1 c1 m2 c2 m3 c3 : Nat) (os ns ps : List Int) (steps : Int) (w : World) (ho : Rd w ao m1 c1 os) (hn : Rd w bo m2 c2 ns) (hp : Ri w po m3 c3 (fun j => ps.getD j 0)) (hpl : ps.length = m3)
    (h1 : m1 ≤ 2000) (h2 : m2 ≤ 2000) (h3 : m3 ≤ 20) (hst : steps = 0 ∨ steps = 1 ∨ steps = 2 ∨ steps = 3 ∨ steps = 4) :
    Calls Try.prog 5 #[.slice ao m1 c1, .slice bo m2 c2, .int .i64 steps, .slice po m3 c3] w fun e w' => e = .returned (.bool true) ∧ RowKit.Below w.heap.size w w' := by
  have HO : Hid (Rd w ao m1 c1 os) := ho
  have HN : Hid (Rd w bo m2 c2 ns) := hn
  have HP : Hid (Ri w po m3 c3 (fun j => ps.getD j 0)) := hp
  have HL : Hid (ps.length = m3) := hpl
  have q1 : decide ((2000 : Int) < (m1 : Int)) = false := by simp; omega
  have q2 : decide ((2000 : Int) < (m2 : Int)) = false := by simp; omega
  have q3 : decide ((20 : Int) < (m3 : Int)) = false := by simp; omega
  have q1' : ¬ 2000 < m1 := by omega
  have q2' : ¬ 2000 < m2 := by omega
  have q3' : ¬ 20 < m3 := by omega
  have q4 : decide (steps < 0) = false := by simp; omega
  have q5 : decide ((4 : Int) < steps) = false := by simp; omega
  clear ho hn hp hpl
  go_enter Try.func5, Try.ntmps5
  go_wp2_with fail
  refine (known_yes w).mono ?_
  rintro e w1 ⟨rfl, b1⟩
  go_wp2_with fail
  refine (newA w w1 b1).mono ?_
  rintro e w2 ⟨d, O2, S2, rfl, A2⟩
  go_wp2_with fail
  refine (appA_new A2 HO.out (by omega) nmAF rfl (by omega) (fun f => [(nm tAF, pd f)]) (fun _ => rfl) (fun f p hp => .inr (by rw [List.mem_singleton.1 hp])) (fun _ => by simp)).mono ?_
  rintro e w3 ⟨rfl, O3, S3, f, r, A3, ⟨v3, hv3⟩, -, cv, fv, hr3⟩
  go_wp2_with fail
  refine (syncA A3 nmAF.le rfl hv3 (by omega)).mono ?_
  rintro e w4 ⟨rfl, O4, S4, A4, hv4, -, hr4⟩
  go_wp2_with fail
  refine (syncDirA (last' := [(nm tAF, pd f)]) A4 (by rw [hr4]; exact hr3) (by simp) rfl (by omega)).mono ?_
  rintro e w5 ⟨rfl, O5, S5, A5, hF5⟩
  have hv5 : S5.F f = some ⟨v3, os, os.length⟩ := by rw [hF5]; exact hv4
  clear hr4 hF5 hv4 hv3 hr3 A4 A3 A2 b1
  rcases hst with rfl | hst
  · go_wp2_with fail
    refine (crashA A5 HP.out HL.out (fun _ => [(nm tAF, pd f)]) 0 (.inl ⟨rfl, rfl⟩) (by omega) (fun n hn => good1 hv5) (by simp)).mono ?_
    rintro e w6 ⟨rfl, O6, S6, n, hn6, C6⟩
    go_wp2_with fail
    refine (onA C6).mono ?_
    rintro e w7 ⟨rfl, O7, S7, C7⟩
    go_wp2_with fail
    refine (readA C7 nmAF.le rfl hv5).mono ?_
    rintro e w8 ⟨v8, x8, rfl, hc8, hb8, X8, C8⟩
    have e8 := cutd_full hc8 rfl
    simp only at e8
    rw [e8] at X8 hb8
    obtain ⟨xa, xc, hxv, R8, -⟩ := own_rd X8 hb8
    subst hxv
    have k1 := R8.str
    have k2 := (HO.out.keep C8.B).str
    have B8 := C8.B
    clear C6 C7 C8 R8 hc8 hb8 X8 A5
    go_wp2
    go_ret
    exact ⟨by simp, B8⟩
  · -- the new file
    have ge1 : 1 ≤ steps := by omega
    go_wp2_with fail
    refine (appA_new A5 HN.out (by omega) nmAT rfl (by omega) (fun g => [(nm tAF, pd f), (nm tAT, pd g)]) (fun _ => rfl) (fun g p hp => by
      rcases List.mem_cons.1 hp with rfl | hp
      · exact .inl (List.mem_singleton.2 rfl)
      · exact .inr (by rw [List.mem_singleton.1 hp])) (fun _ => by simp)).mono ?_
    rintro e w6 ⟨rfl, O6, S6, g, r6, A6, ⟨v6, hg6⟩, hk6, cv6, fv6, hr6⟩
    have hv6 := (hk6 f _ hv5).1
    have hfg := (hk6 f _ hv5).2
    clear hk6 A5 hv5
    rcases hst with rfl | hst
    · go_wp2_with fail
      refine (crashA A6 HP.out HL.out (Ln f g) 1 (.inr ⟨r6, _, rfl, hr6, rfl, fun n hn => by rcases le1 hn with rfl | rfl <;> rfl⟩) (by omega) (fun n hn => ln_good hv6 hg6 n) (by simp)).mono ?_
      rintro e w7 ⟨rfl, O7, S7, n, hn7, C7⟩
      have hlk : look (.map (Ln f g n)) tAF = some f := by rcases le1 hn7 with rfl | rfl <;> rfl
      go_wp2_with fail
      refine (onA C7).mono ?_
      rintro e w8 ⟨rfl, O8, S8, C8⟩
      go_wp2_with fail
      refine (readA C8 nmAF.le hlk hv6).mono ?_
      rintro e w9 ⟨v9, x9, rfl, hc9, hb9, X9, C9⟩
      have e9 := cutd_full hc9 rfl
      simp only at e9
      rw [e9] at X9 hb9
      obtain ⟨xa, xc, hxv, R9, -⟩ := own_rd X9 hb9
      subst hxv
      have k1 := R9.str
      have k2 := (HO.out.keep C9.B).str
      have B9 := C9.B
      clear C7 C8 C9 R9 hc9 hb9 X9 hlk
      go_wp2
      go_ret
      exact ⟨by simp, B9⟩
    · go_wp2_with fail
      refine (syncA A6 nmAT.le rfl hg6 (by omega)).mono ?_
      rintro e w6b ⟨rfl, O6b, S6b, A6b, hg6b, hk6b, hr6b⟩
      have hv6b : S6b.F f = some ⟨v3, os, os.length⟩ := by rw [hk6b f hfg]; exact hv6
      have hr6c : S6b.R r6 = some ⟨cv6, fv6, [.made tAT 0], [g]⟩ := by rw [hr6b]; exact hr6
      clear hk6b hr6b hr6 hv6 hg6 A6
      rcases hst with rfl | hst
      · go_wp2_with fail
        refine (crashA A6b HP.out HL.out (Ln f g) 1 (.inr ⟨r6, _, rfl, hr6c, rfl, fun n hn => by rcases le1 hn with rfl | rfl <;> rfl⟩) (by omega) (fun n hn => ln_good hv6b hg6b n) (by simp)).mono ?_
        rintro e w7 ⟨rfl, O7, S7, n, hn7, C7⟩
        have hlk : look (.map (Ln f g n)) tAF = some f := by rcases le1 hn7 with rfl | rfl <;> rfl
        go_wp2_with fail
        refine (onA C7).mono ?_
        rintro e w8 ⟨rfl, O8, S8, C8⟩
        go_wp2_with fail
        refine (readA C8 nmAF.le hlk hv6b).mono ?_
        rintro e w9 ⟨v9, x9, rfl, hc9, hb9, X9, C9⟩
        have e9 := cutd_full hc9 rfl
        simp only at e9
        rw [e9] at X9 hb9
        obtain ⟨xa, xc, hxv, R9, -⟩ := own_rd X9 hb9
        subst hxv
        have k1 := R9.str
        have k2 := (HO.out.keep C9.B).str
        have B9 := C9.B
        clear C7 C8 C9 R9 hc9 hb9 X9 hlk
        go_wp2
        go_ret
        exact ⟨by simp, B9⟩
      · go_wp2_with fail
        refine (renA (now' := [(nm tAF, pd g)]) A6b hr6c (by simp) nmAT nmAF (by rw [Lib.toList_data, Lib.toList_data]; decide) rfl (by omega) rfl (fun p hp => ⟨(nm tAT, pd g), by simp, by rw [List.mem_singleton.1 hp]⟩) (by simp)).mono ?_
        rintro e w6d ⟨rfl, O6d, S6d, cvd, A6d, hF6d, hr6d⟩
        have hv6d : S6d.F f = some ⟨v3, os, os.length⟩ := by rw [hF6d]; exact hv6b
        have hg6d : S6d.F g = some ⟨v6, ns, ns.length⟩ := by rw [hF6d]; exact hg6b
        clear hF6d hv6b hg6b hr6c A6b
        rcases hst with rfl | rfl
        · go_wp2_with fail
          refine (crashA A6d HP.out HL.out (Ln f g) 2 (.inr ⟨r6, _, rfl, hr6d, rfl, fun n hn => by rcases le2 hn with rfl | rfl | rfl <;> rfl⟩) (by omega) (fun n hn => ln_good hv6d hg6d n) (by simp)).mono ?_
          rintro e w7 ⟨rfl, O7, S7, n, hn7, C7⟩
          by_cases hn2 : n ≤ 1
          · have hlk : look (.map (Ln f g n)) tAF = some f := by rcases le1 hn2 with rfl | rfl <;> rfl
            go_wp2_with fail
            refine (onA C7).mono ?_
            rintro e w8 ⟨rfl, O8, S8, C8⟩
            go_wp2_with fail
            refine (readA C8 nmAF.le hlk hv6d).mono ?_
            rintro e w9 ⟨v9, x9, rfl, hc9, hb9, X9, C9⟩
            have e9 := cutd_full hc9 rfl
            simp only at e9
            rw [e9] at X9 hb9
            obtain ⟨xa, xc, hxv, R9, -⟩ := own_rd X9 hb9
            subst hxv
            have k1 := R9.str
            have k2 := (HO.out.keep C9.B).str
            have B9 := C9.B
            clear C7 C8 C9 R9 hc9 hb9 X9 hlk
            go_wp2
            go_ret
            exact ⟨by simp, B9⟩
          · have hlk : look (.map (Ln f g n)) tAF = some g := by
              obtain rfl : n = 2 := by omega
              rfl
            go_wp2_with fail
            refine (onA C7).mono ?_
            rintro e w8 ⟨rfl, O8, S8, C8⟩
            go_wp2_with fail
            refine (readA C8 nmAF.le hlk hg6d).mono ?_
            rintro e w9 ⟨v9, x9, rfl, hc9, hb9, X9, C9⟩
            have e9 := cutd_full hc9 rfl
            simp only at e9
            rw [e9] at X9 hb9
            obtain ⟨xa, xc, hxv, R9, -⟩ := own_rd X9 hb9
            subst hxv
            have k1 := R9.str
            have k2 := (HO.out.keep C9.B).str
            have k3 := (HN.out.keep C9.B).str
            have B9 := C9.B
            clear C7 C8 C9 R9 hc9 hb9 X9 hlk
            go_wp2
            all_goals go_ret
            all_goals exact ⟨by simp, B9⟩
        · go_wp2_with fail
          refine (syncDirA (last' := [(nm tAF, pd g)]) A6d hr6d (by simp) rfl (by omega)).mono ?_
          rintro e w6e ⟨rfl, O6e, S6e, A6e, hF6e⟩
          have hg6e : S6e.F g = some ⟨v6, ns, ns.length⟩ := by rw [hF6e]; exact hg6d
          clear hF6e hg6d hv6d A6d
          go_wp2_with fail
          refine (crashA A6e HP.out HL.out (fun _ => [(nm tAF, pd g)]) 0 (.inl ⟨rfl, rfl⟩) (by omega) (fun n hn => good1 hg6e) (by simp)).mono ?_
          rintro e w7 ⟨rfl, O7, S7, n, hn7, C7⟩
          have hlk : look (.map [(nm tAF, pd g)]) tAF = some g := rfl
          go_wp2_with fail
          refine (onA C7).mono ?_
          rintro e w8 ⟨rfl, O8, S8, C8⟩
          go_wp2_with fail
          refine (readA C8 nmAF.le hlk hg6e).mono ?_
          rintro e w9 ⟨v9, x9, rfl, hc9, hb9, X9, C9⟩
          have e9 := cutd_full hc9 rfl
          simp only at e9
          rw [e9] at X9 hb9
          obtain ⟨xa, xc, hxv, R9, -⟩ := own_rd X9 hb9
          subst hxv
          go_wp2_with fail
          refine (listA C9 (by simp) (fun p hp x hx => by
            obtain rfl := List.mem_singleton.1 hp
            obtain rfl := nm_inj hx
            exact ⟨by decide, by rw [Lib.toList_data]; decide⟩)).mono ?_
          rintro e w10 ⟨vl, ls, rfl, hperm, Y10, b10, C10⟩
          have hll : ls.length = 1 := by rw [hperm.length_eq]; rfl
          rw [hll] at Y10
          obtain ⟨la, lc, hlv⟩ := own_shape Y10
          subst hlv
          have k1 := (R9.keep b10).str
          have k2 := (HN.out.keep C10.B).str
          have B9 := C10.B
          clear C7 C8 C9 C10 R9 hc9 hb9 X9 hlk hperm Y10 hll
          go_wp2
          go_ret
          exact ⟨by simp, B9⟩

set_option maxRecDepth 100000 in
set_option maxHeartbeats 1000000 in
theorem renames_small (ao bo po : Option Addr) (m1 c1 m2 c2 m3 c3 : Nat) (steps : Int) (w : World) (h : 2000 < m1 ∨ 2000 < m2 ∨ 20 < m3 ∨ steps < 0 ∨ 4 < steps) :
    Calls Try.prog 5 #[.slice ao m1 c1, .slice bo m2 c2, .int .i64 steps, .slice po m3 c3] w fun e w' => e = .returned (.bool true) ∧ RowKit.Below w.heap.size w w' := by
  go_enter Try.func5, Try.ntmps5
  go_wp2_with fail
  refine (known_yes w).mono ?_
  rintro e w1 ⟨rfl, b1⟩
  by_cases h1 : 2000 < m1
  · have q1 : (2000 : Int) < (m1 : Int) := by omega
    clear h
    go_wp2
    go_ret
    exact ⟨rfl, b1⟩
  · have q1 : ¬ (2000 : Int) < (m1 : Int) := by omega
    by_cases h2 : 2000 < m2
    · have q2 : (2000 : Int) < (m2 : Int) := by omega
      clear h
      go_wp2
      go_ret
      exact ⟨rfl, b1⟩
    · have q2 : ¬ (2000 : Int) < (m2 : Int) := by omega
      by_cases h3 : 20 < m3
      · have q3 : (20 : Int) < (m3 : Int) := by omega
        clear h
        go_wp2
        go_ret
        exact ⟨rfl, b1⟩
      · have q3 : ¬ (20 : Int) < (m3 : Int) := by omega
        by_cases h4 : steps < 0
        · clear h
          go_wp2
          go_ret
          exact ⟨rfl, b1⟩
        · have h5 : 4 < steps := by omega
          clear h
          go_wp2
          go_ret
          exact ⟨rfl, b1⟩

/-- DiskRenames at all bytes, steps and picks. -/
theorem renames_any (ao bo po : Option Addr) (m1 c1 m2 c2 m3 c3 : Nat) (os ns ps : List Int) (steps : Int) (w : World) (ho : Rd w ao m1 c1 os) (hn : Rd w bo m2 c2 ns) (hp : Ri w po m3 c3 (fun j => ps.getD j 0)) (hpl : ps.length = m3) :
    Calls Try.prog 5 #[.slice ao m1 c1, .slice bo m2 c2, .int .i64 steps, .slice po m3 c3] w fun e w' => e = .returned (.bool true) ∧ RowKit.Below w.heap.size w w' := by
  by_cases h : 2000 < m1 ∨ 2000 < m2 ∨ 20 < m3 ∨ steps < 0 ∨ 4 < steps
  · exact renames_small ao bo po m1 c1 m2 c2 m3 c3 steps w h
  · exact renames_main ao bo po m1 c1 m2 c2 m3 c3 os ns ps steps w ho hn hp hpl (by omega) (by omega) (by omega) (by omega)

end Go.Proofs.Ytmpfbemdljfamaa
