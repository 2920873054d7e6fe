/- DiskLasts, the law. -/
import Derived.Test.YtmpfbemdljfamaaLLasts
namespace Go.Proofs.Ytmpfbemdljfamaa
open Go.RowKit Go.Maps Go.Sort

theorem lasts_num {m1 m2 j L kl : Nat} (hM : m1 ≤ 3000 ∧ m2 ≤ 3000) (hL : L = m1 + j ∧ j ≤ m2) (hk : 1 ≤ kl ∧ kl ≤ 2) :
    (m1 ≤ L ∧ L ≤ m1 + m2) ∧ decide ((kl : Int) < 1) = false ∧ decide ((2 : Int) < (kl : Int)) = false ∧ decide ((L : Int) < (m1 : Int)) = false ∧ decide ((m1 : Int) + (m2 : Int) < (L : Int)) = false ∧ IntKind.i64.wrap ((m1 : Int) + (m2 : Int)) = (m1 : Int) + (m2 : Int) ∧ wrap64 ((m1 : Int) + (m2 : Int)) = (m1 : Int) + (m2 : Int) ∧ IntKind.i64.wrap ((L : Int) - (m1 : Int)) = (j : Int) ∧ wrap64 ((L : Int) - (m1 : Int)) = (j : Int) := by
  refine ⟨⟨by omega, by omega⟩, by simp; omega, by simp; omega, by simp; omega, by simp; omega, ?_, ?_, ?_, ?_⟩
  · rw [IntKind.wrap_i64]; omega
  · exact IntWalk.wrap64_in _ (by omega)
  · rw [IntKind.wrap_i64]; omega
  · rw [IntWalk.wrap64_in _ (by omega)]; omega

theorem sub_str {w : World} {ao : Option Addr} {n c : Nat} {ys : List Int} (h : Rd w ao n c ys) (p m : Nat) (hpm : p + m ≤ n) (lo hi : Option Value)
    (hlo : lo = some (.int .i64 (p : Int)) ∨ lo = none ∧ p = 0) (hhi : hi = some (.int .i64 ((p + m : Nat) : Int)) ∨ hi = none ∧ p + m = n) (zs : List Int) (hz : (ys.drop p).take m = zs) :
    ∃ v, ∀ W, RowKit.Below w.heap.size w W → (Instr.slice 22 (.slice ao n c) lo hi none).run Try.prog W = .ok v W ∧ (convert 22 9 v).run Try.prog W = .ok (.string (strOfNums zs)) W := by
  refine ⟨_, fun W hW => ⟨run_sub (h.keep hW) hpm lo hi hlo hhi, ?_⟩⟩
  rw [← hz]
  exact ((h.keep hW).sub p m hpm).str

set_option maxRecDepth 100000 in
set_option maxHeartbeats 4000000 in
theorem lasts_false (ao bo po : Option Addr) (m1 c1 m2 c2 m3 c3 : Nat) (os ns ps : List Int) (w : World) (ho : Rd w ao m1 c1 os) (hn : Rd w bo m2 c2 ns) (hp : Ri w po m3 c3 (fun j => ps.getD j 0)) (hpl : ps.length = m3)
    (h1 : m1 ≤ 3000) (h2 : m2 ≤ 3000) (h3 : m3 ≤ 20) :
    Calls Try.prog 3 #[.slice ao m1 c1, .slice bo m2 c2, .slice po m3 c3, .bool false] w fun e w' => e = .returned (.bool true) ∧ RowKit.Below w.heap.size w w' := by
  have HO : Hid (Rd w ao m1 c1 os) := ho
  have HN : Hid (Rd w bo m2 c2 ns) := hn
  have HP : Hid (Ri w po m3 c3 (fun j => ps.getD j 0)) := hp
  have HL : Hid (ps.length = m3) := hpl
  have HM : Hid (m1 ≤ 3000 ∧ m2 ≤ 3000) := ⟨h1, h2⟩
  have q1 : decide ((3000 : Int) < (m1 : Int)) = false := by simp; omega
  have q2 : decide ((3000 : Int) < (m2 : Int)) = false := by simp; omega
  have q3 : decide ((20 : Int) < (m3 : Int)) = false := by simp; omega
  have q1' : ¬ 3000 < m1 := by omega
  have q2' : ¬ 3000 < m2 := by omega
  have q3' : ¬ 20 < m3 := by omega
  clear ho hn hp hpl h1 h2 h3
  go_enter Try.func3, Try.ntmps3
  go_wp2_with fail
  refine (known_yes w).mono ?_
  rintro e w1 ⟨rfl, b1⟩
  go_wp2_with fail
  refine (newA w w1 b1).mono ?_
  rintro e w2 ⟨d, O2, S2, rfl, A2⟩
  go_wp2_with fail
  refine (appA_new A2 HO.out HM.out.1 nmAF rfl (by omega) (fun f => [(nm tAF, pd f)]) (fun _ => rfl) (fun f p hp => .inr (by rw [List.mem_singleton.1 hp])) (fun _ => by simp)).mono ?_
  rintro e w3 ⟨rfl, O3, S3, f, r, A3, ⟨v3, hv3⟩, -, cv, fv, hr3⟩
  go_wp2_with fail
  refine (syncA A3 nmAF.le rfl hv3 (by omega)).mono ?_
  rintro e w4 ⟨rfl, O4, S4, A4, hv4, -, hr4⟩
  have hr4' : S4.R r = some ⟨cv, fv, [.made tAF 0], [f]⟩ := by rw [hr4]; exact hr3
  clear hr4 hv3 hr3 A3 A2 b1
  go_wp2_with fail
  refine (syncDirA (last' := [(nm tAF, pd f)]) A4 hr4' (by simp) rfl (by omega)).mono ?_
  rintro e w5 ⟨rfl, O5, S5, A5, hF5⟩
  have hv5 : S5.F f = some ⟨v3, os, os.length⟩ := by rw [hF5]; exact hv4
  clear hF5 hv4 A4 hr4'
  go_wp2_with fail
  refine (appA_old A5 HN.out HM.out.2 nmAF rfl hv5 (by have := HO.out.len; have := HM.out.1; simp only; omega) (by omega)).mono ?_
  rintro e w6 ⟨rfl, O6, S6, A6, ⟨v6, hv6⟩, -, -⟩
  clear hv5 A5
  go_wp2_with fail
  refine (appA_new A6 HN.out HM.out.2 nmAH rfl (by omega) (fun g => [(nm tAF, pd f), (nm tAH, pd g)]) (fun _ => rfl) (fun g p hp => by
    rcases List.mem_cons.1 hp with rfl | hp
    · exact .inl (List.mem_singleton.2 rfl)
    · exact .inr (by rw [List.mem_singleton.1 hp])) (fun _ => by simp)).mono ?_
  rintro e w7 ⟨rfl, O7, S7, g, r7, A7, ⟨v7, hg7⟩, hk7, cv7, fv7, hr7⟩
  have hv7 := (hk7 f _ hv6).1
  clear hk7 A6 hv6
  go_wp2_with fail
  refine (crashA A7 HP.out HL.out (Lh f g) 1 (.inr ⟨r7, _, rfl, hr7, rfl, fun n hn => by rcases le1 hn with rfl | rfl <;> rfl⟩) (by omega) (fun n hn => lh_good hv7 hg7 n) (by simp)).mono ?_
  rintro e w8 ⟨rfl, O8, S8, n, hn8, C8⟩
  go_wp2_with fail
  refine (onA C8).mono ?_
  rintro e w9 ⟨rfl, O9, S9, C9⟩
  have hlk : look (.map (Lh f g n)) tAF = some f := by rcases le1 hn8 with rfl | rfl <;> rfl
  clear C8 A7 hg7 hr7
  go_wp2_with fail
  refine (readA C9 nmAF.le hlk hv7).mono ?_
  rintro e w10 ⟨v10, x10, rfl, hc10, hb10, X10, C10⟩
  obtain ⟨j, hj, e10⟩ := cutd_part hc10
  rw [e10] at X10 hb10
  obtain ⟨L, hL⟩ : ∃ L, (os ++ ns.take j).length = L := ⟨_, rfl⟩
  rw [hL] at X10
  have HLL : Hid (L = m1 + j ∧ j ≤ m2) := by
    have := HO.out.len
    have := HN.out.len
    rw [← hL, List.length_append, List.length_take]
    exact ⟨by omega, by omega⟩
  obtain ⟨xa, xc, hxv, R10, -⟩ := own_rd X10 hb10
  subst hxv
  clear C9 hc10 hb10 X10 hlk hv7 e10
  go_wp2_with fail
  refine (listA C10 (by rcases le1 hn8 with rfl | rfl <;> simp [Lh]) (fun p hp x hx => by
    rcases le1 hn8 with rfl | rfl
    · obtain rfl := List.mem_singleton.1 hp
      obtain rfl := nm_inj hx
      exact ⟨by decide, by rw [Lib.toList_data]; decide⟩
    · rcases List.mem_cons.1 hp with rfl | hp
      · obtain rfl := nm_inj hx
        exact ⟨by decide, by rw [Lib.toList_data]; decide⟩
      · obtain rfl := List.mem_singleton.1 hp
        obtain rfl := nm_inj hx
        exact ⟨by decide, by rw [Lib.toList_data]; decide⟩)).mono ?_
  rintro e w11 ⟨vl, ls, rfl, hperm, Y11, b11, C11⟩
  obtain ⟨kl, hkl, hk1, hk2, hfst⟩ := ls_of hn8 hperm
  rw [hkl] at Y11
  obtain ⟨lg, lc, hlv⟩ := own_some Y11 (by omega)
  subst hlv
  have cl := own_cell Y11 0 _ hfst
  have R11 := R10.keep b11
  have B11 : Hid (RowKit.Below w.heap.size w w11) := C11.B
  have N11 : Hid (Rd w11 bo m2 c2 ns) := HN.out.keep C11.B
  have O11 : Hid (Rd w11 ao m1 c1 os) := HO.out.keep C11.B
  have len1 : Hid (os.length = m1) := HO.out.len
  have len2 : Hid (ns.length = m2) := HN.out.len
  have HR11 : Hid (Rd w11 xa L xc (os ++ ns.take j)) := R11
  obtain ⟨⟨hN1, hN2⟩, qa, qb, qc, qd, qs, qs', qu, qu'⟩ := lasts_num HM.out HLL.out ⟨hk1, hk2⟩
  have hk0 : 0 < kl := hk1
  have hN3 : 1 ≤ kl ∧ kl ≤ 2 := ⟨hk1, hk2⟩
  clear R10 R11 Y11 hperm hkl hfst C10 C11 hL hj b11 hk1 hk2
  obtain ⟨u1, hu1⟩ := sub_str HR11.out 0 m1 (by have := HLL.out; omega) none (some (.int .i64 (m1 : Int))) (.inr ⟨rfl, rfl⟩) (.inl (by rw [Nat.zero_add])) os (by rw [List.drop_zero, ← len1.out, List.take_left])
  obtain ⟨u2, hu2⟩ := sub_str HR11.out m1 j (by have := HLL.out; omega) (some (.int .i64 (m1 : Int))) none (.inl rfl) (.inr ⟨rfl, HLL.out.1.symm⟩) (ns.take j) (by rw [← len1.out, List.drop_left, List.take_take, Nat.min_self])
  obtain ⟨u3, hu3⟩ := sub_str N11.out 0 j (by have := HLL.out; omega) none (some (.int .i64 (j : Int))) (.inr ⟨rfl, rfl⟩) (.inl (by rw [Nat.zero_add])) (ns.take j) (by rw [List.drop_zero])
  have hu0 : ∀ W, RowKit.Below w11.heap.size w11 W → (convert 22 9 (.slice ao m1 c1)).run Try.prog W = .ok (.string (strOfNums os)) W := fun W hW => (O11.out.keep hW).str
  have U0 : Hid _ := hu0
  have U1 : Hid _ := hu1
  have U2 : Hid _ := hu2
  have U3 : Hid _ := hu3
  clear hu0 hu1 hu2 hu3 HR11 N11 O11 len1 len2 HLL HM HO HN HP HL
  go_wp2_with fail
  refine wp_region_quiet (C := fun W => RowKit.Below w11.heap.size w11 W) (by kernel_rfl) (by kernel_rfl) (RowKit.Below.refl _ _).drew ?_
  repeat
    refine wpQuiet_step (fun K hK => ?_)
    first
      | (refine q_slice (by rfl) _ _ _ rfl (.slice xa L xc) rfl none (some (.int .i64 (m1 : Int))) rfl rfl u1 (fun W hW => (U1.out W hW).1) (hK _ ?_); clear hK K)
      | (refine q_conv (by rfl) _ rfl u1 rfl (.string (strOfNums os)) (fun W hW => (U1.out W hW).2) (hK _ ?_); clear hK K)
      | (refine q_conv (by rfl) _ rfl (.slice ao m1 c1) rfl (.string (strOfNums os)) (fun W hW => U0.out W hW) (hK _ ?_); clear hK K)
      | (refine q_slice (by rfl) _ _ _ rfl (.slice xa L xc) rfl (some (.int .i64 (m1 : Int))) none rfl rfl u2 (fun W hW => (U2.out W hW).1) (hK _ ?_); clear hK K)
      | (refine q_conv (by rfl) _ rfl u2 rfl (.string (strOfNums (ns.take j))) (fun W hW => (U2.out W hW).2) (hK _ ?_); clear hK K)
      | (refine q_slice (by rfl) _ _ _ rfl (.slice bo m2 c2) rfl none (some (.int .i64 (j : Int))) rfl rfl u3 (fun W hW => (U3.out W hW).1) (hK _ ?_); clear hK K)
      | (refine q_conv (by rfl) _ rfl u3 rfl (.string (strOfNums (ns.take j))) (fun W hW => (U3.out W hW).2) (hK _ ?_); clear hK K)
      | (go_simp; refine ⟨_, fun wq hs => rfl, hK _ ?_⟩; clear hK K)
  refine wpQuiet_nil ?_
  intro w12 b12
  go_wp2_with fail
  go_ret
  exact ⟨rfl, B11.out.trans (b12.mono B11.out.size)⟩

end Go.Proofs.Ytmpfbemdljfamaa
