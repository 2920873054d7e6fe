/- The document's Stored, and its Bound. -/
import Derived.Test.YtiahbicodlgmhaaGreatDoorM35
namespace Go.Proofs.YtiahbicodlgmhaaGreatDoor.Z
open Go.RowKit

/-- A stored block's bytes. -/
def sb1 (f : Int) (cs : List Int) : List Int := [f, (cs.length : Int) % 256, (cs.length : Int) / 256, 255 - (cs.length : Int) % 256, 255 - (cs.length : Int) / 256] ++ cs

/-- Those of the first k. -/
def stb (bs : List Int) : Nat → List Int
  | 0 => []
  | k + 1 => stb bs k ++ sb1 (lb1 (decide (bs.length ≤ 65535 * (k + 1)))) (zsl bs k)

theorem lb1_b (b : Bool) : 0 ≤ lb1 b ∧ lb1 b < 2 ^ 1 := by cases b <;> decide

theorem sto1_ft (b : Bool) (cs : List Int) (hc : cs.length ≤ 65535) (hb : ∀ x ∈ cs, 0 ≤ x ∧ x < 256) : Ft (sto1 (lb1 b) cs) := by
  have h1 := lb1_b b
  have e : (2 : Int) ^ 16 = 65536 := by decide
  refine Ft.cons h1.1 h1.2 (Ft.cons (by decide) (by decide) (Ft.cons (by decide) (by decide) (Ft.cons ?_ ?_ (Ft.cons ?_ ?_ (bfs_ft cs hb)))))
  · show (0 : Int) ≤ (cs.length : Int); omega
  · show (cs.length : Int) < 2 ^ 16; omega
  · show (0 : Int) ≤ 65535 - (cs.length : Int); omega
  · show 65535 - (cs.length : Int) < 2 ^ 16; omega

theorem zsl_byt {bs : List Int} (hb : ∀ x ∈ bs, 0 ≤ x ∧ x < 256) (k : Nat) : ∀ x ∈ zsl bs k, 0 ≤ x ∧ x < 256 := fun x hx => hb x (List.mem_of_mem_drop (List.mem_of_mem_take hx))

theorem stk_ft (bs : List Int) (hb : ∀ x ∈ bs, 0 ≤ x ∧ x < 256) (k : Nat) : Ft (stk true bs k) := by
  induction k with
  | zero => exact Ft.nil
  | succ k ih => exact Ft.app ih (sto1_ft _ _ (by rw [zsl_len]; omega) (zsl_byt hb k))

theorem fv_bfs (cs : List Int) (hb : ∀ x ∈ cs, 0 ≤ x ∧ x < 256) : by8 (fv (bfs cs)) cs.length = cs := by
  induction cs with
  | nil => rfl
  | cons c cs ih =>
    have h0 := hb c (List.mem_cons_self ..)
    have e : fv (bfs (c :: cs)) = c + 2 ^ (8 * 1) * fv (bfs cs) := rfl
    rw [e, List.length_cons, Nat.add_comm cs.length 1, by8_app c _ 1 h0.1 (by simpa using h0.2), ih (fun x hx => hb x (List.mem_cons_of_mem _ hx))]
    have : by8 c 1 = [c] := by
      simp [by8]
      omega
    rw [this]
    rfl

theorem five (f l h p q : Int) (b0 : 0 ≤ f ∧ f < 256) (b1 : 0 ≤ l ∧ l < 256) (b2 : 0 ≤ h ∧ h < 256) (b3 : 0 ≤ p ∧ p < 256) (b4 : 0 ≤ q ∧ q < 256) :
    (f + 256 * l + 65536 * h + 16777216 * p + 4294967296 * q) % 256 = f ∧ (f + 256 * l + 65536 * h + 16777216 * p + 4294967296 * q) / 256 % 256 = l ∧ (f + 256 * l + 65536 * h + 16777216 * p + 4294967296 * q) / 65536 % 256 = h ∧ (f + 256 * l + 65536 * h + 16777216 * p + 4294967296 * q) / 16777216 % 256 = p ∧ (f + 256 * l + 65536 * h + 16777216 * p + 4294967296 * q) / 4294967296 % 256 = q := by
  refine ⟨by omega, ?_, ?_, ?_, ?_⟩
  · rw [show (f + 256 * l + 65536 * h + 16777216 * p + 4294967296 * q) / 256 = l + 256 * (h + 256 * p + 65536 * q) by omega]
    omega
  · obtain ⟨r, hr⟩ : ∃ r, r = f + 256 * l := ⟨_, rfl⟩
    rw [← hr, show (r + 65536 * h + 16777216 * p + 4294967296 * q) / 65536 = h + 256 * (p + 256 * q) by omega]
    omega
  · obtain ⟨r, hr⟩ : ∃ r, r = f + 256 * l + 65536 * h := ⟨_, rfl⟩
    have hb : 0 ≤ r ∧ r < 16777216 := by omega
    rw [← hr]
    clear hr
    rw [show (r + 16777216 * p + 4294967296 * q) / 16777216 = p + 256 * q by omega]
    omega
  · obtain ⟨r, hr⟩ : ∃ r, r = f + 256 * l + 65536 * h + 16777216 * p := ⟨_, rfl⟩
    have hb : 0 ≤ r ∧ r < 4294967296 := by omega
    rw [← hr]
    clear hr
    omega

theorem byF_sto1 (b : Bool) (cs : List Int) (hc : cs.length ≤ 65535) (hb : ∀ x ∈ cs, 0 ≤ x ∧ x < 256) : byF (sto1 (lb1 b) cs) = sb1 (lb1 b) cs := by
  have h1 := lb1_b b
  have e2 : (2 : Int) ^ 1 = 2 := by decide
  generalize lb1 b = f at h1 ⊢
  unfold byF
  rw [sto1_fb, show (40 + 8 * cs.length + 7) / 8 = 5 + cs.length by omega]
  obtain ⟨L, hL⟩ : ∃ L : Int, L = cs.length := ⟨_, rfl⟩
  have hL0 : 0 ≤ L ∧ L ≤ 65535 := by omega
  have e : fv (sto1 f cs) = (f + 256 * L + 16777216 * (65535 - L)) + 2 ^ (8 * 5) * fv (bfs cs) := by
    simp only [sto1, fv, ← hL]
    generalize fv (bfs cs) = Y
    rw [show (2 : Int) ^ 1 = 2 by decide, show (2 : Int) ^ 2 = 4 by decide, show (2 : Int) ^ 5 = 32 by decide, show (2 : Int) ^ 16 = 65536 by decide, show (2 : Int) ^ (8 * 5) = 1099511627776 by decide]
    omega
  rw [e, by8_app _ _ 5 (by omega) (by rw [show (2 : Int) ^ (8 * 5) = 1099511627776 by decide]; omega), fv_bfs cs hb]
  unfold sb1
  rw [← hL]
  congr 1
  simp only [by8, List.range, List.range.loop, List.map]
  rw [show (2 : Int) ^ (8 * 0) = 1 by decide, show (2 : Int) ^ (8 * 1) = 256 by decide, show (2 : Int) ^ (8 * 2) = 65536 by decide, show (2 : Int) ^ (8 * 3) = 16777216 by decide, show (2 : Int) ^ (8 * 4) = 4294967296 by decide]
  obtain ⟨l, hl⟩ : ∃ l, l = L % 256 := ⟨_, rfl⟩
  obtain ⟨h, hh⟩ : ∃ h, h = L / 256 := ⟨_, rfl⟩
  obtain ⟨q1, q2, q3, q4, q5⟩ := five f l h (255 - l) (255 - h) (by omega) (by omega) (by omega) (by omega) (by omega)
  have ev : f + 256 * L + 16777216 * (65535 - L) = f + 256 * l + 65536 * h + 16777216 * (255 - l) + 4294967296 * (255 - h) := by omega
  rw [ev, ← hl, ← hh, Int.ediv_one]
  rw [q1, q2, q3, q4, q5]

theorem byF_stk (bs : List Int) (hb : ∀ x ∈ bs, 0 ≤ x ∧ x < 256) (k : Nat) (hk : k ≤ nck bs.length) : byF (stk true bs k) = stb bs k := by
  induction k with
  | zero => simp [byF, stk, stb, fb, by8]
  | succ k ih =>
    have hz : (zsl bs k).length ≤ 65535 := by rw [zsl_len]; omega
    have h8 := stk_fb true bs k (by omega)
    obtain ⟨f0, f1⟩ := fv_bound (stk_ft bs hb k)
    obtain ⟨q, hq⟩ : ∃ q, fb (stk true bs k) = 8 * q := ⟨5 * k + min (65535 * k) bs.length, by omega⟩
    have e1 : byF (stk true bs k) = by8 (fv (stk true bs k)) q := by unfold byF; rw [hq, show (8 * q + 7) / 8 = q by omega]
    have e2 : byF (stk true bs (k + 1)) = by8 (fv (stk true bs k)) q ++ byF (sto1 (lb1 (true && decide (bs.length ≤ 65535 * (k + 1)))) (zsl bs k)) := by
      have hs := sto1_fb (lb1 (true && decide (bs.length ≤ 65535 * (k + 1)))) (zsl bs k)
      unfold byF
      simp only [stk, fb_app, fv_app]
      rw [hq, show (8 * q + fb (sto1 (lb1 (true && decide (bs.length ≤ 65535 * (k + 1)))) (zsl bs k)) + 7) / 8 = q + (fb (sto1 (lb1 (true && decide (bs.length ≤ 65535 * (k + 1)))) (zsl bs k)) + 7) / 8 by omega]
      rw [hq] at f1
      exact by8_app _ _ q f0 f1 _
    rw [e2, ← e1, ih (by omega), byF_sto1 _ _ hz (zsl_byt hb k)]
    simp [stb]

theorem stb_len (bs : List Int) (hb : ∀ x ∈ bs, 0 ≤ x ∧ x < 256) (k : Nat) (hk : k ≤ nck bs.length) : (stb bs k).length = 5 * k + min (65535 * k) bs.length := by
  rw [← byF_stk bs hb k hk, byF_len, stk_fb true bs k hk]
  omega

set_option maxRecDepth 100000 in
set_option maxHeartbeats 4000000 in
theorem rbound_any (n : Nat) (w : World) (hn : n ≤ 1073741824) : Calls Tryz.prog 18 #[.int .i64 n] w fun e w' => e = .returned (.int .i64 ((ssz n + 6 : Nat) : Int)) ∧ w' = w := by
  obtain ⟨q, hq⟩ : ∃ q : Nat, q = (n + 65534) / 65535 := ⟨_, rfl⟩
  have y1 : IntKind.i64.wrap ((n : Int) + 65534) = (n : Int) + 65534 := wraps_i64 _ (by omega) (by omega)
  have y2 : ((n : Int) + 65534).tdiv 65535 = q := by
    rw [Int.tdiv_eq_ediv_of_nonneg (by omega)]
    omega
  have y3 : IntKind.i64.wrap (q : Int) = q := wraps_i64 _ (by omega) (by omega)
  have hs : ssz n = n + 5 * max 1 q := by rw [hq]; rfl
  by_cases h1 : q = 0
  · have d1 : decide ((q : Int) < 1) = true := by simp; omega
    have d2 : decide (q < 1) = true := by simp; omega
    have y4 : IntKind.i64.wrap ((n : Int) + 5) = (n : Int) + 5 := wraps_i64 _ (by omega) (by omega)
    have y5 : IntKind.i64.wrap ((n : Int) + 5 + 6) = (n : Int) + 5 + 6 := wraps_i64 _ (by omega) (by omega)
    have e : ((ssz n + 6 : Nat) : Int) = (n : Int) + 5 + 6 := by omega
    rw [e]
    clear hq hs e h1
    go_enter Tryz.func18, Tryz.ntmps18
    go_wp2
    go_ret
    exact ⟨rfl, rfl⟩
  · have d1 : decide ((q : Int) < 1) = false := by simp; omega
    have d2 : decide (q < 1) = false := by simp; omega
    obtain ⟨r, hr⟩ : ∃ r : Nat, r = 5 * q := ⟨_, rfl⟩
    have y6 : (5 : Int) * q = r := by omega
    have y7 : IntKind.i64.wrap (r : Int) = r := wraps_i64 _ (by omega) (by omega)
    have y4 : IntKind.i64.wrap ((n : Int) + r) = (n : Int) + r := wraps_i64 _ (by omega) (by omega)
    have y5 : IntKind.i64.wrap ((n : Int) + r + 6) = (n : Int) + r + 6 := wraps_i64 _ (by omega) (by omega)
    have e : ((ssz n + 6 : Nat) : Int) = (n : Int) + r + 6 := by omega
    rw [e]
    clear hq hs e h1 hr
    go_enter Tryz.func18, Tryz.ntmps18
    go_wp2
    go_ret
    exact ⟨rfl, rfl⟩

end Go.Proofs.YtiahbicodlgmhaaGreatDoor.Z
