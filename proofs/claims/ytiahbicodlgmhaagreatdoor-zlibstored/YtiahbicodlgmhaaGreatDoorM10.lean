/- ZStep, LzzLz, ZIt. -/
import Derived.Test.YtiahbicodlgmhaaGreatDoorM07
import Derived.Test.YtiahbicodlgmhaaGreatDoorM09
import Derived.WalkKit
/- stepOf: the symbol of a length, of a distance. -/
namespace Go.Proofs.YtiahbicodlgmhaaGreatDoor.Z
open Go.RowKit

/-- The closure of stepOf. -/
abbrev clo (a b c : Nat) : Value := .func (.func 130) #[] #[.pointer (some ⟨a, 0, none⟩), .pointer (some ⟨b, 0, none⟩), .pointer (some ⟨c, 0, none⟩)]

set_option maxRecDepth 100000 in
set_option maxHeartbeats 1000000 in
theorem search_any (a b c n : Nat) (p : Nat → Bool) (w : World) (hn : n ≤ 1000) (hc : ∀ k : Nat, k < n → Calls Tryz.prog 130 #[.int .i64 k, .pointer (some ⟨a, 0, none⟩), .pointer (some ⟨b, 0, none⟩), .pointer (some ⟨c, 0, none⟩)] w fun e w' => e = .returned (.bool (p k)) ∧ w' = w) :
    Calls Tryz.prog 129 #[.int .i64 n, clo a b c] w fun e w' => ∃ i : Nat, e = .returned (.int .i64 i) ∧ i ≤ n ∧ (i = 0 ∨ p (i - 1) = false) ∧ (i = n ∨ p i = true) ∧ w' = w := by
  have HC : Hid (∀ k : Nat, k < n → Calls Tryz.prog 130 #[.int .i64 k, .pointer (some ⟨a, 0, none⟩), .pointer (some ⟨b, 0, none⟩), .pointer (some ⟨c, 0, none⟩)] w fun e w' => e = .returned (.bool (p k)) ∧ w' = w) := hc
  clear hc
  go_enter Tryz.func129, Tryz.ntmps129
  go_wp2_with fail
  go_loopw [5, 6] (fun iv jv wr => ∃ i j : Nat, i ≤ j ∧ j ≤ n ∧ iv = .int .i64 i ∧ jv = .int .i64 j ∧ Hid ((i = 0 ∨ p (i - 1) = false) ∧ (j = n ∨ p j = true)) ∧ wr = w) (fun iv jv _ => (intOf jv - intOf iv).toNat)
  case atStart => exact ⟨0, n, by omega, by omega, rfl, rfl, ⟨.inl rfl, .inl rfl⟩, rfl⟩
  case round =>
    obtain ⟨i, j, hij, hj, rfl, rfl, HP, rfl⟩ := hrel
    by_cases hlt : i < j
    · obtain ⟨h, hh⟩ : ∃ h, h = (i + j) / 2 := ⟨_, rfl⟩
      have h1 : i ≤ h := by omega
      have h2 : h < j := by omega
      have t1 : ((i : Int) + j) / 2 = h := by omega
      have hcall := HC.out h (by omega)
      cases hp : p h
      · rw [hp] at hcall
        have HH : Hid (p h = false) := hp
        clear hh hp
        go_wp2_with (go_at_call 130; refine hcall.mono ?_; rintro e w1 ⟨rfl, hw⟩; subst w1)
        go_roundw
        case rel => exact ⟨h + 1, j, by omega, hj, by go_num, rfl, ⟨.inr HH.out, HP.out.2⟩, trivial⟩
        case measure => simp [intOf]; omega
      · rw [hp] at hcall
        have HH : Hid (p h = true) := hp
        clear hh hp
        go_wp2_with (go_at_call 130; refine hcall.mono ?_; rintro e w1 ⟨rfl, hw⟩; subst w1)
        go_roundw
        case rel => exact ⟨i, h, h1, by omega, rfl, rfl, ⟨HP.out.1, .inr HH.out⟩, trivial⟩
        case measure => simp [intOf]; omega
    · obtain rfl : i = j := by omega
      go_wp2
      go_ret
      exact ⟨i, rfl, hj, HP.out.1, HP.out.2, rfl⟩

set_option maxHeartbeats 1000000 in
theorem clo_len (a b c k v : Nat) (w : World) (ha : w.cell? ⟨a, 0, none⟩ = some (.func (.func 99) #[] #[])) (hb : w.cell? ⟨b, 0, none⟩ = some (.int .i64 257)) (hc : w.cell? ⟨c, 0, none⟩ = some (.int .i64 v)) (hk : k < 29) :
    Calls Tryz.prog 130 #[.int .i64 k, .pointer (some ⟨a, 0, none⟩), .pointer (some ⟨b, 0, none⟩), .pointer (some ⟨c, 0, none⟩)] w fun e w' => e = .returned (.bool (decide (v < lb (257 + k)))) ∧ w' = w := by
  have hl := length_yes (257 + k) w (by omega) (by omega)
  have e1 : ((257 + k : Nat) : Int) = 257 + (k : Int) := by omega
  rw [e1] at hl
  generalize lb (257 + k) = x at *
  clear e1
  go_enter Tryz.func130, Tryz.ntmps130
  go_wp2_with (go_at_call 99; refine hl.mono ?_; rintro e w1 ⟨rfl, hw⟩; subst w1)
  go_ret
  exact ⟨rfl, rfl⟩

set_option maxHeartbeats 1000000 in
theorem clo_dist (a b c k v : Nat) (w : World) (ha : w.cell? ⟨a, 0, none⟩ = some (.func (.func 100) #[] #[])) (hb : w.cell? ⟨b, 0, none⟩ = some (.int .i64 0)) (hc : w.cell? ⟨c, 0, none⟩ = some (.int .i64 v)) (hk : k < 30) :
    Calls Tryz.prog 130 #[.int .i64 k, .pointer (some ⟨a, 0, none⟩), .pointer (some ⟨b, 0, none⟩), .pointer (some ⟨c, 0, none⟩)] w fun e w' => e = .returned (.bool (decide (v < db k))) ∧ w' = w := by
  have hl := distance_yes k w (by omega)
  generalize db k = x at *
  go_enter Tryz.func130, Tryz.ntmps130
  go_wp2_with (go_at_call 100; refine hl.mono ?_; rintro e w1 ⟨rfl, hw⟩; subst w1)
  go_ret
  exact ⟨rfl, rfl⟩

theorem lb_next : ∀ s, s < 285 → 257 ≤ s → lb (s + 1) - lb s ≤ 2 ^ lx s := by decide +kernel
theorem db_next : ∀ t, t < 29 → db (t + 1) - db t ≤ 2 ^ dx t := by decide +kernel

set_option maxRecDepth 100000 in
set_option maxHeartbeats 1000000 in
theorem stepOf_len (v : Nat) (w : World) (h0 : 3 ≤ v) (h1 : v ≤ 258) :
    Calls Tryz.prog 98 #[.int .i64 v, .int .i64 257, .int .i64 29, .func (.func 99) #[] #[]] w fun e w' => ∃ s u : Nat, e = .returned (sv (0, s, u, lx s)) ∧ (257 ≤ s ∧ s ≤ 285) ∧ lb s + u = v ∧ u < 2 ^ lx s ∧ Below w.heap.size w w' := by
  obtain ⟨W, hW⟩ : ∃ W, W = (((w.alloc (Obj.cells #[.int .i64 v] 3)).alloc (Obj.cells #[.int .i64 257] 3)).alloc (Obj.cells #[.func (.func 99) #[] #[]] 125)).alloc (Obj.cells #[.int .i64 0, .int .i64 0, .int .i64 0, .int .i64 0] 109) := ⟨_, rfl⟩
  have b1 : Below w.heap.size w (w.alloc (Obj.cells #[.int .i64 v] 3)) := (Below.refl _ _).alloc (Nat.le_refl _) _
  have b2 := b1.alloc b1.size (Obj.cells #[.int .i64 257] 3)
  have b3 := b2.alloc b2.size (Obj.cells #[.func (.func 99) #[] #[]] 125)
  have b4 := b3.alloc b3.size (Obj.cells #[.int .i64 0, .int .i64 0, .int .i64 0, .int .i64 0] 109)
  rw [← hW] at b4
  have k0 : W.cell? ⟨w.heap.size, 0, none⟩ = some (.int .i64 v) := by
    have h := ((((World.rowIs_alloc w #[.int .i64 v] 3 (fun _ => .int .i64 v) (fun i hi => by simp at hi; subst hi; rfl)).alloc (Obj.cells #[.int .i64 257] 3)).alloc (Obj.cells #[.func (.func 99) #[] #[]] 125)).alloc (Obj.cells #[.int .i64 0, .int .i64 0, .int .i64 0, .int .i64 0] 109)).cell (i := 0) (by simp)
    rw [← hW] at h
    exact h
  have k1 : W.cell? ⟨w.heap.size + 1, 0, none⟩ = some (.int .i64 257) := by
    have h := (((World.rowIs_alloc (w.alloc (Obj.cells #[.int .i64 v] 3)) #[.int .i64 257] 3 (fun _ => .int .i64 257) (fun i hi => by simp at hi; subst hi; rfl)).alloc (Obj.cells #[.func (.func 99) #[] #[]] 125)).alloc (Obj.cells #[.int .i64 0, .int .i64 0, .int .i64 0, .int .i64 0] 109)).cell (i := 0) (by simp)
    rw [← hW] at h
    simpa using h
  have k2 : W.cell? ⟨w.heap.size + 2, 0, none⟩ = some (.func (.func 99) #[] #[]) := by
    have h := ((World.rowIs_alloc ((w.alloc (Obj.cells #[.int .i64 v] 3)).alloc (Obj.cells #[.int .i64 257] 3)) #[.func (.func 99) #[] #[]] 125 (fun _ => .func (.func 99) #[] #[]) (fun i hi => by simp at hi; subst hi; rfl)).alloc (Obj.cells #[.int .i64 0, .int .i64 0, .int .i64 0, .int .i64 0] 109)).cell (i := 0) (by simp)
    rw [← hW] at h
    simpa using h
  have k3 : W.rowIs (w.heap.size + 3) 109 4 (stc sz0) := by
    have h := step_new (((w.alloc (Obj.cells #[.int .i64 v] 3)).alloc (Obj.cells #[.int .i64 257] 3)).alloc (Obj.cells #[.func (.func 99) #[] #[]] 125)) sz0 #[.int .i64 0, .int .i64 0, .int .i64 0, .int .i64 0] rfl
    rw [← hW] at h
    simpa using h
  have hsrch := search_any (w.heap.size + 2) (w.heap.size + 1) w.heap.size 29 (fun k => decide (v < lb (257 + k))) W (by omega) (fun k hk => clo_len (w.heap.size + 2) (w.heap.size + 1) w.heap.size k v W k2 k1 k0 hk)
  have HB : Hid (Below w.heap.size w W) := b4
  have HW : Hid (W = (((w.alloc (Obj.cells #[.int .i64 v] 3)).alloc (Obj.cells #[.int .i64 257] 3)).alloc (Obj.cells #[.func (.func 99) #[] #[]] 125)).alloc (Obj.cells #[.int .i64 0, .int .i64 0, .int .i64 0, .int .i64 0] 109)) := hW
  have H3 : Hid (W.rowIs (w.heap.size + 3) 109 4 (stc sz0)) := k3
  clear b1 b2 b3 b4 k3
  go_enter Tryz.func98, Tryz.ntmps98
  go_wp2_with fail
  rw [← hW]
  refine hsrch.mono ?_
  rintro e w1 ⟨i, rfl, hi, hp, hq, hw⟩
  subst w1
  have hi1 : 1 ≤ i := by
    rcases Nat.eq_zero_or_pos i with rfl | h
    · rcases hq with h | h
      · omega
      · have e : lb 257 = 3 := by decide
        simp [e] at h
        omega
    · omega
  obtain ⟨s, hs⟩ : ∃ s, s = 257 + i - 1 := ⟨_, rfl⟩
  have s0 : 257 ≤ s := by omega
  have s1 : s ≤ 285 := by omega
  have e1 : lb s ≤ v := by
    rcases hp with h | h
    · omega
    · rw [show 257 + (i - 1) = s by omega] at h
      simpa using h
  have e2 : v - lb s < 2 ^ lx s := by
    rcases hq with h | h
    · have e : s = 285 := by omega
      subst e
      have e3 : lb 285 = 258 := by decide
      have e4 : lx 285 = 0 := by decide
      rw [e3, e4]
      simp
      omega
    · rw [show 257 + i = s + 1 by omega] at h
      simp only [decide_eq_true_eq] at h
      rcases Nat.lt_or_ge s 285 with h' | h'
      · have := lb_next s h' s0
        omega
      · have e : s = 285 := by omega
        subst e
        have e3 : lb 285 = 258 := by decide
        have e4 : lx 285 = 0 := by decide
        rw [e3, e4]
        simp
        omega
  have t1 : (257 : Int) + i - 1 = s := by omega
  have hl := length_yes s W s0 s1
  have hx := (lb_le s (by omega) s0)
  obtain ⟨u, hu⟩ : ∃ u, u = v - lb s := ⟨_, rfl⟩
  have t2 : (v : Int) - (lb s : Nat) = u := by omega
  have HE : Hid (lb s + u = v ∧ u < 2 ^ lx s) := ⟨by omega, by omega⟩
  have HIW : i ≤ 30 := by omega
  obtain ⟨bs, hbs⟩ : ∃ bs, bs = lb s := ⟨_, rfl⟩
  obtain ⟨xs, hxs⟩ : ∃ xs, xs = lx s := ⟨_, rfl⟩
  have HXS : Hid (xs = lx s) := hxs
  rw [← hbs, ← hxs] at hl
  rw [← hbs] at t2
  rw [← hbs, ← hxs] at hx
  clear hp hq e1 e2 hs hu hxs hbs hsrch hW
  go_wp2_with (first
    | (go_at_call 99; refine hl.mono ?_; rintro e w1 ⟨rfl, hw⟩; subst w1)
    | (refine wpList_st rfl 109 _ _ rfl (w.heap.size + 3) rfl (stc (0, s, u, xs)) rfl H3.out size109 (stc_one _) ?_; intro w5 h5 f5))
  have HB5 : Below w.heap.size w w5 := HB.out.trans (f5.below w.heap.size HB.out.size (fun j hj e => by omega))
  exact bodyPost_ret (results_row rfl _ rfl h5 Tryz.underlying109 rfl size109) rfl ⟨s, u, by rw [← HXS.out]; rfl, ⟨s0, s1⟩, HE.out.1, HE.out.2, HB5⟩

set_option maxRecDepth 100000 in
set_option maxHeartbeats 1000000 in
theorem stepOf_dist (v : Nat) (w : World) (h0 : 1 ≤ v) (h1 : v ≤ 32768) :
    Calls Tryz.prog 98 #[.int .i64 v, .int .i64 0, .int .i64 30, .func (.func 100) #[] #[]] w fun e w' => ∃ s u : Nat, e = .returned (sv (0, s, u, dx s)) ∧ s < 30 ∧ db s + u = v ∧ u < 2 ^ dx s ∧ Below w.heap.size w w' := by
  obtain ⟨W, hW⟩ : ∃ W, W = (((w.alloc (Obj.cells #[.int .i64 v] 3)).alloc (Obj.cells #[.int .i64 0] 3)).alloc (Obj.cells #[.func (.func 100) #[] #[]] 125)).alloc (Obj.cells #[.int .i64 0, .int .i64 0, .int .i64 0, .int .i64 0] 109) := ⟨_, rfl⟩
  have b1 : Below w.heap.size w (w.alloc (Obj.cells #[.int .i64 v] 3)) := (Below.refl _ _).alloc (Nat.le_refl _) _
  have b2 := b1.alloc b1.size (Obj.cells #[.int .i64 0] 3)
  have b3 := b2.alloc b2.size (Obj.cells #[.func (.func 100) #[] #[]] 125)
  have b4 := b3.alloc b3.size (Obj.cells #[.int .i64 0, .int .i64 0, .int .i64 0, .int .i64 0] 109)
  rw [← hW] at b4
  have k0 : W.cell? ⟨w.heap.size, 0, none⟩ = some (.int .i64 v) := by
    have h := ((((World.rowIs_alloc w #[.int .i64 v] 3 (fun _ => .int .i64 v) (fun i hi => by simp at hi; subst hi; rfl)).alloc (Obj.cells #[.int .i64 0] 3)).alloc (Obj.cells #[.func (.func 100) #[] #[]] 125)).alloc (Obj.cells #[.int .i64 0, .int .i64 0, .int .i64 0, .int .i64 0] 109)).cell (i := 0) (by simp)
    rw [← hW] at h
    exact h
  have k1 : W.cell? ⟨w.heap.size + 1, 0, none⟩ = some (.int .i64 0) := by
    have h := (((World.rowIs_alloc (w.alloc (Obj.cells #[.int .i64 v] 3)) #[.int .i64 0] 3 (fun _ => .int .i64 0) (fun i hi => by simp at hi; subst hi; rfl)).alloc (Obj.cells #[.func (.func 100) #[] #[]] 125)).alloc (Obj.cells #[.int .i64 0, .int .i64 0, .int .i64 0, .int .i64 0] 109)).cell (i := 0) (by simp)
    rw [← hW] at h
    simpa using h
  have k2 : W.cell? ⟨w.heap.size + 2, 0, none⟩ = some (.func (.func 100) #[] #[]) := by
    have h := ((World.rowIs_alloc ((w.alloc (Obj.cells #[.int .i64 v] 3)).alloc (Obj.cells #[.int .i64 0] 3)) #[.func (.func 100) #[] #[]] 125 (fun _ => .func (.func 100) #[] #[]) (fun i hi => by simp at hi; subst hi; rfl)).alloc (Obj.cells #[.int .i64 0, .int .i64 0, .int .i64 0, .int .i64 0] 109)).cell (i := 0) (by simp)
    rw [← hW] at h
    simpa using h
  have k3 : W.rowIs (w.heap.size + 3) 109 4 (stc sz0) := by
    have h := step_new (((w.alloc (Obj.cells #[.int .i64 v] 3)).alloc (Obj.cells #[.int .i64 0] 3)).alloc (Obj.cells #[.func (.func 100) #[] #[]] 125)) sz0 #[.int .i64 0, .int .i64 0, .int .i64 0, .int .i64 0] rfl
    rw [← hW] at h
    simpa using h
  have hsrch := search_any (w.heap.size + 2) (w.heap.size + 1) w.heap.size 30 (fun k => decide (v < db k)) W (by omega) (fun k hk => clo_dist (w.heap.size + 2) (w.heap.size + 1) w.heap.size k v W k2 k1 k0 hk)
  have HB : Hid (Below w.heap.size w W) := b4
  have HW : Hid (W = (((w.alloc (Obj.cells #[.int .i64 v] 3)).alloc (Obj.cells #[.int .i64 0] 3)).alloc (Obj.cells #[.func (.func 100) #[] #[]] 125)).alloc (Obj.cells #[.int .i64 0, .int .i64 0, .int .i64 0, .int .i64 0] 109)) := hW
  have H3 : Hid (W.rowIs (w.heap.size + 3) 109 4 (stc sz0)) := k3
  clear b1 b2 b3 b4 k3
  go_enter Tryz.func98, Tryz.ntmps98
  go_wp2_with fail
  rw [← hW]
  refine hsrch.mono ?_
  rintro e w1 ⟨i, rfl, hi, hp, hq, hw⟩
  subst w1
  have hi1 : 1 ≤ i := by
    rcases Nat.eq_zero_or_pos i with rfl | h
    · rcases hq with h | h
      · omega
      · have e : db 0 = 1 := by decide
        simp [e] at h
        omega
    · omega
  obtain ⟨s, hs⟩ : ∃ s, s = i - 1 := ⟨_, rfl⟩
  have s1 : s < 30 := by omega
  have e1 : db s ≤ v := by
    rcases hp with h | h
    · omega
    · rw [← hs] at h
      simpa using h
  have e2 : v - db s < 2 ^ dx s := by
    rcases hq with h | h
    · have e : s = 29 := by omega
      subst e
      have e3 : db 29 = 24577 := by decide
      have e4 : dx 29 = 13 := by decide
      rw [e3, e4]
      simp
      omega
    · rw [show i = s + 1 by omega] at h
      simp only [decide_eq_true_eq] at h
      rcases Nat.lt_or_ge s 29 with h' | h'
      · have := db_next s h'
        omega
      · have e : s = 29 := by omega
        subst e
        have e3 : db 29 = 24577 := by decide
        have e4 : dx 29 = 13 := by decide
        rw [e3, e4]
        simp
        omega
  have t1 : (i : Int) - 1 = s := by omega
  have hl := distance_yes s W s1
  have hx := (db_le s s1)
  obtain ⟨u, hu⟩ : ∃ u, u = v - db s := ⟨_, rfl⟩
  have t2 : (v : Int) - (db s : Nat) = u := by omega
  have HE : Hid (db s + u = v ∧ u < 2 ^ dx s) := ⟨by omega, by omega⟩
  have HIW : i ≤ 30 := by omega
  obtain ⟨bs, hbs⟩ : ∃ bs, bs = db s := ⟨_, rfl⟩
  obtain ⟨xs, hxs⟩ : ∃ xs, xs = dx s := ⟨_, rfl⟩
  have HXS : Hid (xs = dx s) := hxs
  rw [← hbs, ← hxs] at hl
  rw [← hbs] at t2
  rw [← hbs, ← hxs] at hx
  clear hp hq e1 e2 hs hu hxs hbs hsrch hW
  go_wp2_with (first
    | (go_at_call 100; refine hl.mono ?_; rintro e w1 ⟨rfl, hw⟩; subst w1)
    | (refine wpList_st rfl 109 _ _ rfl (w.heap.size + 3) rfl (stc (0, s, u, xs)) rfl H3.out size109 (stc_one _) ?_; intro w5 h5 f5))
  have HB5 : Below w.heap.size w w5 := HB.out.trans (f5.below w.heap.size HB.out.size (fun j hj e => by omega))
  exact bodyPost_ret (results_row rfl _ rfl h5 Tryz.underlying109 rfl size109) rfl ⟨s, u, by rw [← HXS.out]; rfl, s1, HE.out.1, HE.out.2, HB5⟩

end Go.Proofs.YtiahbicodlgmhaaGreatDoor.Z

/- Tokens as plain mathematics. -/
namespace Go.Proofs.YtiahbicodlgmhaaGreatDoor.Lzz
open Go.RowKit

/-- A token: the literal, the length, the distance. -/
abbrev Tok := Int × Int × Int

/-- The token of noughts. -/
def tz : Tok := (0, 0, 0)

abbrev isL (t : Tok) : Prop := t.2.1 = 0 ∧ t.2.2 = 0

abbrev isC (t : Tok) (n : Nat) : Prop := t.1 = 0 ∧ 3 ≤ t.2.1 ∧ t.2.1 ≤ 258 ∧ 1 ≤ t.2.2 ∧ t.2.2 ≤ n

/-- A token that may stand behind n bytes. -/
abbrev okT (n : Nat) (t : Tok) : Prop := isL t ∨ isC t (min n 32768)

/-- How many bytes a token makes. -/
def sz (t : Tok) : Nat := if t.2.1 = 0 then 1 else if t.2.1 < 0 ∨ 258 < t.2.1 then 0 else t.2.1.toNat

theorem sz_le (t : Tok) : sz t ≤ 258 := by unfold sz; split <;> (try split) <;> omega

theorem sz_L {t : Tok} (h : isL t) : sz t = 1 := by unfold sz; rw [if_pos h.1]

theorem sz_C {t : Tok} {n : Nat} (h : isC t n) : (sz t : Int) = t.2.1 := by
  obtain ⟨_, h1, h2, _⟩ := h
  unfold sz
  rw [if_neg (by omega), if_neg (by omega)]
  omega

theorem okT.pos {t : Tok} {n : Nat} (h : okT n t) : 1 ≤ sz t := by
  rcases h with h | h
  · rw [sz_L h]; omega
  · have := sz_C h
    have := h.2.1
    omega

theorem okT.zero {t : Tok} {n : Nat} (h : okT n t) : t.2.1 = 0 ↔ isL t := by
  rcases h with h | h
  · exact ⟨fun _ => h, fun _ => h.1⟩
  · have := h.2.1
    exact ⟨fun e => by omega, fun e => by have := e.1; omega⟩

/-- How many bytes tokens make. -/
def tot (ts : List Tok) : Nat := (ts.map sz).sum

theorem tot_nil : tot [] = 0 := rfl

theorem tot_app (a b : List Tok) : tot (a ++ b) = tot a + tot b := by simp [tot]

theorem tot_one (t : Tok) : tot [t] = sz t := by simp [tot]

theorem take_one {α : Type} (l : List α) (z : α) (k : Nat) (h : k < l.length) : l.take (k + 1) = l.take k ++ [l.getD k z] := by
  rw [List.take_add_one, List.getElem?_eq_getElem h]
  simp [List.getD, h]

theorem tot_take (ts : List Tok) (k : Nat) (h : k < ts.length) : tot (ts.take (k + 1)) = tot (ts.take k) + sz (ts.getD k tz) := by
  rw [take_one ts tz k h, tot_app, tot_one]

theorem tot_le (ts : List Tok) (k : Nat) : tot (ts.take k) ≤ tot ts := by
  have := tot_app (ts.take k) (ts.drop k)
  rw [List.take_append_drop] at this
  omega

theorem tot_max (ts : List Tok) : tot ts ≤ 258 * ts.length := by
  induction ts with
  | nil => simp [tot]
  | cons t ts ih =>
    have h1 := sz_le t
    have h2 := tot_app [t] ts
    rw [tot_one] at h2
    simp only [List.singleton_append] at h2
    simp only [List.length_cons]
    omega

/-- The first k tokens may be. -/
def Ok (ts : List Tok) (k : Nat) : Prop := ∀ j, j < k → okT (tot (ts.take j)) (ts.getD j tz)

theorem Ok.zero (ts : List Tok) : Ok ts 0 := fun j h => by omega

theorem Ok.step {ts : List Tok} {k : Nat} (h : Ok ts k) (ht : okT (tot (ts.take k)) (ts.getD k tz)) : Ok ts (k + 1) := fun j hj => by
  rcases Nat.lt_or_ge j k with h' | h'
  · exact h j h'
  · obtain rfl : j = k := by omega
    exact ht

theorem Ok.mono {ts : List Tok} {k m : Nat} (h : Ok ts k) (hm : m ≤ k) : Ok ts m := fun j hj => h j (by omega)

theorem getD_app {α : Type} (a b : List α) (z : α) (j : Nat) (h : j < a.length) : (a ++ b).getD j z = a.getD j z := by
  simp [List.getD, List.getElem?_append_left h]

theorem getD_last {α : Type} (a : List α) (x z : α) : (a ++ [x]).getD a.length z = x := by
  simp [List.getD]

theorem getD_take {α : Type} (l : List α) (z : α) (j k : Nat) (h : j < k) : (l.take k).getD j z = l.getD j z := by
  simp [List.getD, h]

theorem Ok.app {ts : List Tok} (h : Ok ts ts.length) {t : Tok} (ht : okT (tot ts) t) : Ok (ts ++ [t]) (ts.length + 1) := fun j hj => by
  rcases Nat.lt_or_ge j ts.length with h' | h'
  · rw [List.take_append_of_le_length (by omega), getD_app _ _ _ _ h']
    exact h j h'
  · obtain rfl : j = ts.length := by omega
    rw [List.take_append_of_le_length (by omega), List.take_length, getD_last]
    exact ht

theorem Ok.take {ts : List Tok} (h : Ok ts ts.length) (k : Nat) (hk : k ≤ ts.length) : Ok (ts.take k) k := fun j hj => by
  rw [List.take_take, Nat.min_eq_left (by omega), getD_take _ _ _ _ hj]
  exact h j (by omega)

/-- k bytes more, each that from d behind. -/
def cps : Nat → Nat → List Int → List Int
  | 0, _, os => os
  | k + 1, d, os => cps k d os ++ [(cps k d os).getD ((cps k d os).length - d) 0]

theorem cps_len (k d : Nat) (os : List Int) : (cps k d os).length = os.length + k := by
  induction k with
  | zero => simp [cps]
  | succ k ih => simp [cps, ih]; omega

theorem cps_pre (k d : Nat) (os : List Int) : ∃ r, cps k d os = os ++ r := by
  induction k with
  | zero => exact ⟨[], by simp [cps]⟩
  | succ k ih =>
    obtain ⟨r, hr⟩ := ih
    refine ⟨r ++ [(cps k d os).getD ((cps k d os).length - d) 0], ?_⟩
    show cps k d os ++ _ = _
    rw [← List.append_assoc, ← hr]

/-- What a token makes behind bytes. -/
def mk1 (os : List Int) (t : Tok) : List Int := if isL t then os ++ [t.1] else cps t.2.1.toNat t.2.2.toNat os

theorem mk1_L {t : Tok} (h : isL t) (os : List Int) : mk1 os t = os ++ [t.1] := by unfold mk1; rw [if_pos h]

theorem mk1_C {t : Tok} (h : ¬ isL t) (os : List Int) : mk1 os t = cps t.2.1.toNat t.2.2.toNat os := by unfold mk1; rw [if_neg h]

theorem mk1_len {t : Tok} {n : Nat} (h : okT n t) (os : List Int) : (mk1 os t).length = os.length + sz t := by
  by_cases hL : isL t
  · rw [mk1_L hL, sz_L hL]; simp
  · rcases h with h | h
    · exact absurd h hL
    · rw [mk1_C hL, cps_len]
      have := sz_C h
      omega

theorem mk1_pre (os : List Int) (t : Tok) : ∃ r, mk1 os t = os ++ r := by
  unfold mk1
  split
  · exact ⟨_, rfl⟩
  · exact cps_pre _ _ _

/-- What tokens make. -/
def mks (ts : List Tok) : List Int := ts.foldl mk1 []

theorem mks_app (ts : List Tok) (t : Tok) : mks (ts ++ [t]) = mk1 (mks ts) t := by simp [mks, List.foldl_append]

theorem mks_take (ts : List Tok) (k : Nat) (h : k < ts.length) : mks (ts.take (k + 1)) = mk1 (mks (ts.take k)) (ts.getD k tz) := by
  rw [take_one ts tz k h, mks_app]

theorem mks_len (ts : List Tok) (k : Nat) (hk : k ≤ ts.length) (h : Ok ts k) : (mks (ts.take k)).length = tot (ts.take k) := by
  induction k with
  | zero => simp [mks, tot]
  | succ k ih =>
    rw [mks_take ts k (by omega), mk1_len (h k (by omega)), ih (by omega) (h.mono (by omega)), tot_take ts k (by omega)]

theorem mks_all (ts : List Tok) (h : Ok ts ts.length) : (mks ts).length = tot ts := by
  have := mks_len ts ts.length (Nat.le_refl _) h
  rwa [List.take_length] at this

theorem foldl_pre (us : List Tok) : ∀ os, ∃ r, us.foldl mk1 os = os ++ r := by
  induction us with
  | nil => exact fun os => ⟨[], by simp⟩
  | cons u us ih =>
    intro os
    obtain ⟨r, hr⟩ := mk1_pre os u
    obtain ⟨r', hr'⟩ := ih (mk1 os u)
    exact ⟨r ++ r', by rw [List.foldl_cons, hr', hr, List.append_assoc]⟩

/-- Tokens cut make a front of what all make. -/
theorem mks_cut (ts : List Tok) (h : Ok ts ts.length) (k : Nat) (hk : k ≤ ts.length) : mks (ts.take k) = (mks ts).take (tot (ts.take k)) := by
  obtain ⟨r, hr⟩ := foldl_pre (ts.drop k) (mks (ts.take k))
  have e : mks ts = mks (ts.take k) ++ r := by
    rw [← hr]
    unfold mks
    rw [← List.foldl_append, List.take_append_drop]
  rw [e, ← mks_len ts k hk (h.mono hk), List.take_left']
  rfl

theorem cps_byt (k d : Nat) (os : List Int) (h : ∀ x ∈ os, 0 ≤ x ∧ x < 256) : ∀ x ∈ cps k d os, 0 ≤ x ∧ x < 256 := by
  induction k with
  | zero => exact h
  | succ k ih =>
    intro x hx
    rcases List.mem_append.1 hx with h' | h'
    · exact ih x h'
    · obtain rfl : x = _ := by simpa using h'
      cases hg : (cps k d os)[(cps k d os).length - d]? with
      | none => simp
      | some y => exact ih y (List.mem_of_getElem? hg)

theorem mk1_byt {t : Tok} {os : List Int} (ht : 0 ≤ t.1 ∧ t.1 < 256) (h : ∀ x ∈ os, 0 ≤ x ∧ x < 256) : ∀ x ∈ mk1 os t, 0 ≤ x ∧ x < 256 := by
  unfold mk1
  split
  · intro x hx
    rcases List.mem_append.1 hx with h' | h'
    · exact h x h'
    · obtain rfl : x = t.1 := by simpa using h'
      exact ht
  · exact cps_byt _ _ _ h

theorem mks_byt (ts : List Tok) (h : ∀ t ∈ ts, 0 ≤ t.1 ∧ t.1 < 256) : ∀ x ∈ mks ts, 0 ≤ x ∧ x < 256 := by
  have key : ∀ (us : List Tok) (os : List Int), (∀ t ∈ us, 0 ≤ t.1 ∧ t.1 < 256) → (∀ x ∈ os, 0 ≤ x ∧ x < 256) → ∀ x ∈ us.foldl mk1 os, 0 ≤ x ∧ x < 256 := by
    intro us
    induction us with
    | nil => exact fun os _ h => h
    | cons u us ih => exact fun os hu ho => ih _ (fun t ht => hu t (by simp [ht])) (mk1_byt (hu u (by simp)) ho)
  exact key ts [] h (fun x hx => by cases hx)

/-- What Expand answers. -/
def Ex (ts : List Tok) (most : Int) (g : Int) (os : List Int) : Prop :=
  (¬ Ok ts ts.length ∧ g = 2 ∧ os = []) ∨ (Ok ts ts.length ∧ most < tot ts ∧ g = 5 ∧ os = []) ∨ (Ok ts ts.length ∧ (tot ts : Int) ≤ most ∧ g = 0 ∧ os = mks ts)

theorem Ex.det {ts : List Tok} {most g g' : Int} {os os' : List Int} (h : Ex ts most g os) (h' : Ex ts most g' os') : g = g' ∧ os = os' := by
  rcases h with ⟨a, rfl, rfl⟩ | ⟨a, b, rfl, rfl⟩ | ⟨a, b, rfl, rfl⟩ <;> rcases h' with ⟨a', rfl, rfl⟩ | ⟨a', b', rfl, rfl⟩ | ⟨a', b', rfl, rfl⟩ <;> first | exact ⟨rfl, rfl⟩ | contradiction | omega

theorem Ex.yes {ts : List Tok} {most g : Int} {os : List Int} (h : Ex ts most g os) (hk : Ok ts ts.length) (hm : (tot ts : Int) ≤ most) : g = 0 ∧ os = mks ts := by
  rcases h with ⟨a, _⟩ | ⟨a, b, _⟩ | ⟨_, _, h⟩
  · exact absurd hk a
  · omega
  · exact h

theorem Ex.byt {ts : List Tok} {most g : Int} {os : List Int} (h : Ex ts most g os) (hb : ∀ t ∈ ts, 0 ≤ t.1 ∧ t.1 < 256) : ∀ x ∈ os, 0 ≤ x ∧ x < 256 := by
  rcases h with ⟨_, _, rfl⟩ | ⟨_, _, _, rfl⟩ | ⟨_, _, _, rfl⟩
  · intro x hx; cases hx
  · intro x hx; cases hx
  · exact mks_byt ts hb

/-- A token that makes the bytes of b from p on. -/
def Good (b : List Int) (p : Nat) (t : Tok) : Prop :=
  (t = (b.getD p 0, 0, 0)) ∨ ∃ n d : Nat, t = (0, (n : Int), (d : Int)) ∧ 3 ≤ n ∧ n ≤ 258 ∧ 1 ≤ d ∧ d ≤ 32768 ∧ d ≤ p ∧ p + n ≤ b.length ∧ ∀ i, i < n → b.getD (p + i) 0 = b.getD (p + i - d) 0

theorem cps_good (b : List Int) (p d n : Nat) (hd : 1 ≤ d) (hdp : d ≤ p) (hn : p + n ≤ b.length) (h : ∀ i, i < n → b.getD (p + i) 0 = b.getD (p + i - d) 0) : cps n d (b.take p) = b.take (p + n) := by
  induction n with
  | zero => rfl
  | succ n ih =>
    have e := ih (by omega) (fun i hi => h i (by omega))
    show cps n d (b.take p) ++ _ = _
    rw [e]
    have hl : (b.take (p + n)).length = p + n := by simp; omega
    rw [hl, getD_take _ _ _ _ (by omega), ← h n (by omega), ← Nat.add_assoc, take_one b 0 (p + n) (by omega)]

/-- Tokens that make the first p bytes of b. -/
structure Fnd (b : List Int) (p : Nat) (ts : List Tok) : Prop where
  ok : Ok ts ts.length
  out : mks ts = b.take p
  all : tot ts = p
  cnt : ts.length ≤ p
  byt : ∀ t ∈ ts, 0 ≤ t.1 ∧ t.1 < 256

theorem Fnd.nil (b : List Int) : Fnd b 0 [] := ⟨Ok.zero _, by simp [mks], rfl, by simp, fun t h => by cases h⟩

theorem Good.pos {b : List Int} {p : Nat} {t : Tok} (h : Good b p t) (hp : p < b.length) : 1 ≤ sz t ∧ p + sz t ≤ b.length := by
  rcases h with rfl | ⟨n, d, rfl, h1, h2, _, _, _, h3, _⟩
  · exact ⟨by simp [sz], by simp [sz]; omega⟩
  · have e : sz (0, (n : Int), (d : Int)) = n := by
      have := sz_C (t := (0, (n : Int), (d : Int))) (n := d) ⟨rfl, by simp; omega, by simp; omega, by simp; omega, by simp⟩
      exact Int.ofNat.inj this
    rw [e]
    omega

theorem Fnd.step {b : List Int} {p : Nat} {ts : List Tok} {t : Tok} (h : Fnd b p ts) (hb : ∀ x ∈ b, 0 ≤ x ∧ x < 256) (hp : p < b.length) (ht : Good b p t) : Fnd b (p + sz t) (ts ++ [t]) := by
  have hpos := ht.pos hp
  have hbp : 0 ≤ b.getD p 0 ∧ b.getD p 0 < 256 := by
    rw [List.getD, List.getElem?_eq_getElem hp]
    exact hb _ (by simp)
  have hok : okT (tot ts) t := by
    rw [h.all]
    rcases ht with rfl | ⟨n, d, rfl, h1, h2, h3, h4, h5, h6, _⟩
    · exact .inl ⟨rfl, rfl⟩
    · exact .inr ⟨rfl, by simp; omega, by simp; omega, by simp; omega, by simp only []; omega⟩
  refine ⟨?_, ?_, ?_, ?_, ?_⟩
  · rw [List.length_append]; exact h.ok.app hok
  · rw [mks_app, h.out]
    rcases ht with rfl | ⟨n, d, rfl, h1, h2, h3, h4, h5, h6, h7⟩
    · rw [mk1_L ⟨rfl, rfl⟩, sz_L ⟨rfl, rfl⟩, take_one b 0 p hp]
    · have hc : isC (0, (n : Int), (d : Int)) d := ⟨rfl, by simp; omega, by simp; omega, by simp; omega, by simp⟩
      have e := sz_C hc
      have e : sz (0, (n : Int), (d : Int)) = n := Int.ofNat.inj e
      rw [mk1_C (fun hh => by have := hh.1; simp at this; omega), e]
      simpa using cps_good b p d n h3 h5 h6 h7
  · rw [tot_app, tot_one, h.all]
  · rw [List.length_append]; have := h.cnt; simp; omega
  · intro u hu
    rcases List.mem_append.1 hu with h' | h'
    · exact h.byt u h'
    · obtain rfl : u = t := by simpa using h'
      rcases ht with rfl | ⟨n, d, rfl, _⟩
      · exact hbp
      · exact ⟨by simp, by simp⟩

/-- b comes again each q bytes. -/
def Per (b : List Int) (q : Nat) : Prop := ∀ i, q ≤ i → i < b.length → b.getD i 0 = b.getD (i - q) 0

/-- How many tokens there are at most, of bytes that come again. -/
def Few (N q p c : Nat) : Prop := c ≤ q + (p - q) / 258 + 1 + (p + 3 - N)

theorem Few.step {N q p c s : Nat} (h : Few N q p c) (hc : c ≤ p) (hp : p < N) (hs : 1 ≤ s) (hsn : p + s ≤ N) (hl : q ≤ p → p + 3 ≤ N → s = min 258 (N - p)) : Few N q (p + s) (c + 1) := by
  unfold Few at *
  by_cases h1 : p < q
  · omega
  · by_cases h2 : p + 3 ≤ N
    · have hs := hl (by omega) h2
      by_cases h3 : 258 ≤ N - p
      · have e : (p + s - q) / 258 = (p - q) / 258 + 1 := by
          rw [show p + s - q = (p - q) + 258 by omega, Nat.add_div_right _ (by decide)]
        omega
      · have e : (p - q) / 258 ≤ (p + s - q) / 258 := Nat.div_le_div_right (by omega)
        omega
    · have e : (p - q) / 258 ≤ (p + s - q) / 258 := Nat.div_le_div_right (by omega)
      omega

theorem Few.fin {N q c : Nat} (h : Few N q N c) (hq : q ≤ 100) : c ≤ 110 + N / 200 := by
  unfold Few at h
  have h1 : (N - q) / 258 ≤ N / 200 := by omega
  omega

end Go.Proofs.YtiahbicodlgmhaaGreatDoor.Lzz

/- Tokens as literals and copies by symbols; their steps. -/
namespace Go.Proofs.YtiahbicodlgmhaaGreatDoor.Z
open Go.RowKit

/-- A token and its symbols. -/
def Tki (t : Lzz.Tok) : It → Prop
  | .lit b => b < 256 ∧ t = ((b : Int), 0, 0)
  | .cpy s v d u => (257 ≤ s ∧ s ≤ 285 ∧ v < 2 ^ lx s ∧ d < 30 ∧ u < 2 ^ dx d) ∧ t = (0, ((lb s + v : Nat) : Int), ((db d + u : Nat) : Int))

theorem Tki.ok {t : Lzz.Tok} {i : It} (h : Tki t i) : i.ok := by
  cases i with
  | lit b => exact h.1
  | cpy s v d u => exact h.1

/-- Tokens and their symbols. -/
def Its : List Lzz.Tok → List It → Prop
  | [], [] => True
  | t :: ts, i :: is => Tki t i ∧ Its ts is
  | _, _ => False

theorem Its.snoc {t : Lzz.Tok} {i : It} (hi : Tki t i) : ∀ {ts : List Lzz.Tok} {is : List It}, Its ts is → Its (ts ++ [t]) (is ++ [i])
  | [], [], _ => ⟨hi, trivial⟩
  | _ :: _, _ :: _, h => ⟨h.1, Its.snoc hi h.2⟩

theorem Its.len : ∀ {ts : List Lzz.Tok} {is : List It}, Its ts is → ts.length = is.length
  | [], [], _ => rfl
  | _ :: _, _ :: _, h => by simp [Its.len h.2]

theorem Its.ok : ∀ {ts : List Lzz.Tok} {is : List It}, Its ts is → ∀ i ∈ is, i.ok
  | [], [], _ => fun _ h => by cases h
  | _ :: _, _ :: _, h => fun i hi => by
    rcases List.mem_cons.1 hi with rfl | hi
    · exact h.1.ok
    · exact Its.ok h.2 i hi

/-- Their steps. -/
def stp : It → List Stp
  | .lit b => [(0, (b : Int), 0, 0)]
  | .cpy s v d u => [(0, (s : Int), (v : Int), (lx s : Int)), (1, (d : Int), (u : Int), (dx d : Int))]

def stps (l : List It) : List Stp := l.flatMap stp

/-- The block's end. -/
def eos : Stp := (0, 256, 0, 0)

theorem stps_app (a b : List It) : stps (a ++ b) = stps a ++ stps b := by simp [stps]
theorem stps_one (i : It) : stps [i] = stp i := by simp [stps]

theorem stp_le (i : It) : (stp i).length ≤ 2 ∧ 1 ≤ (stp i).length := by cases i <;> simp [stp]

theorem stps_le (l : List It) : (stps l).length ≤ 2 * l.length := by
  induction l with
  | nil => simp [stps]
  | cons i l ih =>
    have := (stp_le i).1
    have e : stps (i :: l) = stp i ++ stps l := by simp [stps]
    rw [e, List.length_append, List.length_cons]
    omega

/-- A token that Find may answer. -/
def okS (t : Lzz.Tok) : Prop := (t.2.1 = 0 ∧ t.2.2 = 0 ∧ 0 ≤ t.1 ∧ t.1 < 256) ∨ (t.1 = 0 ∧ 3 ≤ t.2.1 ∧ t.2.1 ≤ 258 ∧ 1 ≤ t.2.2 ∧ t.2.2 ≤ 32768)

theorem fnd_okS {b : List Int} {p : Nat} {ts : List Lzz.Tok} (h : Lzz.Fnd b p ts) : ∀ t ∈ ts, okS t := by
  intro t ht
  obtain ⟨j, hj, e⟩ := List.mem_iff_getElem.1 ht
  have h1 := h.ok j hj
  have e' : ts.getD j Lzz.tz = t := by simp [List.getD, hj, e]
  rw [e'] at h1
  have hb := h.byt t ht
  rcases h1 with h1 | h1
  · exact .inl ⟨h1.1, h1.2, hb.1, hb.2⟩
  · obtain ⟨a1, a2, a3, a4, a5⟩ := h1
    exact .inr ⟨a1, a2, a3, a4, by omega⟩

/-- What the symbols make is what the tokens make. -/
theorem play_its (m : Nat) : ∀ {ts : List Lzz.Tok} {is : List It} (os : List Int), Its ts is → (∀ j, j < ts.length → Lzz.okT (os.length + Lzz.tot (ts.take j)) (ts.getD j Lzz.tz)) →
    (os.length + Lzz.tot ts ≤ m → play m is os = (0, ts.foldl Lzz.mk1 os)) ∧ (m < os.length + Lzz.tot ts → os.length ≤ m → ∃ x, play m is os = (5, x))
  | [], [], os, _, _ => ⟨fun _ => rfl, fun h h' => by simp [Lzz.tot] at h; omega⟩
  | t :: ts, i :: is, os, h, hok => by
    have h0 := hok 0 (by simp)
    simp only [List.take_zero, Lzz.tot_nil, Nat.add_zero, List.getD_cons_zero] at h0
    have hl := Lzz.mk1_len h0 os
    have htot : Lzz.tot (t :: ts) = Lzz.sz t + Lzz.tot ts := by simp [Lzz.tot]
    have ih := play_its m (ts := ts) (is := is) (Lzz.mk1 os t) h.2 (fun j hj => by
      have := hok (j + 1) (by simp; omega)
      rw [List.take_succ_cons, List.getD_cons_succ] at this
      have e : os.length + Lzz.tot (t :: ts.take j) = (Lzz.mk1 os t).length + Lzz.tot (ts.take j) := by
        rw [hl]
        simp [Lzz.tot]
        omega
      rw [e] at this
      exact this)
    rw [hl] at ih
    rw [htot, List.foldl_cons]
    have hi := h.1
    cases i with
    | lit b =>
      obtain ⟨hb, rfl⟩ := hi
      have hz : Lzz.sz ((b : Int), 0, 0) = 1 := Lzz.sz_L ⟨rfl, rfl⟩
      have hmk : Lzz.mk1 os ((b : Int), 0, 0) = os ++ [(b : Int)] := Lzz.mk1_L ⟨rfl, rfl⟩ os
      rw [hz] at ih ⊢
      rw [hmk] at ih ⊢
      simp only [play]
      by_cases hc : os.length < m
      · rw [if_pos hc]
        exact ⟨fun h => ih.1 (by omega), fun h h' => ih.2 (by omega) (by omega)⟩
      · rw [if_neg hc]
        exact ⟨fun h => by omega, fun _ _ => ⟨_, rfl⟩⟩
    | cpy s v d u =>
      obtain ⟨⟨h1, h2, h3, h4, h5⟩, rfl⟩ := hi
      have hlb := lb_le s (by omega) h1
      have hdb := db_le d h4
      have hnl : ¬ Lzz.isL (0, ((lb s + v : Nat) : Int), ((db d + u : Nat) : Int)) := fun hh => by have := hh.1; simp only at this; omega
      have hc : Lzz.isC (0, ((lb s + v : Nat) : Int), ((db d + u : Nat) : Int)) (min os.length 32768) := by
        rcases h0 with h0 | h0
        · exact absurd h0 hnl
        · exact h0
      have hz0 := Lzz.sz_C hc
      have hz : Lzz.sz (0, ((lb s + v : Nat) : Int), ((db d + u : Nat) : Int)) = lb s + v := by
        simp only at hz0
        omega
      have hdl : db d + u ≤ os.length := by
        have := hc.2.2.2.2
        simp only at this
        omega
      have hmk := Lzz.mk1_C hnl os
      have e1 : ((lb s + v : Nat) : Int).toNat = lb s + v := Int.toNat_natCast _
      have e2 : ((db d + u : Nat) : Int).toNat = db d + u := Int.toNat_natCast _
      simp only [e1, e2] at hmk
      have ec : ∀ k e (l : List Int), Lzz.cps k e l = cps k e l := by
        intro k e l
        induction k with
        | zero => rfl
        | succ k ih => simp only [Lzz.cps, cps, ih]
      rw [ec] at hmk
      rw [hz] at ih ⊢
      rw [hmk] at ih ⊢
      simp only [play]
      rw [if_neg (by omega)]
      by_cases hc' : os.length + (lb s + v) ≤ m
      · rw [if_pos hc']
        exact ⟨fun h => ih.1 (by omega), fun h h' => ih.2 (by omega) (by omega)⟩
      · rw [if_neg hc']
        exact ⟨fun h => by omega, fun _ _ => ⟨_, rfl⟩⟩

/-- What is found makes the bytes again. -/
theorem play_fnd {b : List Int} {ts : List Lzz.Tok} {is : List It} (h : Lzz.Fnd b b.length ts) (hi : Its ts is) (m : Nat) : (b.length ≤ m → play m is [] = (0, b)) ∧ (m < b.length → ∃ x, play m is [] = (5, x)) := by
  have hp := play_its m [] hi (fun j hj => by simpa using h.ok j hj)
  have ho : ts.foldl Lzz.mk1 [] = b := by
    have := h.out
    rw [List.take_length] at this
    exact this
  rw [ho] at hp
  have ht := h.all
  simp only [List.length_nil, Nat.zero_add] at hp
  exact ⟨fun hm => hp.1 (by omega), fun hm => hp.2 (by omega) (by omega)⟩

end Go.Proofs.YtiahbicodlgmhaaGreatDoor.Z
