/- The sort's interface value; the order. -/
import Derived.Test.YtmjcikomcnokkaaDoorRow
import Derived.Sort.AssemblyPlain
import Derived.Deep.LoopGhost
namespace Go.Proofs.YtmjcikomcnokkaaDoor
open Go.RowKit

/-- The row, as sort.Interface. -/
abbrev sl (b n c : Nat) : Value := .slice (some ⟨b, 0, none⟩) n c

abbrev iv (b n c : Nat) : Value := .iface 62 (sl b n c)

theorem mLen (b n c : Nat) (w : World) : (method 239 62 (sl b n c) "Len").run Tryd.prog w = .ok (101, sl b n c) w := by kernel_rfl
theorem mLess (b n c : Nat) (w : World) : (method 239 62 (sl b n c) "Less").run Tryd.prog w = .ok (102, sl b n c) w := by kernel_rfl
theorem mSwap (b n c : Nat) (w : World) : (method 239 62 (sl b n c) "Swap").run Tryd.prog w = .ok (103, sl b n c) w := by kernel_rfl

/-- From the names d in w to the names d' in w'. -/
structure To (b N : Nat) (w : World) (d' : Array (List Int)) (w' : World) : Prop where
  rw : Rw w' b N d'
  fr : Fr (fun k => k = b) w w'

theorem To.refl {b N : Nat} {w : World} {d : Array (List Int)} (h : Rw w b N d) : To b N w d w := ⟨h, Fr.refl _ _⟩

theorem To.then {b N : Nat} {w w' w'' : World} {d' d'' : Array (List Int)} (h : To b N w d' w') (g : To b N w' d'' w'') : To b N w d'' w'' := ⟨g.rw, h.fr.trans g.fr (fun _ _ e => e)⟩

theorem To.keep {b N : Nat} {w w' w'' : World} {d' : Array (List Int)} (h : To b N w d' w') (g : Below w'.heap.size w' w'') : To b N w d' w'' := ⟨h.rw.keep g, h.fr.trans (P' := fun _ => False) (Fr.ofBelow g) (fun _ _ e => e.elim)⟩

theorem To.less {b N : Nat} {w w' : World} {d' : Array (List Int)} (h : To b N w d' w') (c i j : Nat) (hi : i < d'.size) (hj : j < d'.size) :
    Calls Tryd.prog 102 #[sl b d'.size c, .int .i64 i, .int .i64 j] w' fun e w'' => e = .returned (.bool (ltl d'[i]! d'[j]!)) ∧ To b N w d' w'' :=
  (rless_any b N c d' w' h.rw i j hi hj).mono fun _ _ ⟨h1, h2⟩ => ⟨h1, h.keep h2⟩

theorem To.swap {b N : Nat} {w w' : World} {d' : Array (List Int)} (h : To b N w d' w') (c i j : Nat) (hi : i < d'.size) (hj : j < d'.size) :
    Calls Tryd.prog 103 #[sl b d'.size c, .int .i64 i, .int .i64 j] w' fun e w'' => e = .returned (.tuple #[]) ∧ To b N w (Sort.swp d' i j) w'' :=
  (swap_any b N c d' w' h.rw i j hi hj).mono fun _ _ ⟨h1, h2, h3⟩ => ⟨h1, h.then ⟨h2, h3⟩⟩

theorem To.drew {b N : Nat} {w w' : World} {d' : Array (List Int)} (h : To b N w d' w') : To b N w d' w'.drew := ⟨h.rw.drew, h.fr.drew⟩

theorem ltl_swo : Sort.SWO ltl where
  irrefl := ltl_irr
  trans := ltl_trans
  ntrans := by
    intro x y z h g
    cases hxz : ltl x z with
    | false => rfl
    | true =>
      cases hyx : ltl y x with
      | true => rw [ltl_trans y x z hyx hxz] at g; cases g
      | false =>
        have := ltl_total x y h hyx
        subst this
        rw [hxz] at g
        cases g

section
variable (lt : List Int → List Int → Bool)

theorem ii_go (a j : Nat) (d : Array (List Int)) (hj : a < j) (hl : lt d[j]! d[j - 1]! = true) : Sort.insInner lt a j d = Sort.insInner lt a (j - 1) (Sort.swp d j (j - 1)) := by
  cases j with
  | zero => omega
  | succ j =>
    simp only [Nat.add_sub_cancel] at hl ⊢
    rw [Sort.insInner, if_pos (by simp [hl]; omega)]

theorem ii_stop (a j : Nat) (d : Array (List Int)) (h : j ≤ a ∨ lt d[j]! d[j - 1]! = false) : Sort.insInner lt a j d = d := by
  cases j with
  | zero => rfl
  | succ j =>
    rw [Sort.insInner, if_neg]
    simp only [Nat.add_sub_cancel] at h
    intro hh
    simp only [gt_iff_lt, Bool.and_eq_true, decide_eq_true_eq] at hh
    rcases h with h | h
    · omega
    · rw [h] at hh; cases hh.2

theorem io_go (a b i : Nat) (d : Array (List Int)) (h : i < b) : Sort.insOuter lt a b i d = Sort.insOuter lt a b (i + 1) (Sort.insInner lt a i d) := by rw [Sort.insOuter, if_pos h]

theorem io_stop (a b i : Nat) (d : Array (List Int)) (h : ¬ i < b) : Sort.insOuter lt a b i d = d := by rw [Sort.insOuter, if_neg h]

end

set_option maxHeartbeats 2000000 in
set_option maxRecDepth 100000 in
theorem ins_any (b N c a e : Nat) (d : Array (List Int)) (w : World) (h : Rw w b N d) (hae : a ≤ e) (he : e ≤ d.size) (hsz : d.size < 1000000) :
    Calls Tryd.prog 64 #[iv b d.size c, .int .i64 a, .int .i64 e] w fun ee w' => ee = .returned (.tuple #[]) ∧ To b N w (Sort.insertionSort ltl d a e) w' := by
  have m1 := mLess b d.size c
  have m2 := mSwap b d.size c
  obtain ⟨n, hn⟩ : ∃ n, d.size = n := ⟨_, rfl⟩
  have HH : Hid (To b N w d w) := To.refl h
  have HN : Hid (d.size = n) := hn
  rw [hn] at m1 m2 he hsz ⊢
  clear h hn
  go_enter Tryd.func64, Tryd.ntmps64
  go_wp2
  go_loopw [6] (fun vi wr => ∃ (i : Nat) (dk : Array (List Int)), vi = .int .i64 i ∧ a < i ∧ i ≤ e + 1 ∧ Hid (dk.size = n) ∧ Hid (To b N w dk wr) ∧
      Hid (Sort.insOuter ltl a e i dk = Sort.insOuter ltl a e (a + 1) d)) (fun vi _ => e + 1 - (intOf vi).toNat)
  case atStart => exact ⟨a + 1, d, by go_num, by omega, by omega, HN, HH, rfl⟩
  case round =>
    obtain ⟨i, dk, rfl, hai, hib, hsk, hT, HO⟩ := hrel
    clear HH HN
    by_cases hlt : i < e
    · go_wp2
      · go_loopw [7] (fun vj wr2 => ∃ (j : Nat) (dj : Array (List Int)), vj = .int .i64 j ∧ a ≤ j ∧ j ≤ i ∧ Hid (dj.size = n) ∧ Hid (To b N w dj wr2) ∧
            Hid (Sort.insInner ltl a j dj = Sort.insInner ltl a i dk)) (fun vj _ => (intOf vj).toNat)
        case atStart => exact ⟨i, dk, rfl, by omega, Nat.le_refl _, hsk, hT, rfl⟩
        case round =>
          obtain ⟨j, dj, rfl, haj, hji, hsj, hTj, HI⟩ := hrel
          clear hT
          have OUT : Hid ((j ≤ a ∨ ltl dj[j]! dj[j - 1]! = false) → Sort.insOuter ltl a e (i + 1) dj = Sort.insOuter ltl a e (a + 1) d) := fun hs => by
            rw [← HO.out, io_go _ _ _ _ _ hlt, ← HI.out, ii_stop _ _ _ _ hs]
          by_cases hja : a < j
          · have hl := hTj.out.less c j (j - 1) (by rw [hsj.out]; omega) (by rw [hsj.out]; omega)
            rw [hsj.out, show (((j - 1 : Nat) : Int)) = (j : Int) - 1 by omega] at hl
            cases hlv : ltl dj[j]! dj[j - 1]! with
            | true =>
              rw [hlv] at hl
              have hsw := fun W (hW : To b N w dj W) => hW.swap c j (j - 1) (by rw [hsj.out]; omega) (by rw [hsj.out]; omega)
              rw [hsj.out, show (((j - 1 : Nat) : Int)) = (j : Int) - 1 by omega] at hsw
              have HI2 : Hid (Sort.insInner ltl a (j - 1) (Sort.swp dj j (j - 1)) = Sort.insInner ltl a i dk) := by rw [← HI.out, ii_go ltl a j dj hja hlv]; exact rfl
              have HS2 : Hid ((Sort.swp dj j (j - 1)).size = n) := by rw [swp_size]; exact hsj
              generalize Sort.swp dj j (j - 1) = d2 at *
              clear hlv OUT HI hTj
              go_wp2_with (first
                | (go_at_call 102; refine hl.mono ?_; rintro ee w2 ⟨rfl, hT2⟩; have HT2 : Hid (To b N w dj w2) := hT2; clear hT2)
                | (go_at_call 103; refine (hsw _ HT2.out).mono ?_; rintro ee w3 ⟨rfl, hT3⟩; have HT3 : Hid (To b N w d2 w3) := hT3; clear hT3))
              go_roundw
              case rel => exact ⟨j - 1, d2, by congr 1 <;> omega, by omega, by omega, HS2, HT3, HI2⟩
              case measure => simp [intOf]; omega
            | false =>
              rw [hlv] at hl
              have O2 : Hid (Sort.insOuter ltl a e (i + 1) dj = Sort.insOuter ltl a e (a + 1) d) := OUT.out (Or.inr hlv)
              clear hlv OUT HI hTj
              go_wp2_with (first
                | (go_at_call 102; refine hl.mono ?_; rintro ee w2 ⟨rfl, hT2⟩; have HT2 : Hid (To b N w dj w2) := hT2; clear hT2))
              go_roundw
              case rel => exact ⟨i + 1, dj, by go_num, by omega, by omega, hsj, HT2, O2⟩
              case measure => simp [intOf]; omega
          · have O2 : Hid (Sort.insOuter ltl a e (i + 1) dj = Sort.insOuter ltl a e (a + 1) d) := OUT.out (Or.inl (by omega))
            clear OUT HI
            go_wp2
            go_roundw
            case rel => exact ⟨i + 1, dj, by go_num, by omega, by omega, hsj, hTj, O2⟩
            case measure => simp [intOf]; omega
    · have E2 : Hid (Sort.insertionSort ltl d a e = dk) := by
        unfold Sort.insertionSort
        rw [← HO.out, io_stop _ _ _ _ _ hlt]
        exact rfl
      clear HO
      go_wp2
      go_end0
      exact ⟨rfl, by rw [E2.out]; exact hT.out⟩

end Go.Proofs.YtmjcikomcnokkaaDoor
