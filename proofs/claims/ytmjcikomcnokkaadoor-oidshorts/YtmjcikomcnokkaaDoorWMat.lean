/- oid.Match. -/
import Derived.Test.YtmjcikomcnokkaaDoorWSho
namespace Go.Proofs.YtmjcikomcnokkaaDoor
open Go.RowKit

theorem first_lo (B : Nat) (v : Value) (r : Array (List Int)) (z : List Int) (w : World) (h : Nw B w v r) (hu : Up r) (hz : IsId z) (hsz : r.size < 100000) :
    Calls Tryd.prog 32 #[v, .func (.func 33) #[] #[], idv z] w fun e w' => ∃ k, e = .returned (.int .i64 (k : Nat)) ∧ Fst r.size (fun i : Nat => !ltl r[i]! z) k ∧ Below w.heap.size w w' := by
  rcases h with ⟨h0, ao, c, rfl⟩ | ⟨h0, b, c, rfl, _, _, hr⟩
  · refine (first_nil33 ao c z w).mono ?_
    rintro e w' ⟨rfl, hb⟩
    exact ⟨0, rfl, ⟨by omega, fun q hq => by omega, fun q _ hq => by omega⟩, hb⟩
  · exact first33 b _ c r.size r z w hr rfl hz hsz (up_mono rfl hu z)

theorem first_hi (B : Nat) (v : Value) (r : Array (List Int)) (z : List Int) (w : World) (h : Nw B w v r) (hu : Up r) (hz : IsId z) (hsz : r.size < 100000) :
    Calls Tryd.prog 32 #[v, .func (.func 38) #[] #[], idv z] w fun e w' => ∃ k, e = .returned (.int .i64 (k : Nat)) ∧ Fst r.size (fun i : Nat => ltl z r[i]!) k ∧ Below w.heap.size w w' := by
  rcases h with ⟨h0, ao, c, rfl⟩ | ⟨h0, b, c, rfl, _, _, hr⟩
  · refine (first_nil38 ao c z w).mono ?_
    rintro e w' ⟨rfl, hb⟩
    exact ⟨0, rfl, ⟨by omega, fun q hq => by omega, fun q _ hq => by omega⟩, hb⟩
  · exact first38 b _ c r.size r z w hr rfl hz hsz (up_mono2 rfl hu z)

theorem Nw.ids {B : Nat} {w : World} {v : Value} {r : Array (List Int)} (h : Nw B w v r) : ∀ i, i < r.size → IsId r[i]! := by
  rcases h with ⟨h0, _⟩ | ⟨h0, b, c, rfl, _, _, hr⟩
  · exact fun i hi => by omega
  · exact hr.ids

set_option maxRecDepth 100000 in
set_option maxHeartbeats 4000000 in
theorem match_yes (B : Nat) (v : Value) (r : Array (List Int)) (s : ByteArray) (w : World) (h : Nw B w v r) (hu : Up r) (hsz : r.size < 100000) (h4 : 4 ≤ s.size) (h40 : s.size ≤ 40) (hS : ∀ c ∈ ns s, isS c) :
    Calls Tryd.prog 24 #[v, .string s] w fun e w' => ∃ x ee, e = .returned (.tuple #[idv x, .int .i64 ee]) ∧ Mt r (ns s) x ee ∧ Below w.heap.size w w' := by
  have r1 := z_row w 23
  have HB : Hid (Below w.heap.size w (w.alloc (Obj.cells zcs 23))) := new_below _ _
  have has := allSigns_any s (w.alloc (Obj.cells zcs 23)) (by omega)
  rw [decide_eq_true hS] at has
  have hpl := fun W => padded_any s 48 W h40 hS (by unfold isS; omega)
  have hph := fun W => padded_any s 102 W h40 hS (by unfold isS; omega)
  have hi0 := fun W => sgs_at .i64 0 (by omega) (by omega) W
  rw [show sg 0 = 48 from rfl] at hi0
  have hi1 := fun W => sgs_at .i64 15 (by omega) (by omega) W
  rw [show sg 15 = 102 from rfl] at hi1
  have hlen : (ns s).length ≤ 40 := by rw [ns_len]; exact h40
  have hidl : IsId (pr (full (ns s) 48)) := pr_id _ (full_len _ _ hlen) (full_isS _ _ hS (by decide))
  have hidh : IsId (pr (full (ns s) 102)) := pr_id _ (full_len _ _ hlen) (full_isS _ _ hS (by decide))
  have HFl : Hid (∀ W, Below w.heap.size w W → Calls Tryd.prog 32 #[v, .func (.func 33) #[] #[], idv (pr (full (ns s) 48))] W fun e w' => ∃ k, e = .returned (.int .i64 (k : Nat)) ∧ Fst r.size (fun i : Nat => !ltl r[i]! (pr (full (ns s) 48))) k ∧ Below W.heap.size W w') := fun W hW => first_lo B v r _ W (h.keep hW) hu hidl hsz
  have HFh : Hid (∀ W, Below w.heap.size w W → Calls Tryd.prog 32 #[v, .func (.func 38) #[] #[], idv (pr (full (ns s) 102))] W fun e w' => ∃ k, e = .returned (.int .i64 (k : Nat)) ∧ Fst r.size (fun i : Nat => ltl (pr (full (ns s) 102)) r[i]!) k ∧ Below W.heap.size W w') := fun W hW => first_hi B v r _ W (h.keep hW) hu hidh hsz
  have HIv : Hid (∀ a b, Fst r.size (fun i : Nat => !ltl r[i]! (pr (full (ns s) 48))) a → Fst r.size (fun i : Nat => ltl (pr (full (ns s) 102)) r[i]!) b → Iv r (ns s) a b) := fun a b ha hb => iv_of hlen hS h.ids ha hb
  have HN : Hid (Nw B w v r) := h
  have q4 : decide ((s.size : Int) < 4) = false := by simp; omega
  have q40 : decide ((40 : Int) < (s.size : Int)) = false := by simp; omega
  have q4' : ¬ s.size < 4 := by omega
  have q40' : ¬ 40 < s.size := by omega
  have HZ : Hid (r.size < 100000) := hsz
  generalize pr (full (ns s) 48) = lo at *
  generalize pr (full (ns s) 102) = hi at *
  generalize ns s = p at *
  clear h hu hsz h4 h40 hlen hidl hidh
  go_enter Tryd.func24, Tryd.ntmps24
  go_wp2_with (first
    | (go_at_call 26; refine has.mono ?_; rintro e w1 ⟨rfl, b1⟩; have q1 := rowIs_fr r1 (Fr.ofBelow (P := fun _ => False) b1) (fun h => h); have B1 : Hid (Below w.heap.size w w1) := HB.out.trans (b1.mono (by simp)); clear b1 r1 has)
    | (go_at_call 27; refine (hpl _).mono ?_; rintro e w2 ⟨rfl, b2⟩; have q2 := rowIs_fr q1 (Fr.ofBelow (P := fun _ => False) b2) (fun h => h); have B2 : Hid (Below w.heap.size w w2) := B1.out.trans (b2.mono B1.out.size); have hf := HFl.out w2 B2.out; clear b2 q1 hpl))
  refine hf.mono ?_
  rintro e w3 ⟨a, rfl, ha, b3⟩
  have q3 := rowIs_fr q2 (Fr.ofBelow (P := fun _ => False) b3) (fun h => h)
  have B3 : Hid (Below w.heap.size w w3) := B2.out.trans (b3.mono B2.out.size)
  have HA : Hid _ := ha
  clear hf ha b3 q2
  go_wp2_with (go_at_call 27; refine (hph _).mono ?_; rintro e w4 ⟨rfl, b4⟩; have q4 := rowIs_fr q3 (Fr.ofBelow (P := fun _ => False) b4) (fun h => h); have B4 : Hid (Below w.heap.size w w4) := B3.out.trans (b4.mono B3.out.size); have hf := HFh.out w4 B4.out; clear b4 q3 hph)
  refine hf.mono ?_
  rintro e w5 ⟨b, rfl, hb, b5⟩
  have q5 := rowIs_fr q4 (Fr.ofBelow (P := fun _ => False) b5) (fun h => h)
  have B5 : Hid (Below w.heap.size w w5) := B4.out.trans (b5.mono B4.out.size)
  have iv := HIv.out a b HA.out hb
  have Hiv : Hid (Iv r p a b) := iv
  have hle := iv.le
  have hzz := HZ.out
  clear hf hb b5 HIv HFl HFh iv HA
  by_cases hab : b ≤ a
  · have g1 : decide ((b : Int) ≤ (a : Int)) = true := by simp; omega
    have g1' : (b : Int) ≤ (a : Int) := by omega
    have HM : Hid (Mt r p z20 6) := mt_none Hiv.out hab
    clear hab
    go_wp2_with (refine wpList_st rfl 23 _ _ rfl w.heap.size rfl (cl z20) rfl q5 size23 (fun j => rfl) ?_; intro w6 h6 f6; clear q5)
    refine bodyPost_ret (results_two rfl _ rfl h6 Tryd.underlying23 rfl size23) rfl ⟨z20, 6, rfl, HM.out, ?_⟩
    exact st_below B5.out f6
  · have g1 : decide ((b : Int) ≤ (a : Int)) = false := by simp; omega
    have g1' : ¬ (b : Int) ≤ (a : Int) := by omega
    have hwa : IntKind.i64.wrap ((a : Int) + 1) = (a : Int) + 1 := by rw [IntKind.wrap_i64]; omega
    by_cases hab2 : a + 1 < b
    · have g2 : decide ((a : Int) + 1 < (b : Int)) = true := by simp; omega
      have g2' : (a : Int) + 1 < (b : Int) := by omega
      have HM : Hid (Mt r p z20 9) := mt_many Hiv.out hab2
      clear hab hab2
      go_wp2_with (refine wpList_st rfl 23 _ _ rfl w.heap.size rfl (cl z20) rfl q5 size23 (fun j => rfl) ?_; intro w6 h6 f6; clear q5)
      refine bodyPost_ret (results_two rfl _ rfl h6 Tryd.underlying23 rfl size23) rfl ⟨z20, 9, rfl, HM.out, ?_⟩
      exact st_below B5.out f6
    · have g2 : decide ((a : Int) + 1 < (b : Int)) = false := by simp; omega
      have g2' : ¬ (a : Int) + 1 < (b : Int) := by omega
      have HM : Hid (Mt r p r[a]! 0) := mt_one Hiv.out (by omega)
      have han : a < r.size := by omega
      rcases HN.out with ⟨h0, _⟩ | ⟨h0, bb, c, hv, _, _, hr⟩
      · omega
      · subst hv
        have hld := (hr.keep B5.out).load a han
        have hai : (a : Int) < (r.size : Int) := by omega
        generalize r[a]! = x at hld HM
        have HM' : Hid (Mt r p x 0) := HM
        generalize r.size = n at *
        clear hab hab2 hr h0 HM Hiv hle hzz HN HZ
        go_wp2_with (first
          | (refine wpList_ldv rfl 23 _ rfl ⟨bb, a * 20, none⟩ rfl (idv x) hld ?_; clear hld)
          | (refine wpList_st rfl 23 _ _ rfl w.heap.size rfl (cl x) rfl q5 size23 (fun j => rfl) ?_; intro w6 h6 f6; clear q5))
        refine bodyPost_ret (results_two rfl _ rfl h6 Tryd.underlying23 rfl size23) rfl ⟨x, 0, rfl, HM'.out, ?_⟩
        exact st_below B5.out f6

end Go.Proofs.YtmjcikomcnokkaaDoor
