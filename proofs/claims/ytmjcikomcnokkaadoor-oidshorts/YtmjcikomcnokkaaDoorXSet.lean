/- Rows of names, rising: as sets. -/
import Derived.Test.YtmjcikomcnokkaaDoorXPut
import Derived.Test.YtmjcikomcnokkaaDoorNwU
namespace Go.Proofs.YtmjcikomcnokkaaDoor
open Go.RowKit

theorem list_uniq : ∀ (a b : List (List Int)), a.Pairwise (fun x y => ltl x y = true) → b.Pairwise (fun x y => ltl x y = true) → (∀ x, x ∈ a ↔ x ∈ b) → a = b
  | [], [], _, _, _ => rfl
  | [], y :: b, _, _, h => by have := (h y).2 (by simp); simp at this
  | x :: a, [], _, _, h => by have := (h x).1 (by simp); simp at this
  | x :: a, y :: b, ha, hb, h => by
    rw [List.pairwise_cons] at ha hb
    have e : x = y := by
      have h1 := (h x).1 (by simp)
      have h2 := (h y).2 (by simp)
      rcases List.mem_cons.1 h1 with e | h1
      · exact e
      · rcases List.mem_cons.1 h2 with e | h2
        · exact e.symm
        · have := ltl_asym _ _ (hb.1 x h1)
          rw [ha.1 y h2] at this
          cases this
    subst e
    congr 1
    refine list_uniq a b ha.2 hb.2 (fun z => ?_)
    constructor
    · intro hz
      rcases List.mem_cons.1 ((h z).1 (by simp [hz])) with e | e
      · subst e
        have := ha.1 z hz
        rw [ltl_irr] at this
        cases this
      · exact e
    · intro hz
      rcases List.mem_cons.1 ((h z).2 (by simp [hz])) with e | e
      · subst e
        have := hb.1 z hz
        rw [ltl_irr] at this
        cases this
      · exact e

theorem up_uniq {a b : Array (List Int)} (ha : Up a) (hb : Up b) (h : ∀ x, x ∈ a.toList ↔ x ∈ b.toList) : a = b := by
  have := list_uniq a.toList b.toList (up_list.1 ha) (up_list.1 hb) h
  exact Array.toList_inj.1 this

theorem ins_list (d : Array (List Int)) (k : Nat) (z : List Int) : (ins d k z).toList = d.toList.take k ++ z :: d.toList.drop k := by
  unfold ins fst snd
  simp
  rw [List.take_of_length_le (by simp)]

theorem ins_mem (d : Array (List Int)) (k : Nat) (z x : List Int) : x ∈ (ins d k z).toList ↔ x ∈ d.toList ∨ x = z := by
  rw [ins_list]
  have e : d.toList.take k ++ d.toList.drop k = d.toList := List.take_append_drop k _
  constructor
  · intro h
    rcases List.mem_append.1 h with h | h
    · exact .inl (List.mem_of_mem_take h)
    · rcases List.mem_cons.1 h with h | h
      · exact .inr h
      · exact .inl (List.mem_of_mem_drop h)
  · intro h
    rcases h with h | h
    · rw [← e] at h
      rcases List.mem_append.1 h with h | h
      · exact List.mem_append.2 (.inl h)
      · exact List.mem_append.2 (.inr (by simp [h]))
    · subst h
      simp

theorem mem_at {d : Array (List Int)} {x : List Int} (h : x ∈ d.toList) : ∃ i, i < d.size ∧ d[i]! = x := by
  obtain ⟨i, hi, e⟩ := List.mem_iff_getElem.1 h
  have hi' : i < d.size := by simpa using hi
  exact ⟨i, hi', by rw [getElem!_pos d i hi']; simpa using e⟩

theorem at_mem {d : Array (List Int)} (i : Nat) (hi : i < d.size) : d[i]! ∈ d.toList := by
  rw [getElem!_pos d i hi]
  exact Array.getElem_mem_toList ..

theorem ins_up {d : Array (List Int)} {k : Nat} {z : List Int} (hu : Up d) (hw : wh d z k) (hno : ∀ i, i < d.size → d[i]! ≠ z) : Up (ins d k z) := by
  rw [up_list, ins_list]
  have hp := up_list.1 hu
  have hlo : ∀ x ∈ d.toList.take k, ltl x z = true := by
    intro x hx
    obtain ⟨i, hi, e⟩ := List.mem_take_iff_getElem.1 hx
    have h1 : (!ltl d[i]! z) = false := hw.2.1 i (by omega)
    have hi' : i < d.size := by have : i < d.toList.length := by omega
                                simpa using this
    rw [getElem!_pos d i hi'] at h1
    have e' : d[i] = x := by simpa using e
    rw [e'] at h1
    simpa using h1
  have hhi : ∀ x ∈ d.toList.drop k, ltl z x = true := by
    intro x hx
    obtain ⟨i, hi, e⟩ := List.mem_drop_iff_getElem.1 hx
    have hi' : k + i < d.size := by have : i + k < d.size := by simpa using hi
                                    omega
    have h1 : (!ltl d[k + i]! z) = true := hw.2.2 (k + i) (by omega) hi'
    have h2 := hno (k + i) hi'
    rw [getElem!_pos d (k + i) hi'] at h1 h2
    have e' : d[k + i] = x := by simpa using e
    rw [e'] at h1 h2
    have h1' : ltl x z = false := by simpa using h1
    by_cases h3 : ltl z x = true
    · exact h3
    · exact absurd (ltl_total x z h1' (by simpa using h3)) h2
  have e : d.toList.take k ++ d.toList.drop k = d.toList := List.take_append_drop k _
  rw [← e] at hp
  rw [List.pairwise_append] at hp ⊢
  refine ⟨hp.1, List.pairwise_cons.2 ⟨hhi, hp.2.1⟩, fun x hx y hy => ?_⟩
  rcases List.mem_cons.1 hy with rfl | hy
  · exact hlo x hx
  · exact hp.2.2 x hx y hy

theorem ins_size (d : Array (List Int)) (k : Nat) (z : List Int) (hk : k ≤ d.size) : (ins d k z).size = d.size + 1 := by
  have : (ins d k z).toList.length = d.size + 1 := by
    rw [ins_list]
    simp
    omega
  simpa using this

set_option maxRecDepth 100000 in
set_option maxHeartbeats 2000000 in
theorem put_old (B : Nat) (v : Value) (d : Array (List Int)) (z : List Int) (w : World) (h : Dn B w v d) (hu : Up d) (hz : IsId z) (hsz : d.size < 90000) (hin : z ∈ d.toList) :
    Calls Tryd.prog 31 #[v, idv z] w fun e w' => e = .returned v ∧ Below w.heap.size w w' := by
  have HB0 : Hid (Below w.heap.size w (w.alloc (.cells (vals (cl z) 20).toArray 22))) := new_below _ _
  have hf := xfind_any B v d z (w.alloc (.cells (vals (cl z) 20).toArray 22)) (h.keep HB0.out) hu hz (by omega)
  have r0 := rowIs_vals w (cl z) 20 22
  have HF : Hid (∀ k, wh d z k → (decide (k < d.size) && decide (d[k]! = z)) = true) := fun k hk => by
    obtain ⟨i, hi, e⟩ := mem_at hin
    have h1 : k ≤ i := by
      by_cases h1 : i < k
      · have : (!ltl d[i]! z) = false := hk.2.1 i h1
        rw [e, ltl_irr] at this
        cases this
      · omega
    have h2 : i ≤ k := by
      by_cases h2 : k < i
      · have h3 := hu k i h2 hi
        have h4 : (!ltl d[k]! z) = true := hk.2.2 k (Nat.le_refl _) (by omega)
        rw [e] at h3
        rw [h3] at h4
        cases h4
      · omega
    obtain rfl : i = k := by omega
    rw [decide_eq_true hi, decide_eq_true e]
    rfl
  clear h hu hin
  go_enter Tryd.func31, Tryd.ntmps31
  go_wp2_with (refine wpList_ld0 rfl 22 _ rfl w.heap.size rfl _ r0 20 (by omega) Tryd.underlying22 rfl size22 ?_; clear r0)
  refine hf.mono ?_
  rintro e w1 ⟨k, rfl, hk, hB1⟩
  rw [HF.out k hk]
  clear hf hk
  go_wp2_with fail
  go_ret
  exact ⟨rfl, HB0.out.trans (hB1.mono HB0.out.size)⟩

/-- The document's Put. -/
theorem put_any (B : Nat) (v : Value) (d : Array (List Int)) (z : List Int) (w : World) (h : Dn B w v d) (hu : Up d) (hz : IsId z) (hsz : d.size < 90000) (hB : B ≤ w.heap.size) :
    Calls Tryd.prog 31 #[v, idv z] w fun e w' => ∃ v' d', e = .returned v' ∧ Dn B w' v' d' ∧ Up d' ∧ (∀ x, x ∈ d'.toList ↔ x ∈ d.toList ∨ x = z) ∧ d'.size ≤ d.size + 1 ∧ Below w.heap.size w w' := by
  by_cases hin : z ∈ d.toList
  · refine (put_old B v d z w h hu hz hsz hin).mono ?_
    rintro e w' ⟨rfl, hb⟩
    exact ⟨v, d, rfl, h.keep hb, hu, fun x => ⟨.inl, fun e => e.elim id fun e => e ▸ hin⟩, by omega, hb⟩
  · have hno : ∀ i, i < d.size → d[i]! ≠ z := fun i hi e => hin (e ▸ at_mem i hi)
    refine (put_new B v d z w h hu hz hsz hno).mono ?_
    rintro e w' ⟨v', k, rfl, hk, hD, hb⟩
    exact ⟨v', _, rfl, hD.weak hB, ins_up hu hk hno, ins_mem d k z, by rw [ins_size d k z hk.1]; omega, hb⟩

set_option maxRecDepth 100000 in
set_option maxHeartbeats 2000000 in
/-- The document's Sort. -/
theorem xsort_any (B : Nat) (v : Value) (d : Array (List Int)) (w : World) (h : Dn B w v d) (hsz : d.size < 80000) :
    Calls Tryd.prog 14 #[v] w fun e w' => ∃ v' r, e = .returned v' ∧ Dn w.heap.size w' v' r ∧ Up r ∧ (∀ x, x ∈ r.toList ↔ x ∈ d.toList) ∧ r.size ≤ d.size ∧ Below w.heap.size w w' := by
  obtain ⟨ao, c, rfl⟩ := h.shape
  have HP : Hid (0 < d.size → ∃ b, ao = some ⟨b, 0, none⟩ ∧ ∀ W, Below w.heap.size w W → ∀ i, i < d.size → (loadVar 22 ⟨b, i * 20, none⟩).run Tryd.prog W = .ok (idv d[i]!) W) := fun h0 => by
    obtain ⟨b, c', e, _, _, hr⟩ := h.row h0
    injection e with e1 e2 e3
    exact ⟨b, e1, fun W hW i hi => (hr.keep hW).load i hi⟩
  have HI : Hid (∀ i, i < d.size → IsId d[i]!) := h.ids
  obtain ⟨n, hn⟩ : ∃ n, d.size = n := ⟨_, rfl⟩
  have HN : Hid (d.size = n) := hn
  rw [hn] at HP HI hsz ⊢
  clear h hn
  go_enter Tryd.func14, Tryd.ntmps14
  go_wp2_with fail
  go_loopw [3, 4] (fun s3 s4 wr => ∃ (k : Nat) (r : Array (List Int)), s4 = .int .i64 k ∧ k ≤ n ∧ Hid (Dn w.heap.size wr s3 r) ∧ Hid (Up r) ∧ Hid (∀ x, x ∈ r.toList ↔ x ∈ (fst d k).toList) ∧ Hid (r.size ≤ k) ∧ Hid (Below w.heap.size w wr))
    (fun _ s4 _ => n - (intOf s4).toNat)
  case atStart => exact ⟨0, #[], rfl, Nat.zero_le _, dn_nil _ _, fun i j _ hj => by simp at hj, fun x => by simp [fst], Nat.le_refl _, Below.refl _ _⟩
  case round =>
    obtain ⟨k, r, rfl, hkn, HD, HU, HM, HR, HB⟩ := hrel
    by_cases hlt : k < n
    · have hq : (k : Int) < (n : Int) := by omega
      obtain ⟨b, rfl, hld⟩ := HP.out (by omega)
      have hld' := hld wr HB.out k hlt
      have hp := put_any w.heap.size u3 r d[k]! wr HD.out HU.out (HI.out k hlt) (by have := HR.out; omega) HB.out.size
      have hps := fst_push d k (by rw [HN.out]; exact hlt)
      have hwk : IntKind.i64.wrap ((k : Int) + 1) = (k : Int) + 1 := by rw [IntKind.wrap_i64]; omega
      obtain ⟨x, hx⟩ : ∃ x, d[k]! = x := ⟨_, rfl⟩
      rw [hx] at hld' hp hps
      have HS : Hid ((fst d k).push x = fst d (k + 1)) := hps
      have HLT : Hid (k < n) := hlt
      clear hld hx hps hkn
      go_wp2_with (first
        | (refine wpList_ldv rfl 22 _ rfl ⟨b, k * 20, none⟩ rfl (idv x) hld' ?_; clear hld')
        | (go_at_call 31; refine hp.mono ?_; rintro e w1 ⟨v1, r1, rfl, D1, U1, M1, S1, b1⟩; have D1' : Hid _ := D1; have U1' : Hid _ := U1; have M1' : Hid _ := M1; have S1' : Hid _ := S1; have b1' : Hid _ := b1; clear D1 U1 M1 S1 b1 hp))
      have hs1 : r1.size ≤ k + 1 := Nat.le_trans S1'.out (Nat.succ_le_succ HR.out)
      refine ⟨⟨k + 1, r1, by simp, HLT.out, D1', U1', ?_, hs1, HB.out.trans (b1'.out.mono HB.out.size)⟩, by simp [intOf]; have := HLT.out; omega⟩
      intro y
      rw [M1'.out y, HM.out y, ← HS.out, Array.toList_push]
      simp
    · obtain rfl : k = n := by omega
      have hq : ¬ (k : Int) < (k : Int) := by omega
      have HF : Hid (fst d k = d) := by unfold fst; rw [← HN.out]; simp [Hid]
      clear HP
      go_wp2_with fail
      go_ret
      exact ⟨_, rfl, r, HD.out, HU.out, (fun x => by have := HM.out x; rw [HF.out] at this; simpa using this), HR.out, HB.out⟩

end Go.Proofs.YtmjcikomcnokkaaDoor
