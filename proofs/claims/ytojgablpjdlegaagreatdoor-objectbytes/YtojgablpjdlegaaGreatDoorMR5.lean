/- XSet, Rtj, Red, Ree. -/
import Derived.Test.YtojgablpjdlegaaGreatDoorM12
import Derived.Test.YtojgablpjdlegaaGreatDoorM19
import Derived.Test.YtojgablpjdlegaaGreatDoorMT00
import Derived.Test.YtojgablpjdlegaaGreatDoorMC10
import Derived.Test.YtojgablpjdlegaaGreatDoorMR4
import Derived.Test.YtojgablpjdlegaaGreatDoorMR3
/- Rows of names, rising: as sets. -/
namespace Go.Proofs.YtojgablpjdlegaaGreatDoor
open Go.RowKit

theorem list_uniq : ∀ (a b : List (List Int)), a.Pairwise (fun x y => ltl x y = true) → b.Pairwise (fun x y => ltl x y = true) → (∀ x, x ∈ a ↔ x ∈ b) → a = b
  | [], [], _, _, _ => rfl
  | [], y :: b, _, _, h => by have := (h y).2 (by simp); simp at this
  | x :: a, [], _, _, h => by have := (h x).1 (by simp); simp at this
  | x :: a, y :: b, ha, hb, h => by
    rw [List.pairwise_cons] at ha hb
    have e : x = y := by
      have h1 := (h x).1 (by simp)
      have h2 := (h y).2 (by simp)
      rcases List.mem_cons.1 h1 with e | h1
      · exact e
      · rcases List.mem_cons.1 h2 with e | h2
        · exact e.symm
        · have := ltl_asym _ _ (hb.1 x h1)
          rw [ha.1 y h2] at this
          cases this
    subst e
    congr 1
    refine list_uniq a b ha.2 hb.2 (fun z => ?_)
    constructor
    · intro hz
      rcases List.mem_cons.1 ((h z).1 (by simp [hz])) with e | e
      · subst e
        have := ha.1 z hz
        rw [ltl_irr] at this
        cases this
      · exact e
    · intro hz
      rcases List.mem_cons.1 ((h z).2 (by simp [hz])) with e | e
      · subst e
        have := hb.1 z hz
        rw [ltl_irr] at this
        cases this
      · exact e

theorem up_uniq {a b : Array (List Int)} (ha : Up a) (hb : Up b) (h : ∀ x, x ∈ a.toList ↔ x ∈ b.toList) : a = b := by
  have := list_uniq a.toList b.toList (up_list.1 ha) (up_list.1 hb) h
  exact Array.toList_inj.1 this

theorem ins_list (d : Array (List Int)) (k : Nat) (z : List Int) : (ins d k z).toList = d.toList.take k ++ z :: d.toList.drop k := by
  unfold ins fst snd
  simp
  rw [List.take_of_length_le (by simp)]

theorem ins_mem (d : Array (List Int)) (k : Nat) (z x : List Int) : x ∈ (ins d k z).toList ↔ x ∈ d.toList ∨ x = z := by
  rw [ins_list]
  have e : d.toList.take k ++ d.toList.drop k = d.toList := List.take_append_drop k _
  constructor
  · intro h
    rcases List.mem_append.1 h with h | h
    · exact .inl (List.mem_of_mem_take h)
    · rcases List.mem_cons.1 h with h | h
      · exact .inr h
      · exact .inl (List.mem_of_mem_drop h)
  · intro h
    rcases h with h | h
    · rw [← e] at h
      rcases List.mem_append.1 h with h | h
      · exact List.mem_append.2 (.inl h)
      · exact List.mem_append.2 (.inr (by simp [h]))
    · subst h
      simp

theorem mem_at {d : Array (List Int)} {x : List Int} (h : x ∈ d.toList) : ∃ i, i < d.size ∧ d[i]! = x := by
  obtain ⟨i, hi, e⟩ := List.mem_iff_getElem.1 h
  have hi' : i < d.size := by simpa using hi
  exact ⟨i, hi', by rw [getElem!_pos d i hi']; simpa using e⟩

theorem at_mem {d : Array (List Int)} (i : Nat) (hi : i < d.size) : d[i]! ∈ d.toList := by
  rw [getElem!_pos d i hi]
  exact Array.getElem_mem_toList ..

theorem ins_up {d : Array (List Int)} {k : Nat} {z : List Int} (hu : Up d) (hw : wh d z k) (hno : ∀ i, i < d.size → d[i]! ≠ z) : Up (ins d k z) := by
  rw [up_list, ins_list]
  have hp := up_list.1 hu
  have hlo : ∀ x ∈ d.toList.take k, ltl x z = true := by
    intro x hx
    obtain ⟨i, hi, e⟩ := List.mem_take_iff_getElem.1 hx
    have h1 : (!ltl d[i]! z) = false := hw.2.1 i (by omega)
    have hi' : i < d.size := by have : i < d.toList.length := by omega
                                simpa using this
    rw [getElem!_pos d i hi'] at h1
    have e' : d[i] = x := by simpa using e
    rw [e'] at h1
    simpa using h1
  have hhi : ∀ x ∈ d.toList.drop k, ltl z x = true := by
    intro x hx
    obtain ⟨i, hi, e⟩ := List.mem_drop_iff_getElem.1 hx
    have hi' : k + i < d.size := by have : i + k < d.size := by simpa using hi
                                    omega
    have h1 : (!ltl d[k + i]! z) = true := hw.2.2 (k + i) (by omega) hi'
    have h2 := hno (k + i) hi'
    rw [getElem!_pos d (k + i) hi'] at h1 h2
    have e' : d[k + i] = x := by simpa using e
    rw [e'] at h1 h2
    have h1' : ltl x z = false := by simpa using h1
    by_cases h3 : ltl z x = true
    · exact h3
    · exact absurd (ltl_total x z h1' (by simpa using h3)) h2
  have e : d.toList.take k ++ d.toList.drop k = d.toList := List.take_append_drop k _
  rw [← e] at hp
  rw [List.pairwise_append] at hp ⊢
  refine ⟨hp.1, List.pairwise_cons.2 ⟨hhi, hp.2.1⟩, fun x hx y hy => ?_⟩
  rcases List.mem_cons.1 hy with rfl | hy
  · exact hlo x hx
  · exact hp.2.2 x hx y hy

theorem ins_size (d : Array (List Int)) (k : Nat) (z : List Int) (hk : k ≤ d.size) : (ins d k z).size = d.size + 1 := by
  have : (ins d k z).toList.length = d.size + 1 := by
    rw [ins_list]
    simp
    omega
  simpa using this

set_option maxRecDepth 100000 in
set_option maxHeartbeats 2000000 in
theorem put_old (B : Nat) (v : Value) (d : Array (List Int)) (z : List Int) (w : World) (h : Dn B w v d) (hu : Up d) (hz : IsId z) (hsz : d.size < 90000) (hin : z ∈ d.toList) :
    Calls Tryz.prog 62 #[v, idv z] w fun e w' => e = .returned v ∧ Below w.heap.size w w' := by
  have HB0 : Hid (Below w.heap.size w (w.alloc (.cells (vals (cl z) 20).toArray 26))) := new_below _ _
  have hf := xfind_any B v d z (w.alloc (.cells (vals (cl z) 20).toArray 26)) (h.keep HB0.out) hu hz (by omega)
  have r0 := rowIs_vals w (cl z) 20 26
  have HF : Hid (∀ k, wh d z k → (decide (k < d.size) && decide (d[k]! = z)) = true) := fun k hk => by
    obtain ⟨i, hi, e⟩ := mem_at hin
    have h1 : k ≤ i := by
      by_cases h1 : i < k
      · have : (!ltl d[i]! z) = false := hk.2.1 i h1
        rw [e, ltl_irr] at this
        cases this
      · omega
    have h2 : i ≤ k := by
      by_cases h2 : k < i
      · have h3 := hu k i h2 hi
        have h4 : (!ltl d[k]! z) = true := hk.2.2 k (Nat.le_refl _) (by omega)
        rw [e] at h3
        rw [h3] at h4
        cases h4
      · omega
    obtain rfl : i = k := by omega
    rw [decide_eq_true hi, decide_eq_true e]
    rfl
  clear h hu hin
  go_enter Tryz.func62, Tryz.ntmps62
  go_wp2_with (refine wpList_ld0 rfl 26 _ rfl w.heap.size rfl _ r0 20 (by omega) Tryz.underlying26 rfl size22 ?_; clear r0)
  refine hf.mono ?_
  rintro e w1 ⟨k, rfl, hk, hB1⟩
  rw [HF.out k hk]
  clear hf hk
  go_wp2_with fail
  go_ret
  exact ⟨rfl, HB0.out.trans (hB1.mono HB0.out.size)⟩

/-- The document's Put. -/
theorem put_any (B : Nat) (v : Value) (d : Array (List Int)) (z : List Int) (w : World) (h : Dn B w v d) (hu : Up d) (hz : IsId z) (hsz : d.size < 90000) (hB : B ≤ w.heap.size) :
    Calls Tryz.prog 62 #[v, idv z] w fun e w' => ∃ v' d', e = .returned v' ∧ Dn B w' v' d' ∧ Up d' ∧ (∀ x, x ∈ d'.toList ↔ x ∈ d.toList ∨ x = z) ∧ d'.size ≤ d.size + 1 ∧ Below w.heap.size w w' := by
  by_cases hin : z ∈ d.toList
  · refine (put_old B v d z w h hu hz hsz hin).mono ?_
    rintro e w' ⟨rfl, hb⟩
    exact ⟨v, d, rfl, h.keep hb, hu, fun x => ⟨.inl, fun e => e.elim id fun e => e ▸ hin⟩, by omega, hb⟩
  · have hno : ∀ i, i < d.size → d[i]! ≠ z := fun i hi e => hin (e ▸ at_mem i hi)
    refine (put_new B v d z w h hu hz hsz hno).mono ?_
    rintro e w' ⟨v', k, rfl, hk, hD, hb⟩
    exact ⟨v', _, rfl, hD.weak hB, ins_up hu hk hno, ins_mem d k z, by rw [ins_size d k z hk.1]; omega, hb⟩

end Go.Proofs.YtojgablpjdlegaaGreatDoor

/- The law's sameCommit: yes. -/
namespace Go.Proofs.YtojgablpjdlegaaGreatDoor
open Go.RowKit Go.Shelf

theorem same_dp (B B' : Nat) (v v' : Value) (d : Array (List Int)) (w : World) (h : Dp B w v d) (h' : Dn B' w v' d) (hsz : d.size < 100000) :
    Calls Tryz.prog 32 #[v, v'] w fun e w' => e = .returned (.bool true) ∧ Below w.heap.size w w' := by
  obtain ⟨ao, c, rfl⟩ := h.shape
  obtain ⟨bo, c', rfl⟩ := h'.shape
  refine same_wide ao bo c c' d.size d w h.ids (fun h0 => ?_) hsz
  obtain ⟨b, c1, e1, _, _, hx⟩ := h.row h0
  obtain ⟨b', c2, e2, _, _, hx'⟩ := h'.row h0
  injection e1 with e1 _ _
  injection e2 with e2 _ _
  exact ⟨b, b', e1, e2, fun W hW i hi => ⟨(hx.keep hW).load i hi, (hx'.keep hW).load i hi⟩⟩

set_option maxRecDepth 100000 in
set_option maxHeartbeats 4000000 in
theorem sameCommit_yes (T : List Int) (v v' : Value) (A C M : List UInt8) (d : Array (List Int)) (B B' : Nat) (w : World) (hT : IsId T) (h : Dp B w v d) (h' : Dn B' w v' d) (hsz : d.size < 100000) :
    Calls Tryz.prog 27 #[cmv T v A C M, cmv T v' A C M] w fun e w' => e = .returned (.bool true) ∧ Below w.heap.size w w' := by
  have hz := zero47
  have hz2 := zero52
  obtain ⟨ao, c, hv⟩ := h.shape
  obtain ⟨bo, c', hv'⟩ := h'.shape
  obtain ⟨n, hn⟩ : ∃ n, n = d.size := ⟨_, rfl⟩
  rw [← hn] at hv hv'
  subst hv
  subst hv'
  obtain ⟨W, hW⟩ : ∃ W, W = (w.alloc (Obj.cells (vals (cf T (.slice ao n c) A C M) 24).toArray 47)).alloc (Obj.cells (vals (cf T (.slice bo n c') A C M) 24).toArray 52) := ⟨_, rfl⟩
  have b0 := new_below w (Obj.cells (vals (cf T (.slice ao n c) A C M) 24).toArray 47)
  have bW : Below w.heap.size w W := by rw [hW]; exact b0.alloc b0.size _
  have r1 : W.rowIs w.heap.size 47 24 (cf T (.slice ao n c) A C M) := by rw [hW]; exact rowIs_fr (P := fun _ => False) (rowIs_vals w _ 24 47) (Fr.ofBelow (new_below _ _)) (fun h => h)
  have r2 : W.rowIs (w.heap.size + 1) 52 24 (cf T (.slice bo n c') A C M) := by rw [hW]; have := rowIs_vals (w.alloc (Obj.cells (vals (cf T (.slice ao n c) A C M) 24).toArray 47)) (cf T (.slice bo n c') A C M) 24 52; simpa using this
  have HR : Hid (∀ V, Below W.heap.size W V → (loadVar 27 ⟨w.heap.size, 0, none⟩).run Tryz.prog V = .ok (idv T) V ∧ (loadVar 26 ⟨w.heap.size + 1, 0, none⟩).run Tryz.prog V = .ok (idv T) V ∧ V.rowIs w.heap.size 47 24 (cf T (.slice ao n c) A C M) ∧ V.rowIs (w.heap.size + 1) 52 24 (cf T (.slice bo n c') A C M)) := fun V hV => by
    have q1 := rowIs_fr (P := fun _ => False) r1 (Fr.ofBelow hV) (fun h => h)
    have q2 := rowIs_fr (P := fun _ => False) r2 (Fr.ofBelow hV) (fun h => h)
    refine ⟨?_, ?_, q1, q2⟩
    · have h := load_mid (P := Tryz.prog) (o := 0) 27 _ q1 20 (by omega) Tryz.underlying27 rfl (by kernel_rfl)
      rw [row_congr (fun j => cf T (.slice ao n c) A C M (0 + j)) (cl T) 20 (fun j hj => by unfold cf; rw [Nat.zero_add, if_pos hj])] at h
      exact h
    · have h := load_mid (P := Tryz.prog) (o := 0) 26 _ q2 20 (by omega) Tryz.underlying26 rfl (by kernel_rfl)
      rw [row_congr (fun j => cf T (.slice bo n c') A C M (0 + j)) (cl T) 20 (fun j hj => by unfold cf; rw [Nat.zero_add, if_pos hj])] at h
      exact h
  have he : ∀ V, (Op.equalIn 10000 27 (idv T) (idv T)).run Tryz.prog V = .ok true V := fun V => by rw [eql_ids 27 Tryz.underlying27 hT hT V]; simp
  have hsm := same_dp B B' (.slice ao n c) (.slice bo n c') d W (h.keep bW) (h'.keep bW) hsz
  have HB : Hid (Below w.heap.size w W) := bW
  clear bW b0 r1 r2 h h' hn hsz hT
  obtain ⟨l27, l26, q1, q2⟩ := HR.out W (Below.refl _ _)
  have HRC : Hid (∀ V, Below W.heap.size W V → (V.cell? ⟨w.heap.size, 20, none⟩ = some (.slice ao n c) ∧ V.cell? ⟨w.heap.size, 21, none⟩ = some (sv A) ∧ V.cell? ⟨w.heap.size, 22, none⟩ = some (sv C) ∧ V.cell? ⟨w.heap.size, 23, none⟩ = some (sv M)) ∧ V.cell? ⟨w.heap.size + 1, 20, none⟩ = some (.slice bo n c') ∧ V.cell? ⟨w.heap.size + 1, 21, none⟩ = some (sv A) ∧ V.cell? ⟨w.heap.size + 1, 22, none⟩ = some (sv C) ∧ V.cell? ⟨w.heap.size + 1, 23, none⟩ = some (sv M)) := fun V hV => by
    obtain ⟨_, _, g1, g2⟩ := HR.out V hV
    exact ⟨⟨g1.cell (i := 20) (by omega), g1.cell (i := 21) (by omega), g1.cell (i := 22) (by omega), g1.cell (i := 23) (by omega)⟩, g2.cell (i := 20) (by omega), g2.cell (i := 21) (by omega), g2.cell (i := 22) (by omega), g2.cell (i := 23) (by omega)⟩
  obtain ⟨⟨c20, _⟩, k20, _⟩ := HRC.out W (Below.refl _ _)
  clear q1 q2
  go_enter Tryz.func27, Tryz.ntmps27
  go_wp2_with (first
    | (refine wpList_ldv rfl 27 _ rfl ⟨w.heap.size, 0, none⟩ rfl (idv T) (by rw [← hW]; exact l27) ?_; rw [← hW]; clear hW)
    | (refine wpList_ldv rfl 26 _ rfl ⟨w.heap.size + 1, 0, none⟩ rfl (idv T) l26 ?_)
    | (go_at_call 32; refine hsm.mono ?_; rintro e w2 ⟨rfl, b2⟩; have HB2 : Hid (Below W.heap.size W w2) := b2; obtain ⟨⟨_, m21, m22, m23⟩, _, n21, n22, n23⟩ := HRC.out w2 b2; clear b2))
  go_ret
  exact ⟨rfl, HB.out.trans (HB2.out.mono HB.out.size)⟩

end Go.Proofs.YtojgablpjdlegaaGreatDoor

/- The document's Edges. -/
namespace Go.Proofs.YtojgablpjdlegaaGreatDoor
open Go.RowKit Go.Shelf

theorem redges_bad (k e0 : Int) (h0 : e0 ≠ 0) (ao : Option Addr) (n c : Nat) (w : World) (hC : Calls Tryz.prog 34 #[.int .i64 k, .slice ao n c] w fun e w' => e = .returned (.int .i64 e0) ∧ Below w.heap.size w w') :
    Calls Tryz.prog 31 #[.int .i64 k, .slice ao n c] w fun e w' => e = .returned (.tuple #[nlv, .int .i64 e0]) ∧ Below w.heap.size w w' := by
  have g0 : (e0 == 0) = false := by simpa using h0
  go_enter Tryz.func31, Tryz.ntmps31
  go_wp2_with fail
  refine hC.mono ?_
  rintro e w1 ⟨rfl, b1⟩
  have HB : Hid (Below w.heap.size w w1) := b1
  clear hC b1
  go_wp2_with fail
  go_ret2
  exact ⟨rfl, HB.out⟩

theorem redges_blob (ao : Option Addr) (n c : Nat) (w : World) (hC : Calls Tryz.prog 34 #[.int .i64 3, .slice ao n c] w fun e w' => e = .returned (.int .i64 0) ∧ Below w.heap.size w w') :
    Calls Tryz.prog 31 #[.int .i64 3, .slice ao n c] w fun e w' => e = .returned (.tuple #[nlv, .int .i64 0]) ∧ Below w.heap.size w w' := by
  go_enter Tryz.func31, Tryz.ntmps31
  go_wp2_with fail
  refine hC.mono ?_
  rintro e w1 ⟨rfl, b1⟩
  have HB : Hid (Below w.heap.size w w1) := b1
  clear hC b1
  go_wp2_with fail
  go_ret2
  exact ⟨rfl, HB.out⟩

theorem up_nil : Up #[] := fun i j _ hj => by simp at hj

theorem ld_mid {w : World} {b t N : Nat} {f : Nat → Value} (h : w.rowIs b t N f) (p : Nat) (ho : p + 20 ≤ N) (x : List Int) (hf : ∀ j, j < 20 → f (p + j) = cl x j) : (loadVar 26 ⟨b, p, none⟩).run Tryz.prog w = .ok (idv x) w := by
  have hg := run_loadVar_mid w b p 26 _ _ (rangeAt_row h p 20 ho) Tryz.underlying26 rfl (by rw [vals_len]; exact size22)
  have e : idv x = row (fun j => f (p + j)) 20 := (row_congr _ _ _ (fun j hj => hf j hj)).symm
  rw [e]
  exact hg

theorem ld26t {w : World} {b : Nat} {T : List Int} {K : Int} {N G M : List UInt8} (h : w.rowIs b 60 24 (tf T K N G M)) : (loadVar 26 ⟨b, 0, none⟩).run Tryz.prog w = .ok (idv T) w :=
  ld_mid h 0 (by omega) T (fun j hj => by rw [Nat.zero_add]; unfold tf; rw [if_pos hj])

theorem ld26c {w : World} {b : Nat} {T : List Int} {p : Value} {A C M : List UInt8} (h : w.rowIs b 52 24 (cf T p A C M)) : (loadVar 26 ⟨b, 0, none⟩).run Tryz.prog w = .ok (idv T) w :=
  ld_mid h 0 (by omega) T (fun j hj => by rw [Nat.zero_add]; unfold cf; rw [if_pos hj])

theorem redges_tag (ao : Option Addr) (n c : Nat) (w : World) (T : List Int) (K : Int) (N G M : List UInt8) (hT : IsId T) (hC : Calls Tryz.prog 34 #[.int .i64 4, .slice ao n c] w fun e w' => e = .returned (.int .i64 0) ∧ Below w.heap.size w w')
    (hD : ∀ V, Below w.heap.size w V → Calls Tryz.prog 26 #[.slice ao n c] V fun e w' => e = .returned (.tuple #[tmv T K N G M, .int .i64 0]) ∧ Below V.heap.size V w') :
    Calls Tryz.prog 31 #[.int .i64 4, .slice ao n c] w fun e w' => ∃ v d, e = .returned (.tuple #[v, .int .i64 0]) ∧ Dn w.heap.size w' v d ∧ Up d ∧ (∀ x, x ∈ d.toList ↔ x ∈ [T]) ∧ d.size ≤ 1 ∧ Below w.heap.size w w' := by
  have hz := zero60
  have HD : Hid (∀ V, Below w.heap.size w V → Calls Tryz.prog 26 #[.slice ao n c] V fun e w' => e = .returned (.tuple #[tmv T K N G M, .int .i64 0]) ∧ Below V.heap.size V w') := hD
  have HT : Hid (IsId T) := hT
  clear hD hT
  go_enter Tryz.func31, Tryz.ntmps31
  go_wp2_with fail
  refine hC.mono ?_
  rintro e w1 ⟨rfl, b1⟩
  have HB1 : Hid (Below w.heap.size w w1) := b1
  clear hC b1
  go_wp2_with fail
  refine (HD.out w1 HB1.out).mono ?_
  rintro e w2 ⟨rfl, b2⟩
  have HB2 : Hid (Below w.heap.size w w2) := HB1.out.trans (b2.mono HB1.out.size)
  have r2 := rowIs_vals w2 (tf z20 0 [] [] []) 24 60
  clear b2
  go_wp2_with (first
    | (refine wpList_st rfl 60 _ _ rfl w2.heap.size rfl (tf T K N G M) rfl r2 (by kernel_rfl) (tf_one _ _ _ _ _) ?_; intro w3 r3 f3; have HB23 : Hid (Below w2.heap.size w2 w3) := new_fr f3; have HB3 : Hid (Below w.heap.size w w3) := HB2.out.trans (HB23.out.mono HB2.out.size); have hl26 : (loadVar 26 ⟨w2.heap.size, 0, none⟩).run Tryz.prog w3 = .ok (idv T) w3 := ld26t r3; clear f3 r3)
    | (refine wpList_ldv rfl 26 _ rfl ⟨w2.heap.size, 0, none⟩ rfl (idv T) hl26 ?_; clear hl26))
  refine (put_any w.heap.size nlv #[] T w3 (dn_nil _ _) up_nil HT.out (by simp) HB3.out.size).mono ?_
  rintro e w4 ⟨v, d, rfl, d1, d2, d3, d4, b4⟩
  have HB4 : Hid (Below w.heap.size w w4) := HB3.out.trans (b4.mono HB3.out.size)
  have HD4 : Hid (Dn w.heap.size w4 v d ∧ Up d ∧ (∀ x, x ∈ d.toList ↔ x ∈ [T]) ∧ d.size ≤ 1) := ⟨d1, d2, fun x => by rw [d3]; simp, by simpa using d4⟩
  clear d1 d2 d3 d4 b4
  go_wp2_with fail
  go_ret2
  exact ⟨v, d, rfl, HD4.out.1, HD4.out.2.1, HD4.out.2.2.1, HD4.out.2.2.2, HB4.out⟩

set_option maxRecDepth 100000 in
set_option maxHeartbeats 4000000 in
theorem redges_commit (ao : Option Addr) (n c : Nat) (w : World) (T : List Int) (DS : List (List Int)) (A C M : List UInt8) (hT : IsId T) (hds : DS.length < 20000) (hC : Calls Tryz.prog 34 #[.int .i64 1, .slice ao n c] w fun e w' => e = .returned (.int .i64 0) ∧ Below w.heap.size w w')
    (hD : ∀ V, Below w.heap.size w V → Calls Tryz.prog 24 #[.slice ao n c] V fun e w' => ∃ v, e = .returned (.tuple #[cmv T v A C M, .int .i64 0]) ∧ Dn V.heap.size w' v DS.toArray ∧ Below V.heap.size V w') :
    Calls Tryz.prog 31 #[.int .i64 1, .slice ao n c] w fun e w' => ∃ v d, e = .returned (.tuple #[v, .int .i64 0]) ∧ Dn w.heap.size w' v d ∧ Up d ∧ (∀ x, x ∈ d.toList ↔ x ∈ T :: DS) ∧ d.size ≤ DS.length + 1 ∧ Below w.heap.size w w' := by
  have hz := zero52
  have HD : Hid (∀ V, Below w.heap.size w V → Calls Tryz.prog 24 #[.slice ao n c] V fun e w' => ∃ v, e = .returned (.tuple #[cmv T v A C M, .int .i64 0]) ∧ Dn V.heap.size w' v DS.toArray ∧ Below V.heap.size V w') := hD
  have HT : Hid (IsId T) := hT
  have HDS : Hid (DS.length < 20000) := hds
  clear hD hT hds
  go_enter Tryz.func31, Tryz.ntmps31
  go_wp2_with fail
  refine hC.mono ?_
  rintro e w1 ⟨rfl, b1⟩
  have HB1 : Hid (Below w.heap.size w w1) := b1
  clear hC b1
  go_wp2_with fail
  refine (HD.out w1 HB1.out).mono ?_
  rintro e w2 ⟨v, rfl, dd2, b2⟩
  obtain ⟨va, vc, hv⟩ := dd2.shape
  obtain ⟨m, hm⟩ : ∃ m, m = DS.length := ⟨_, rfl⟩
  rw [List.size_toArray, ← hm] at hv
  subst hv
  have HM : Hid (m = DS.length) := hm
  have HB2 : Hid (Below w.heap.size w w2) := HB1.out.trans (b2.mono HB1.out.size)
  have HDD2 : Hid (Dn w1.heap.size w2 (.slice va m vc) DS.toArray) := dd2
  have r2 := rowIs_vals w2 (cf z20 nlv [] [] []) 24 52
  clear b2 dd2 hm
  go_wp2_with (first
    | (refine wpList_st rfl 52 _ _ rfl w2.heap.size rfl (cf T (.slice va m vc) A C M) rfl r2 (by kernel_rfl) (cf_one _ _ _ _ _ rfl) ?_; intro w3 r3 f3; have HB23 : Hid (Below w2.heap.size w2 w3) := new_fr f3; have HB3 : Hid (Below w.heap.size w w3) := HB2.out.trans (HB23.out.mono HB2.out.size); have HR3 : Hid (w3.rowIs w2.heap.size 52 24 (cf T (.slice va m vc) A C M)) := r3; have HDD3 : Hid (Dn w1.heap.size w3 (.slice va m vc) DS.toArray) := HDD2.out.keep HB23.out; have hl26 : (loadVar 26 ⟨w2.heap.size, 0, none⟩).run Tryz.prog w3 = .ok (idv T) w3 := ld26c r3; clear f3 r3)
    | (refine wpList_ldv rfl 26 _ rfl ⟨w2.heap.size, 0, none⟩ rfl (idv T) hl26 ?_; clear hl26))
  refine (put_any w.heap.size nlv #[] T w3 (dn_nil _ _) up_nil HT.out (by simp) HB3.out.size).mono ?_
  rintro e w4 ⟨v4, d4, rfl, g1, g2, g3, g4, b4⟩
  have HB4 : Hid (Below w.heap.size w w4) := HB3.out.trans (b4.mono HB3.out.size)
  have HR4 : Hid (w4.rowIs w2.heap.size 52 24 (cf T (.slice va m vc) A C M)) := rowIs_fr (P := fun _ => False) HR3.out (Fr.ofBelow b4) (fun h => h)
  have HDD4 : Hid (Dn w1.heap.size w4 (.slice va m vc) DS.toArray) := HDD3.out.keep b4
  have HG4 : Hid (Dn w.heap.size w4 v4 d4) := g1
  have HU4 : Hid (Up d4 ∧ d4.size ≤ 0 + 1 ∧ ∀ x, x ∈ d4.toList ↔ x ∈ T :: DS.take 0) := ⟨g2, by simpa using g4, fun x => by rw [g3]; simp⟩
  have HID : Hid (∀ i, i < m → IsId DS.toArray[i]!) := fun i hi => HDD4.out.ids i (by rw [List.size_toArray, ← HM.out]; exact hi)
  clear g1 g2 g3 g4 b4
  go_wp2_with fail
  go_loopw [7, 13] (fun s7 s13 wr => ∃ (i : Nat) (d : Array (List Int)), s13 = .int .i64 (i : Int) ∧ i ≤ m ∧ Hid (Dn w.heap.size wr s7 d) ∧ Hid (Up d ∧ d.size ≤ i + 1 ∧ ∀ x, x ∈ d.toList ↔ x ∈ T :: DS.take i) ∧ Hid (Below w4.heap.size w4 wr)) (fun _ s13 _ => m - (intOf s13).toNat)
  case atStart => exact ⟨0, d4, rfl, Nat.zero_le _, HG4, HU4, Below.refl _ _⟩
  case round =>
    obtain ⟨i, d, rfl, him, HG, HU, HB⟩ := hrel
    have hr5 := rowIs_fr (P := fun _ => False) HR4.out (Fr.ofBelow HB.out) (fun h => h)
    have HBB : Hid (Below w.heap.size w wr) := HB4.out.trans (HB.out.mono HB4.out.size)
    have c20 : wr.cell? ⟨w2.heap.size, 20, none⟩ = some (.slice va m vc) := hr5.cell (i := 20) (by omega)
    by_cases hlt : i < m
    · have hq : (i : Int) < (m : Int) := by omega
      have e1 : decide ((i : Int) < (m : Int)) = true := by simp; omega
      have hwi : IntKind.i64.wrap ((i : Int) + 1) = (i : Int) + 1 := by have := HM.out; have := HDS.out; rw [IntKind.wrap_i64]; omega
      obtain ⟨b, vc', hvs, _, _, hrx⟩ := HDD4.out.row (by rw [List.size_toArray, ← HM.out]; omega)
      rw [List.size_toArray, ← HM.out] at hvs
      injection hvs with hv1 hv2 hv3
      subst hv1
      have hld := (hrx.keep HB.out).load i (by rw [List.size_toArray, ← HM.out]; exact hlt)
      obtain ⟨x, hx⟩ : ∃ x, DS.toArray[i]! = x := ⟨_, rfl⟩
      rw [hx] at hld
      have hix : (Instr.indexAt 50 (.slice (some ⟨b, 0, none⟩) m vc) (.int .i64 (i : Int))).run Tryz.prog wr = .ok (.pointer (some ⟨b, i * 20, none⟩)) wr := by
        have := run_ixa35 b 0 m vc i _ rfl hlt wr
        rwa [Nat.zero_add] at this
      have HXI : Hid (DS.toArray[i]! = x ∧ IsId x) := ⟨hx, by rw [← hx]; exact HID.out i hlt⟩
      have HLT : Hid (i < m) := hlt
      clear hrx hx hlt him hv2 hv3 hr5
      go_wp2_with (first
        | (refine wpList_ixv rfl 50 _ _ rfl _ _ _ rfl rfl hix ?_; clear hix)
        | (refine wpList_ldv rfl 26 _ rfl ⟨b, i * 20, none⟩ rfl (idv x) hld ?_; clear hld))
      refine (put_any w.heap.size u7 d x wr (HG.out) HU.out.1 HXI.out.2 (by have := HU.out.2.1; have := HLT.out; have := HM.out; have := HDS.out; omega) HBB.out.size).mono ?_
      rintro e w6 ⟨v6, d6, rfl, g1, g2, g3, g4, b6⟩
      have HB6 : Hid (Below w4.heap.size w4 w6) := HB.out.trans (b6.mono HB.out.size)
      have HG6 : Hid (Dn w.heap.size w6 v6 d6) := g1
      have HU6 : Hid (Up d6 ∧ d6.size ≤ i + 1 + 1 ∧ ∀ x, x ∈ d6.toList ↔ x ∈ T :: DS.take (i + 1)) := ⟨g2, by have := HU.out.2.1; omega, fun y => by
        rw [g3, HU.out.2.2]
        have hl : i < DS.length := by have := HLT.out; have := HM.out; omega
        rw [List.take_succ_eq_append_getElem hl]
        have hxe : DS[i] = x := by
          have := HXI.out.1
          rw [getElem!_pos DS.toArray i (by simpa using hl)] at this
          simpa using this
        rw [hxe]
        simp [or_assoc]⟩
      clear g1 g2 g3 g4 b6
      go_wp2_with fail
      exact ⟨⟨i + 1, d6, by simp, HLT.out, HG6, HU6, HB6⟩, by simp [intOf]; have := HLT.out; omega⟩
    · obtain rfl : i = m := by omega
      have hq : ¬ (i : Int) < (i : Int) := by omega
      have e1 : decide ((i : Int) < (i : Int)) = false := by simp
      clear hr5 hlt him
      go_wp2_with fail
      go_ret2
      exact ⟨_, rfl, d, HG.out, HU.out.1, fun x => by have h := HU.out.2.2 x; rw [HM.out, List.take_length] at h; simpa using h, by have := HU.out.2.1; have := HM.out; omega, HBB.out⟩

end Go.Proofs.YtojgablpjdlegaaGreatDoor

/- The document's Edges of a tree. -/
namespace Go.Proofs.YtojgablpjdlegaaGreatDoor
open Go.RowKit Go.Shelf

set_option maxRecDepth 100000 in
set_option maxHeartbeats 4000000 in
theorem redges_tree (ao : Option Addr) (n c : Nat) (w : World) (es : List En) (hes : es.length < 20000) (hC : Calls Tryz.prog 34 #[.int .i64 2, .slice ao n c] w fun e w' => e = .returned (.int .i64 0) ∧ Below w.heap.size w w')
    (hD : ∀ V, Below w.heap.size w V → Calls Tryz.prog 22 #[.slice ao n c] V fun e w' => ∃ v, e = .returned (.tuple #[v, .int .i64 0]) ∧ Dx V.heap.size w' v es.toArray ∧ Below V.heap.size V w') :
    Calls Tryz.prog 31 #[.int .i64 2, .slice ao n c] w fun e w' => ∃ v d, e = .returned (.tuple #[v, .int .i64 0]) ∧ Dn w.heap.size w' v d ∧ Up d ∧ (∀ x, x ∈ d.toList ↔ x ∈ eds es) ∧ d.size ≤ es.length ∧ Below w.heap.size w w' := by
  have HD : Hid (∀ V, Below w.heap.size w V → Calls Tryz.prog 22 #[.slice ao n c] V fun e w' => ∃ v, e = .returned (.tuple #[v, .int .i64 0]) ∧ Dx V.heap.size w' v es.toArray ∧ Below V.heap.size V w') := hD
  have HES : Hid (es.length < 20000) := hes
  clear hD hes
  go_enter Tryz.func31, Tryz.ntmps31
  go_wp2_with fail
  refine hC.mono ?_
  rintro e w1 ⟨rfl, b1⟩
  have HB1 : Hid (Below w.heap.size w w1) := b1
  clear hC b1
  go_wp2_with fail
  refine (HD.out w1 HB1.out).mono ?_
  rintro e w2 ⟨v, rfl, dd2, b2⟩
  obtain ⟨va, vc, hv⟩ := dd2.shape
  obtain ⟨m, hm⟩ : ∃ m, m = es.length := ⟨_, rfl⟩
  rw [List.size_toArray, ← hm] at hv
  subst hv
  have HM : Hid (m = es.length) := hm
  have HB2 : Hid (Below w.heap.size w w2) := HB1.out.trans (b2.mono HB1.out.size)
  have HDD2 : Hid (Dx w1.heap.size w2 (.slice va m vc) es.toArray) := dd2
  clear b2 dd2 hm
  go_wp2_with fail
  go_loopw [7, 10] (fun s7 s10 wr => ∃ (i : Nat) (d : Array (List Int)), s10 = .int .i64 (i : Int) ∧ i ≤ m ∧ Hid (Dn w.heap.size wr s7 d) ∧ Hid (Up d ∧ d.size ≤ i ∧ ∀ x, x ∈ d.toList ↔ x ∈ eds (es.take i)) ∧ Hid (Below w2.heap.size w2 wr)) (fun _ s10 _ => m - (intOf s10).toNat)
  case atStart => exact ⟨0, #[], rfl, Nat.zero_le _, dn_nil _ _, ⟨up_nil, by simp, fun x => by simp [eds]⟩, Below.refl _ _⟩
  case round =>
    obtain ⟨i, d, rfl, him, HG, HU, HB⟩ := hrel
    have HBB : Hid (Below w.heap.size w wr) := HB2.out.trans (HB.out.mono HB2.out.size)
    by_cases hlt : i < m
    · have hq : (i : Int) < (m : Int) := by omega
      have e1 : decide ((i : Int) < (m : Int)) = true := by simp; omega
      have hwi : IntKind.i64.wrap ((i : Int) + 1) = (i : Int) + 1 := by have := HM.out; have := HES.out; rw [IntKind.wrap_i64]; omega
      have hsz : i < es.toArray.size := by rw [List.size_toArray, ← HM.out]; exact hlt
      obtain ⟨b, vc', hvs, hcl⟩ := HDD2.out.cells (Nat.lt_of_le_of_lt (Nat.zero_le _) hsz)
      rw [List.size_toArray, ← HM.out] at hvs
      injection hvs with hv1 hv2 hv3
      subst hv1
      obtain ⟨x, hx⟩ : ∃ x, es.toArray[i]! = x := ⟨_, rfl⟩
      have hcells := hcl wr HB.out i hsz
      rw [hx] at hcells
      have hixx : (Instr.indexAt 42 (.slice (some ⟨b, 0, none⟩) m vc) (.int .i64 (i : Int))).run Tryz.prog wr = .ok (.pointer (some ⟨b, i * 22, none⟩)) wr := by
        have := run_ixf b 0 m vc i _ rfl hlt wr
        rwa [Nat.zero_add] at this
      have HXI : Hid (es.toArray[i]! = x ∧ IsId x.id) := ⟨hx, by have := (HDD2.out.ok i hsz); rw [hx] at this; exact this.id⟩
      have HLT : Hid (i < m) := hlt
      have hl : i < es.length := by have := HM.out; omega
      have hxe : es[i] = x := by
        rw [getElem!_pos es.toArray i (by simpa using hl)] at hx
        simpa using hx
      have HTK : Hid (eds (es.take (i + 1)) = eds (es.take i) ++ eds [x]) := by
        unfold Hid
        rw [List.take_succ_eq_append_getElem hl, hxe]
        simp [eds]
      have hmode : wr.cell? ⟨b, i * 22, none⟩ = some (.int .i64 x.m) := by
        have := hcells 0 (by omega)
        rw [Nat.add_zero] at this
        exact this
      have hid : (loadVar 26 ⟨b, i * 22 + 2, none⟩).run Tryz.prog wr = .ok (idv x.id) wr := by
        have hr : wr.rangeAt b (i * 22 + 2) (vals (cl x.id) 20) := by
          intro j u hu
          have hj : j < 20 := by
            have := (List.getElem?_eq_some_iff.1 hu).1
            rwa [vals_len] at this
          rw [vals_get _ _ _ hj] at hu
          cases hu
          have := hcells (2 + j) (by omega)
          rw [show i * 22 + (2 + j) = i * 22 + 2 + j by omega] at this
          rw [this]
          show some (ef x.m _ x.id (2 + j)) = _
          unfold ef
          rw [if_neg (by omega), if_neg (by omega), show 2 + j - 2 = j by omega]
        exact run_loadVar_mid wr b (i * 22 + 2) 26 _ _ hr Tryz.underlying26 rfl (by rw [vals_len]; exact size22)
      by_cases hmo : x.m = 57344
      · have e2 : (x.m != 57344) = false := by simpa using hmo
        have e3 : eds [x] = [] := by simp [eds, hmo]
        clear hcl hcells hx hxe hlt him hv2 hv3 hsz
        go_wp2_with (first
          | (refine wpList_ixv rfl 42 _ _ rfl _ _ _ rfl rfl hixx ?_; clear hixx))
        exact ⟨⟨i + 1, d, by simp, HLT.out, HG, ⟨HU.out.1, by have := HU.out.2.1; omega, fun y => by rw [HU.out.2.2, HTK.out, e3, List.append_nil]⟩, HB⟩, by simp [intOf]; have := HLT.out; omega⟩
      · have e2 : (x.m != 57344) = true := by simpa using hmo
        have e3 : eds [x] = [x.id] := by simp [eds, hmo]
        have hixy := hixx
        clear hcl hcells hx hxe hlt him hv2 hv3 hsz
        go_wp2_with (first
          | (refine wpList_ixv rfl 42 _ _ rfl _ _ _ rfl rfl hixx ?_; clear hixx)
          | (refine wpList_ixv rfl 42 _ _ rfl _ _ _ rfl rfl hixy ?_; clear hixy)
          | (refine wpList_ldv rfl 26 _ rfl ⟨b, i * 22 + 2, none⟩ rfl (idv x.id) hid ?_; clear hid))
        refine (put_any w.heap.size u7 d x.id wr HG.out HU.out.1 HXI.out.2 (by have := HU.out.2.1; have := HLT.out; have := HM.out; have := HES.out; omega) HBB.out.size).mono ?_
        rintro e w6 ⟨v6, d6, rfl, g1, g2, g3, g4, b6⟩
        have HB6 : Hid (Below w2.heap.size w2 w6) := HB.out.trans (b6.mono HB.out.size)
        have HG6 : Hid (Dn w.heap.size w6 v6 d6) := g1
        have HU6 : Hid (Up d6 ∧ d6.size ≤ i + 1 ∧ ∀ y, y ∈ d6.toList ↔ y ∈ eds (es.take (i + 1))) := ⟨g2, by have := HU.out.2.1; omega, fun y => by
          rw [g3, HU.out.2.2, HTK.out, e3, List.mem_append, List.mem_singleton]⟩
        clear g1 g2 g3 g4 b6
        go_wp2_with fail
        exact ⟨⟨i + 1, d6, by simp, HLT.out, HG6, HU6, HB6⟩, by simp [intOf]; have := HLT.out; omega⟩
    · obtain rfl : i = m := by omega
      have hq : ¬ (i : Int) < (i : Int) := by omega
      have e1 : decide ((i : Int) < (i : Int)) = false := by simp
      clear hlt him
      go_wp2_with fail
      go_ret2
      exact ⟨_, rfl, d, HG.out, HU.out.1, fun x => by have h := HU.out.2.2 x; rw [HM.out, List.take_length] at h; simpa using h, by have := HU.out.2.1; have := HM.out; omega, HBB.out⟩

end Go.Proofs.YtojgablpjdlegaaGreatDoor
