/- XSet, Lea. -/
import Derived.Test.YtojgablpjdlegabGreatDoorM12
import Derived.Test.YtojgablpjdlegabGreatDoorM19
import Derived.Test.YtojgablpjdlegabGreatDoorMT06
import Derived.Test.YtojgablpjdlegabGreatDoorMC10
/- Rows of names, rising: as sets. -/
namespace Go.Proofs.YtojgablpjdlegabGreatDoor
open Go.RowKit

theorem list_uniq : ∀ (a b : List (List Int)), a.Pairwise (fun x y => ltl x y = true) → b.Pairwise (fun x y => ltl x y = true) → (∀ x, x ∈ a ↔ x ∈ b) → a = b
  | [], [], _, _, _ => rfl
  | [], y :: b, _, _, h => by have := (h y).2 (by simp); simp at this
  | x :: a, [], _, _, h => by have := (h x).1 (by simp); simp at this
  | x :: a, y :: b, ha, hb, h => by
    rw [List.pairwise_cons] at ha hb
    have e : x = y := by
      have h1 := (h x).1 (by simp)
      have h2 := (h y).2 (by simp)
      rcases List.mem_cons.1 h1 with e | h1
      · exact e
      · rcases List.mem_cons.1 h2 with e | h2
        · exact e.symm
        · have := ltl_asym _ _ (hb.1 x h1)
          rw [ha.1 y h2] at this
          cases this
    subst e
    congr 1
    refine list_uniq a b ha.2 hb.2 (fun z => ?_)
    constructor
    · intro hz
      rcases List.mem_cons.1 ((h z).1 (by simp [hz])) with e | e
      · subst e
        have := ha.1 z hz
        rw [ltl_irr] at this
        cases this
      · exact e
    · intro hz
      rcases List.mem_cons.1 ((h z).2 (by simp [hz])) with e | e
      · subst e
        have := hb.1 z hz
        rw [ltl_irr] at this
        cases this
      · exact e

theorem up_uniq {a b : Array (List Int)} (ha : Up a) (hb : Up b) (h : ∀ x, x ∈ a.toList ↔ x ∈ b.toList) : a = b := by
  have := list_uniq a.toList b.toList (up_list.1 ha) (up_list.1 hb) h
  exact Array.toList_inj.1 this

theorem ins_list (d : Array (List Int)) (k : Nat) (z : List Int) : (ins d k z).toList = d.toList.take k ++ z :: d.toList.drop k := by
  unfold ins fst snd
  simp
  rw [List.take_of_length_le (by simp)]

theorem ins_mem (d : Array (List Int)) (k : Nat) (z x : List Int) : x ∈ (ins d k z).toList ↔ x ∈ d.toList ∨ x = z := by
  rw [ins_list]
  have e : d.toList.take k ++ d.toList.drop k = d.toList := List.take_append_drop k _
  constructor
  · intro h
    rcases List.mem_append.1 h with h | h
    · exact .inl (List.mem_of_mem_take h)
    · rcases List.mem_cons.1 h with h | h
      · exact .inr h
      · exact .inl (List.mem_of_mem_drop h)
  · intro h
    rcases h with h | h
    · rw [← e] at h
      rcases List.mem_append.1 h with h | h
      · exact List.mem_append.2 (.inl h)
      · exact List.mem_append.2 (.inr (by simp [h]))
    · subst h
      simp

theorem mem_at {d : Array (List Int)} {x : List Int} (h : x ∈ d.toList) : ∃ i, i < d.size ∧ d[i]! = x := by
  obtain ⟨i, hi, e⟩ := List.mem_iff_getElem.1 h
  have hi' : i < d.size := by simpa using hi
  exact ⟨i, hi', by rw [getElem!_pos d i hi']; simpa using e⟩

theorem at_mem {d : Array (List Int)} (i : Nat) (hi : i < d.size) : d[i]! ∈ d.toList := by
  rw [getElem!_pos d i hi]
  exact Array.getElem_mem_toList ..

theorem ins_up {d : Array (List Int)} {k : Nat} {z : List Int} (hu : Up d) (hw : wh d z k) (hno : ∀ i, i < d.size → d[i]! ≠ z) : Up (ins d k z) := by
  rw [up_list, ins_list]
  have hp := up_list.1 hu
  have hlo : ∀ x ∈ d.toList.take k, ltl x z = true := by
    intro x hx
    obtain ⟨i, hi, e⟩ := List.mem_take_iff_getElem.1 hx
    have h1 : (!ltl d[i]! z) = false := hw.2.1 i (by omega)
    have hi' : i < d.size := by have : i < d.toList.length := by omega
                                simpa using this
    rw [getElem!_pos d i hi'] at h1
    have e' : d[i] = x := by simpa using e
    rw [e'] at h1
    simpa using h1
  have hhi : ∀ x ∈ d.toList.drop k, ltl z x = true := by
    intro x hx
    obtain ⟨i, hi, e⟩ := List.mem_drop_iff_getElem.1 hx
    have hi' : k + i < d.size := by have : i + k < d.size := by simpa using hi
                                    omega
    have h1 : (!ltl d[k + i]! z) = true := hw.2.2 (k + i) (by omega) hi'
    have h2 := hno (k + i) hi'
    rw [getElem!_pos d (k + i) hi'] at h1 h2
    have e' : d[k + i] = x := by simpa using e
    rw [e'] at h1 h2
    have h1' : ltl x z = false := by simpa using h1
    by_cases h3 : ltl z x = true
    · exact h3
    · exact absurd (ltl_total x z h1' (by simpa using h3)) h2
  have e : d.toList.take k ++ d.toList.drop k = d.toList := List.take_append_drop k _
  rw [← e] at hp
  rw [List.pairwise_append] at hp ⊢
  refine ⟨hp.1, List.pairwise_cons.2 ⟨hhi, hp.2.1⟩, fun x hx y hy => ?_⟩
  rcases List.mem_cons.1 hy with rfl | hy
  · exact hlo x hx
  · exact hp.2.2 x hx y hy

theorem ins_size (d : Array (List Int)) (k : Nat) (z : List Int) (hk : k ≤ d.size) : (ins d k z).size = d.size + 1 := by
  have : (ins d k z).toList.length = d.size + 1 := by
    rw [ins_list]
    simp
    omega
  simpa using this

set_option maxRecDepth 100000 in
set_option maxHeartbeats 2000000 in
theorem put_old (B : Nat) (v : Value) (d : Array (List Int)) (z : List Int) (w : World) (h : Dn B w v d) (hu : Up d) (hz : IsId z) (hsz : d.size < 90000) (hin : z ∈ d.toList) :
    Calls Tryz.prog 5 #[v, idv z] w fun e w' => e = .returned v ∧ Below w.heap.size w w' := by
  have HB0 : Hid (Below w.heap.size w (w.alloc (.cells (vals (cl z) 20).toArray 28))) := new_below _ _
  have hf := xfind_any B v d z (w.alloc (.cells (vals (cl z) 20).toArray 28)) (h.keep HB0.out) hu hz (by omega)
  have r0 := rowIs_vals w (cl z) 20 28
  have HF : Hid (∀ k, wh d z k → (decide (k < d.size) && decide (d[k]! = z)) = true) := fun k hk => by
    obtain ⟨i, hi, e⟩ := mem_at hin
    have h1 : k ≤ i := by
      by_cases h1 : i < k
      · have : (!ltl d[i]! z) = false := hk.2.1 i h1
        rw [e, ltl_irr] at this
        cases this
      · omega
    have h2 : i ≤ k := by
      by_cases h2 : k < i
      · have h3 := hu k i h2 hi
        have h4 : (!ltl d[k]! z) = true := hk.2.2 k (Nat.le_refl _) (by omega)
        rw [e] at h3
        rw [h3] at h4
        cases h4
      · omega
    obtain rfl : i = k := by omega
    rw [decide_eq_true hi, decide_eq_true e]
    rfl
  clear h hu hin
  go_enter Tryz.func5, Tryz.ntmps5
  go_wp2_with (refine wpList_ld0 rfl 28 _ rfl w.heap.size rfl _ r0 20 (by omega) Tryz.underlying28 rfl size22 ?_; clear r0)
  refine hf.mono ?_
  rintro e w1 ⟨k, rfl, hk, hB1⟩
  rw [HF.out k hk]
  clear hf hk
  go_wp2_with fail
  go_ret
  exact ⟨rfl, HB0.out.trans (hB1.mono HB0.out.size)⟩

/-- The document's Put. -/
theorem put_any (B : Nat) (v : Value) (d : Array (List Int)) (z : List Int) (w : World) (h : Dn B w v d) (hu : Up d) (hz : IsId z) (hsz : d.size < 90000) (hB : B ≤ w.heap.size) :
    Calls Tryz.prog 5 #[v, idv z] w fun e w' => ∃ v' d', e = .returned v' ∧ Dn B w' v' d' ∧ Up d' ∧ (∀ x, x ∈ d'.toList ↔ x ∈ d.toList ∨ x = z) ∧ d'.size ≤ d.size + 1 ∧ Below w.heap.size w w' := by
  by_cases hin : z ∈ d.toList
  · refine (put_old B v d z w h hu hz hsz hin).mono ?_
    rintro e w' ⟨rfl, hb⟩
    exact ⟨v, d, rfl, h.keep hb, hu, fun x => ⟨.inl, fun e => e.elim id fun e => e ▸ hin⟩, by omega, hb⟩
  · have hno : ∀ i, i < d.size → d[i]! ≠ z := fun i hi e => hin (e ▸ at_mem i hi)
    refine (put_new B v d z w h hu hz hsz hno).mono ?_
    rintro e w' ⟨v', k, rfl, hk, hD, hb⟩
    exact ⟨v', _, rfl, hD.weak hB, ins_up hu hk hno, ins_mem d k z, by rw [ins_size d k z hk.1]; omega, hb⟩

end Go.Proofs.YtojgablpjdlegabGreatDoor

/- The mathematics of ObjectEdges: the entries that the law makes, each name once. -/
namespace Go.Proofs.YtojgablpjdlegabGreatDoor
open Go.RowKit Go.Shelf

/-- The i-th entry that the law makes. -/
def Ent (d : Array (List Int)) (lk : Nat → Bool) (i : Nat) : En := ⟨if lk i then 57344 else 33188, [110, UInt8.ofNat (97 + i)], d[i]!⟩
/-- The first k of them. -/
def ents (d : Array (List Int)) (lk : Nat → Bool) (k : Nat) : Array En := ((List.range k).map (Ent d lk)).toArray

theorem ents_size (d : Array (List Int)) (lk : Nat → Bool) (k : Nat) : (ents d lk k).size = k := by simp [ents]
theorem ents_push (d : Array (List Int)) (lk : Nat → Bool) (k : Nat) : (ents d lk k).push (Ent d lk k) = ents d lk (k + 1) := by simp [ents, List.range_succ]
theorem ents_get (d : Array (List Int)) (lk : Nat → Bool) (k i : Nat) (h : i < k) : (ents d lk k)[i]! = Ent d lk i := by
  rw [getElem!_pos _ i (by rw [ents_size]; exact h)]
  simp [ents]
theorem ent_ok (d : Array (List Int)) (lk : Nat → Bool) (i : Nat) (h : IsId d[i]!) : okE (Ent d lk i) :=
  ⟨by unfold Ent; dsimp only; split <;> omega, by unfold Ent; dsimp only; split <;> omega, by simp [Ent], h⟩

theorem ent_eB (d : Array (List Int)) (lk : Nat → Bool) (i : Nat) (h : i < 20) : eB (Ent d lk i) = true := by
  have : ∀ i, i < 20 → ∀ b : Bool, (isM (if b then 57344 else 33188) && nmB [110, UInt8.ofNat (97 + i)]) = true := by decide
  exact this i h (lk i)

theorem ent_od (d : Array (List Int)) (lk : Nat → Bool) (i : Nat) (h0 : 0 < i) (h : i < 20) : od (Ent d lk (i - 1)) (Ent d lk i) < 0 := by
  have : ∀ i, i < 20 → 0 < i → ∀ b b' : Bool, ord (if b then 57344 else 33188) ⟨#[110, UInt8.ofNat (97 + (i - 1))]⟩ (if b' then 57344 else 33188) ⟨#[110, UInt8.ofNat (97 + i)]⟩ < 0 := by decide
  exact this i h h0 (lk (i - 1)) (lk i)

theorem ents_nodup (d : Array (List Int)) (lk : Nat → Bool) (k : Nat) (h : k ≤ 20) : (nms (ents d lk k)).Nodup := by
  have e : nms (ents d lk k) = (List.range k).map (fun i => [110, UInt8.ofNat (97 + i)]) := by simp [nms, ents, Ent]
  have h20 : ((List.range 20).map (fun i => [(110 : UInt8), UInt8.ofNat (97 + i)])).Nodup := by decide
  rw [e]
  exact h20.sublist ((List.range_sublist.2 h).map _)

theorem ents_tE (d : Array (List Int)) (lk : Nat → Bool) (n : Nat) (h : n ≤ 20) (hi : ∀ i, i < n → IsId d[i]!) : tE (ents d lk n) = 0 := by
  have hmem : ∀ e ∈ (ents d lk n).toList, eB e = true ∧ IsId e.id := by
    intro e he
    simp only [ents, List.mem_map, List.mem_range] at he
    obtain ⟨i, h1, rfl⟩ := he
    exact ⟨ent_eB d lk i (by omega), hi i h1⟩
  have hl := sdL_len (ents d lk n).toList hmem
  have hs : (ents d lk n).toList.length = n := by simp [ents]
  unfold tE
  rw [if_pos ⟨by rw [ents_size]; omega, List.all_eq_true.2 fun e he => (hmem e he).1⟩, if_pos, if_pos (by omega)]
  rw [riB_iff]
  refine ⟨fun i h0 h1 => ?_, ents_nodup d lk n h⟩
  rw [ents_size] at h1
  rw [ents_get _ _ _ _ (by omega), ents_get _ _ _ _ h1]
  exact ent_od d lk i h0 (by omega)

theorem ents_eds (d : Array (List Int)) (lk : Nat → Bool) (n : Nat) (x : List Int) : x ∈ eds (ents d lk n).toList ↔ ∃ j, j < n ∧ lk j = false ∧ d[j]! = x := by
  unfold eds ents
  simp only [List.mem_map, List.mem_filter, List.mem_range, decide_eq_true_eq]
  constructor
  · rintro ⟨e, ⟨⟨j, hj, rfl⟩, hm⟩, rfl⟩
    refine ⟨j, hj, ?_, rfl⟩
    cases hb : lk j with
    | false => rfl
    | true => simp [Ent, hb] at hm
  · rintro ⟨j, hj, hl, rfl⟩
    exact ⟨Ent d lk j, ⟨⟨j, hj, rfl⟩, by simp [Ent, hl]⟩, rfl⟩

/-- What the law wants a tree to lead to, from its first k entries. -/
def wnt (d : Array (List Int)) (lk : Nat → Bool) (k : Nat) (x : List Int) : Prop := ∃ j, j < k ∧ lk j = false ∧ d[j]! = x

theorem wnt_zero (d : Array (List Int)) (lk : Nat → Bool) (x : List Int) : ¬ wnt d lk 0 x := by rintro ⟨j, h, _⟩; omega
theorem wnt_link (d : Array (List Int)) (lk : Nat → Bool) (k : Nat) (h : lk k = true) (x : List Int) : wnt d lk (k + 1) x ↔ wnt d lk k x := by
  constructor
  · rintro ⟨j, h1, h2, h3⟩
    refine ⟨j, ?_, h2, h3⟩
    by_cases e : j = k
    · subst e; rw [h] at h2; cases h2
    · omega
  · rintro ⟨j, h1, h2, h3⟩
    exact ⟨j, by omega, h2, h3⟩
theorem wnt_more (d : Array (List Int)) (lk : Nat → Bool) (k : Nat) (h : lk k = false) (x : List Int) : wnt d lk (k + 1) x ↔ wnt d lk k x ∨ x = d[k]! := by
  constructor
  · rintro ⟨j, h1, h2, h3⟩
    by_cases e : j = k
    · subst e; exact .inr h3.symm
    · exact .inl ⟨j, by omega, h2, h3⟩
  · rintro (⟨j, h1, h2, h3⟩ | e)
    · exact ⟨j, by omega, h2, h3⟩
    · exact ⟨k, by omega, h, e.symm⟩

/-- The first k names, each once. -/
def pdk (d : Array (List Int)) : Nat → Array (List Int)
  | 0 => #[]
  | k + 1 => if d[k]! ∈ (pdk d k).toList then pdk d k else (pdk d k).push d[k]!

theorem pdk_mem (d : Array (List Int)) (k : Nat) (x : List Int) : x ∈ (pdk d k).toList ↔ ∃ j, j < k ∧ d[j]! = x := by
  induction k with
  | zero => simp [pdk]
  | succ k ih =>
    unfold pdk
    split
    · rename_i h
      rw [ih]
      constructor
      · rintro ⟨j, h1, h2⟩; exact ⟨j, by omega, h2⟩
      · rintro ⟨j, h1, h2⟩
        by_cases e : j = k
        · subst e; rw [h2] at h; exact ih.1 h
        · exact ⟨j, by omega, h2⟩
    · rw [Array.toList_push, List.mem_append, ih]
      simp only [List.mem_singleton]
      constructor
      · rintro (⟨j, h1, h2⟩ | h)
        · exact ⟨j, by omega, h2⟩
        · exact ⟨k, by omega, h.symm⟩
      · rintro ⟨j, h1, h2⟩
        by_cases e : j = k
        · subst e; exact .inr h2.symm
        · exact .inl ⟨j, by omega, h2⟩

theorem pdk_nodup (d : Array (List Int)) (k : Nat) : (pdk d k).toList.Nodup := by
  induction k with
  | zero => simp [pdk]
  | succ k ih =>
    unfold pdk
    split
    · exact ih
    · rename_i h
      rw [Array.toList_push]
      exact List.nodup_append.2 ⟨ih, by simp, fun a ha b hb => by simp at hb; subst hb; exact fun e => h (e ▸ ha)⟩

theorem pdk_size (d : Array (List Int)) (k : Nat) : (pdk d k).size ≤ k := by
  induction k with
  | zero => simp [pdk]
  | succ k ih =>
    unfold pdk
    split
    · omega
    · rw [Array.size_push]; omega

/-- Is the k-th name among the first ones' i first? -/
def oldb (d : Array (List Int)) (k i : Nat) : Bool := decide (d[k]! ∈ (pdk d k).toList.take i)

theorem oldb_zero (d : Array (List Int)) (k : Nat) : oldb d k 0 = false := by simp [oldb]
theorem oldb_succ (d : Array (List Int)) (k i : Nat) (h : i < (pdk d k).size) : oldb d k (i + 1) = (oldb d k i || decide ((pdk d k)[i]! = d[k]!)) := by
  unfold oldb
  have h' : i < (pdk d k).toList.length := by simpa using h
  rw [List.take_succ_eq_append_getElem h', getElem!_pos (pdk d k) i h]
  simp only [List.mem_append, List.mem_singleton, Array.getElem_toList, Bool.decide_or]
  congr 1
  exact decide_eq_decide.2 eq_comm
theorem oldb_all (d : Array (List Int)) (k : Nat) : oldb d k (pdk d k).size = decide (d[k]! ∈ (pdk d k).toList) := by
  unfold oldb
  rw [List.take_of_length_le (by simp)]
theorem pdk_old (d : Array (List Int)) (k : Nat) (h : oldb d k (pdk d k).size = true) : pdk d (k + 1) = pdk d k := by
  rw [oldb_all, decide_eq_true_eq] at h
  rw [pdk, if_pos h]
theorem pdk_new (d : Array (List Int)) (k : Nat) (h : oldb d k (pdk d k).size = false) : pdk d (k + 1) = (pdk d k).push d[k]! := by
  rw [oldb_all, decide_eq_false_iff_not] at h
  rw [pdk, if_neg h]

theorem pdk_ids (d : Array (List Int)) (n k : Nat) (hk : k ≤ n) (h : ∀ i, i < n → IsId d[i]!) (i : Nat) (hi : i < (pdk d k).size) : IsId (pdk d k)[i]! := by
  obtain ⟨j, hj, e⟩ := (pdk_mem d k (pdk d k)[i]!).1 (at_mem i hi)
  rw [← e]
  exact h j (by omega)

theorem pdk_mb (d : Array (List Int)) (n : Nat) (h : n ≤ 20) : mb [97] [98] (pdk d n).toList = true := by
  have h1 : txtB [97] 200 = true := by decide
  have h2 : txtB [98] 200 = true := by decide
  have h3 := pdk_size d n
  unfold mb
  rw [h1, h2, decide_eq_true (by simp; omega), decide_eq_true (pdk_nodup d n)]
  rfl

theorem enc_few (ds : List (List Int)) (h : ∀ x ∈ ds, IsId x) (hl : ds.length ≤ 20) : (enc z20 ds [97] [98] []).length ≤ 16384 := by
  have h1 := wls_pl ds h
  have h2 : (tb (hx z20)).length = 40 := hex_len z20 kz_id
  rw [enc_lines]
  simp [ln, h1, h2, tre, aut, com]
  omega

end Go.Proofs.YtojgablpjdlegabGreatDoor
