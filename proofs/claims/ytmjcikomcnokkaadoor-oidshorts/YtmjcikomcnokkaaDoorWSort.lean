/- sort.Sort over a given pdqsort; row.sorted, Sort. -/
import Derived.Test.YtmjcikomcnokkaaDoorWCompact
import Derived.Test.YtmjcikomcnokkaaDoorShelf
namespace Go.Proofs.YtmjcikomcnokkaaDoor
open Go.RowKit Go.Shelf

set_option maxHeartbeats 2000000 in
set_option maxRecDepth 100000 in
theorem pdq_small (b N c a e lim : Nat) (d : Array (List Int)) (w : World) (h : Rw w b N d) (hae : a ≤ e) (he : e ≤ d.size) (hsz : d.size < 1000000) (h12 : e - a ≤ 12) :
    Calls Tryd.prog 56 #[iv b d.size c, .int .i64 a, .int .i64 e, .int .i64 lim] w fun ee w' => ee = .returned (.tuple #[]) ∧ To b N w (Sort.insertionSort ltl d a e) w' := by
  have hi := ins_any b N c a e d w h hae he hsz
  have hz : (e : Int) - (a : Int) ≤ 12 := by omega
  have hw1 : IntKind.i64.wrap ((e : Int) - (a : Int)) = (e : Int) - (a : Int) := wraps_i64 _ (by omega) (by omega)
  generalize d.size = n at *
  generalize Sort.insertionSort ltl d a e = d2 at *
  clear h
  go_enter Tryd.func56, Tryd.ntmps56
  go_wp2_with fail
  go_loopw [1, 2] (fun v1 v2 wr => v1 = .int .i64 a ∧ v2 = .int .i64 e ∧ wr = w) (fun _ _ _ => 1)
  case atStart => exact ⟨rfl, rfl, rfl⟩
  case round =>
    obtain ⟨rfl, rfl, rfl⟩ := hrel
    go_wp2_with (go_at_call 64; refine hi.mono ?_; rintro ee w2 ⟨rfl, hT⟩)
    exact bodyPost_ret (results_none (by kernel_rfl) _ _ _) rfl ⟨rfl, hT⟩

/-- What is asked of pdqsort at a row of n names. -/
def Pdq (n : Nat) : Prop := ∀ (b N c : Nat) (d : Array (List Int)) (w : World) (lim : Nat), Rw w b N d → d.size = n → lim ≤ 100 →
  Calls Tryd.prog 56 #[iv b n c, .int .i64 0, .int .i64 n, .int .i64 lim] w fun e w' => e = .returned (.tuple #[]) ∧ ∃ d', Sort.PermIn 0 n d d' ∧ Sort.SortedIn ltl 0 n d' ∧ To b N w d' w'

theorem pdq_is_small (n : Nat) (h : n ≤ 12) : Pdq n := by
  intro b N c d w lim hr hn _
  have hs := Sort.insertionSort_holds (lt := ltl) ltl_swo d 0 n (by omega) (by omega)
  have := pdq_small b N c 0 n lim d w hr (by omega) (by omega) (by omega) (by omega)
  rw [hn] at this
  exact this.mono fun e w' ⟨h1, h2⟩ => ⟨h1, _, hs.1, hs.2, h2⟩

theorem bl_le (n : Nat) : Lib.bitLen n ≤ 100 := by
  have aux : ∀ f x, Lib.bitLenAux f x ≤ f := by
    intro f
    induction f with
    | zero => intro x; exact Nat.le_refl _
    | succ f ih =>
      intro x
      rw [Lib.bitLenAux]
      split
      · omega
      · have := ih (x / 2); omega
  have := aux 64 n
  unfold Lib.bitLen
  omega

set_option maxHeartbeats 2000000 in
set_option maxRecDepth 100000 in
theorem sort_any (n : Nat) (hP : Pdq n) (b N c : Nat) (d : Array (List Int)) (w : World) (h : Rw w b N d) (hn : d.size = n) (hlim : n ≤ 100000) :
    Calls Tryd.prog 42 #[iv b n c] w fun e w' => e = .returned (.tuple #[]) ∧ ∃ d', Sort.PermIn 0 n d d' ∧ Sort.SortedIn ltl 0 n d' ∧ To b N w d' w' := by
  have m0 := mLen b n c
  have hl := len_any (some ⟨b, 0, none⟩) n c w
  by_cases h1 : n ≤ 1
  · have H : Hid (∃ d', Sort.PermIn 0 n d d' ∧ Sort.SortedIn ltl 0 n d' ∧ To b N w d' w) := ⟨d, Sort.permIn_refl d 0 n, (fun i j h1 h2 h3 => by omega), To.refl h⟩
    have hz : (n : Int) ≤ 1 := by omega
    clear h hn
    go_enter Tryd.func42, Tryd.ntmps42
    go_wp2_with (go_at_call 101; refine hl.mono ?_; rintro e w' ⟨rfl, rfl⟩)
    exact bodyPost_ret (results_none (by kernel_rfl) _ _ _) rfl ⟨rfl, H.out⟩
  · have hp := hP b N c d w (Lib.bitLen n) h hn (bl_le n)
    have hb := Any.bits_Len Tryd.blen (n : Int) w (by omega) (by omega)
    change Calls Tryd.prog 55 _ w _ at hb
    rw [Int.toNat_natCast] at hb
    have hw1 : IntKind.u64.wrap (n : Int) = n := wraps_u64 _ (by omega) (by omega)
    have hz : ¬ (n : Int) ≤ 1 := by omega
    clear h hn
    generalize Lib.bitLen n = lim at *
    go_enter Tryd.func42, Tryd.ntmps42
    go_wp2_with (first
      | (go_at_call 101; refine hl.mono ?_; rintro e w' ⟨rfl, rfl⟩)
      | (go_at_call 55; refine hb.mono ?_; rintro e w' ⟨rfl, rfl⟩)
      | (go_at_call 56; refine hp.mono ?_; rintro e w2 ⟨rfl, hT⟩))
    go_end0
    exact ⟨rfl, hT⟩

/-- Rising, each once. -/
def Inc (l : List (List Int)) : Prop := l.Pairwise (fun x y => ltl x y = true)

theorem cpt_mem : ∀ (l : List (List Int)) (x : List Int), x ∈ cpt l ↔ x ∈ l
  | [], x => Iff.rfl
  | [y], x => Iff.rfl
  | y :: z :: r, x => by
    have i := cpt_mem (z :: r) x
    rw [cpt]
    split
    · rename_i h
      rw [i, h]
      simp
    · rw [List.mem_cons, i]
      exact List.mem_cons.symm

theorem cpt_inc : ∀ (l : List (List Int)), l.Pairwise (fun x y => ltl y x = false) → Inc (cpt l)
  | [], _ => List.Pairwise.nil
  | [y], _ => List.pairwise_singleton _ _
  | y :: z :: r, h => by
    have h2 := (List.pairwise_cons.1 h).2
    have i := cpt_inc (z :: r) h2
    rw [cpt]
    split
    · exact i
    · rename_i hne
      refine List.pairwise_cons.2 ⟨fun x hx => ?_, i⟩
      rw [cpt_mem] at hx
      have hyz := (List.pairwise_cons.1 h).1 z (by simp)
      cases hyz' : ltl y z with
      | false => exact absurd (ltl_total y z hyz' hyz) hne
      | true =>
        rcases List.mem_cons.1 hx with rfl | hx
        · exact hyz'
        · have hzx := (List.pairwise_cons.1 h2).1 x hx
          cases hyx : ltl y x with
          | true => rfl
          | false =>
            have := ltl_swo.ntrans y x z hyx hzx
            rw [hyz'] at this
            cases this

theorem sorted_pw (d : Array (List Int)) (h : Sort.SortedIn ltl 0 d.size d) : d.toList.Pairwise (fun x y => ltl y x = false) := by
  rw [List.pairwise_iff_getElem]
  intro i j hi hj hij
  have := h i j (by omega) hij (by simpa using hj)
  rw [getElem!_pos d i (by simpa using hi), getElem!_pos d j (by simpa using hj)] at this
  simpa using this

theorem perm_mem (d d' : Array (List Int)) (h : Sort.PermIn 0 d.size d d') (x : List Int) : x ∈ d'.toList ↔ x ∈ d.toList := by
  have := h.2.2
  have e1 : (d'.extract 0 d.size) = d' := by rw [← h.1]; simp
  rw [e1] at this
  simpa using this.mem_iff (a := x)

theorem perm_ids (d d' : Array (List Int)) (hm : ∀ x, x ∈ d'.toList → x ∈ d.toList) (h : ∀ i, i < d.size → IsId d[i]!) : ∀ i, i < d'.size → IsId d'[i]! := by
  intro i hi
  have h1 : d'[i]! ∈ d'.toList := by rw [getElem!_pos d' i hi]; simp
  have h2 := hm _ h1
  obtain ⟨j, hj, e⟩ := List.mem_iff_getElem.1 h2
  have := h j (by simpa using hj)
  rw [getElem!_pos d j (by simpa using hj)] at this
  rw [← e]
  simpa using this

/-- What Sort answers. -/
def Srt (d r : Array (List Int)) : Prop := Inc r.toList ∧ ∀ x, x ∈ r.toList ↔ x ∈ d.toList

set_option maxHeartbeats 2000000 in
set_option maxRecDepth 100000 in
theorem sorted_any (n : Nat) (hP : Pdq n) (ao : Option Addr) (c : Nat) (d : Array (List Int)) (w : World) (h : Is w (.slice ao n c) d) (hn : d.size = n) (hlim : n ≤ 100000) :
    Calls Tryd.prog 30 #[.slice ao n c] w fun e w' => ∃ v d', e = .returned v ∧ Sort.PermIn 0 n d d' ∧ Sort.SortedIn ltl 0 n d' ∧ Nw w.heap.size w' v d' ∧ Below w.heap.size w w' := by
  have hc := clone_any ao n c d w h hn hlim
  have hs := fun b N c w h => sort_any n hP b N c d w h hn hlim
  have HN : Hid (d.size = n) := hn
  clear h hn
  go_enter Tryd.func30, Tryd.ntmps30
  go_wp2_with fail
  refine hc.mono ?_
  rintro e w1 ⟨v, rfl, hNw, hB⟩
  have HB : Hid (Below w.heap.size w w1) := hB
  have hB2 := hB.size
  clear hc hB
  rcases hNw with ⟨h0, ao', c', rfl⟩ | ⟨h0, b, c', rfl, hcc, hb, hR⟩
  · have hn0 : n = 0 := by have := HN.out; omega
    have hl := len_any ao' 0 c' w1
    have m0 : ∀ W, (method 239 62 (.slice ao' 0 c') "Len").run Tryd.prog W = .ok (101, .slice ao' 0 c') W := fun W => by kernel_rfl
    have hso : Calls Tryd.prog 42 #[.iface 62 (.slice ao' 0 c')] w1 fun e w' => e = .returned (.tuple #[]) ∧ w' = w1 := by
      clear hs
      go_enter Tryd.func42, Tryd.ntmps42
      go_wp2_with (go_at_call 101; refine hl.mono ?_; rintro e w' ⟨rfl, rfl⟩)
      exact bodyPost_ret (results_none (by kernel_rfl) _ _ _) rfl ⟨rfl, rfl⟩
    have H0 : Hid (d.size = 0) := h0
    clear hs hl m0 h0
    go_wp2_with (first | (go_at_call 42; refine hso.mono ?_; rintro e w' ⟨rfl, rfl⟩))
    go_ret
    exact ⟨_, d, rfl, Sort.permIn_refl d 0 n, (fun i j h1 h2 h3 => by omega), .inl ⟨H0.out, _, _, rfl⟩, HB.out⟩
  · have hso := hs b (c' * 20) c' w1 hR
    have HC : Hid (d.size ≤ c') := hcc
    have HBb : Hid (w.heap.size ≤ b) := hb
    have hdn := HN.out
    rw [hdn]
    have H0 : Hid (0 < d.size) := h0
    clear hs hR hcc hb hdn h0
    go_wp2_with (first | (go_at_call 42; refine hso.mono ?_; rintro e w2 ⟨rfl, d', hp1, hp2, hT⟩))
    have hsz : d'.size = n := by rw [hp1.1]; exact HN.out
    go_ret
    refine ⟨_, d', rfl, hp1, hp2, .inr ⟨by have := H0.out; have := HN.out; omega, b, c', ?_, by have := HC.out; have := HN.out; omega, HBb.out, hT.rw⟩, HB.out.trans (hT.fr.below _ hB2 (fun i hi e => by have := HBb.out; omega))⟩
    rw [hsz]
    rfl

set_option maxHeartbeats 2000000 in
set_option maxRecDepth 100000 in
theorem Sort_any (n : Nat) (hP : Pdq n) (ao : Option Addr) (c : Nat) (d : Array (List Int)) (w : World) (h : Is w (.slice ao n c) d) (hn : d.size = n) (hlim : n ≤ 100000) :
    Calls Tryd.prog 13 #[.slice ao n c] w fun e w' => ∃ v r, e = .returned v ∧ Srt d r ∧ r.size ≤ n ∧ Nw w.heap.size w' v r ∧ Below w.heap.size w w' := by
  have hs := sorted_any n hP ao c d w h hn hlim
  have HN : Hid (d.size = n) := hn
  clear h hn
  go_enter Tryd.func13, Tryd.ntmps13
  go_wp2_with fail
  refine hs.mono ?_
  rintro e w1 ⟨v, d', rfl, hp1, hp2, hNw, hB⟩
  have HB : Hid (Below w.heap.size w w1) := hB
  have hB2 := hB.size
  have hsz : Hid (d'.size = n) := by rw [hp1.1]; exact HN
  have HM : Hid (∀ x, x ∈ d'.toList ↔ x ∈ d.toList) := fun x => perm_mem d d' (by rw [HN.out]; exact hp1) x
  have HI : Hid (Inc (cpt d'.toList)) := cpt_inc _ (sorted_pw d' (by rw [hsz.out]; exact hp2))
  clear hs hB hp1 hp2
  rcases hNw with ⟨h0, ao', c', rfl⟩ | ⟨h0, b, c', rfl, hcc, hb, hR⟩
  · have hn0 : n = 0 := by have := hsz.out; omega
    have hso : Calls Tryd.prog 29 #[.slice ao' 0 c'] w1 fun e w' => e = .returned (.slice ao' 0 c') ∧ w' = w1 := by
      go_enter Tryd.func29, Tryd.ntmps29
      go_wp2
      go_ret
      exact ⟨rfl, rfl⟩
    have H0 : Hid (d'.size = 0) := h0
    clear h0
    go_wp2_with (first | (go_at_call 29; refine hso.mono ?_; rintro e w' ⟨rfl, rfl⟩))
    go_ret
    have hd' : d'.toList = [] := List.eq_nil_of_length_eq_zero (by simpa using H0.out)
    refine ⟨_, d', rfl, ⟨?_, HM.out⟩, by have := H0.out; omega, .inl ⟨H0.out, _, _, rfl⟩, HB.out⟩
    rw [hd']
    exact List.Pairwise.nil
  · have hso := compact_any b c' n d' w1 hR hsz.out (by have := hsz.out; omega) hlim
    have HC : Hid (d'.size ≤ c') := hcc
    have HBb : Hid (w.heap.size ≤ b) := hb
    rw [hsz.out]
    have H0 : Hid (0 < d'.size) := h0
    clear hR hcc hb h0
    go_wp2_with (first | (go_at_call 29; refine hso.mono ?_; rintro e w2 ⟨m, r, rfl, hm, hr, hT⟩))
    go_ret
    have hle : m ≤ n := by
      have h1 := cpt_len d'.toList
      rw [← hr] at h1
      have h2 := hsz.out
      simp at h1
      omega
    have hpos : 0 < r.size := by
      rcases Nat.eq_zero_or_pos r.size with h | h
      · exfalso
        have hr0 : r.toList = [] := List.eq_nil_of_length_eq_zero (by simpa using h)
        have hd0 : d'[0]! ∈ d'.toList := by rw [getElem!_pos d' 0 H0.out]; simp
        rw [← cpt_mem, ← hr, hr0] at hd0
        cases hd0
      · exact h
    refine ⟨_, r, rfl, ⟨by rw [hr]; exact HI.out, fun x => by rw [hr, cpt_mem]; exact HM.out x⟩, by omega, .inr ⟨hpos, b, c', ?_, by have := HC.out; have := hsz.out; omega, HBb.out, hT.rw⟩, HB.out.trans (hT.fr.below _ hB2 (fun i hi e => by have := HBb.out; omega))⟩
    rw [hm]
    rfl

end Go.Proofs.YtmjcikomcnokkaaDoor
