/- OidShorts. -/
import Derived.Test.YtmjcikomcnokkaaDoorXSho
import Derived.Test.YtmjcikomcnokkaaDoorWFao
import Derived.Test.YtmjcikomcnokkaaDoorWPdq
namespace Go.Proofs.YtmjcikomcnokkaaDoor
open Go.RowKit

theorem no_at {r : Array (List Int)} {z : List Int} (hno : z ∉ r.toList) (j : Nat) : (decide (j < r.size) && decide (r[j]! = z)) = false := by
  by_cases e : j < r.size
  · have : r[j]! ≠ z := fun h => hno (h ▸ at_mem j e)
    simp only [decide_eq_false this, Bool.and_false]
  · simp [e]

set_option maxRecDepth 100000 in
set_option maxHeartbeats 2000000 in
theorem short_no (B : Nat) (v : Value) (r : Array (List Int)) (z : List Int) (w : World) (h : Nw B w v r) (hu : Up r) (hz : IsId z) (hsz : r.size < 100000) (hno : z ∉ r.toList) :
    Calls Tryd.prog 22 #[v, idv z] w fun e w' => e = .returned (.tuple #[.string { data := #[] }, .int .i64 6]) ∧ Below w.heap.size w w' := by
  have HB0 : Hid (Below w.heap.size w (w.alloc (.cells (vals (cl z) 20).toArray 23))) := new_below _ _
  have hfd := find_any B v r z _ (h.keep HB0.out) hu hz hsz
  have hl0 := box_load w _ z hz (Below.refl _ _)
  have HNo : Hid (∀ j, (decide (j < r.size) && decide (r[j]! = z)) = false) := fun j => no_at hno j
  clear h hu hno
  go_enter Tryd.func22, Tryd.ntmps22
  go_wp2_with (refine wpList_ldv rfl 23 _ rfl ⟨w.heap.size, 0, none⟩ rfl (idv z) hl0 ?_; clear hl0)
  refine hfd.mono ?_
  rintro e w1 ⟨j, rfl, hj, b1⟩
  rw [HNo.out j]
  have B1 : Hid (Below w.heap.size w w1) := HB0.out.trans (b1.mono HB0.out.size)
  clear hfd hj b1
  go_wp2_with fail
  go_ret2
  exact ⟨rfl, B1.out⟩

set_option maxRecDepth 100000 in
set_option maxHeartbeats 2000000 in
theorem xshort_no (B : Nat) (v : Value) (r : Array (List Int)) (z : List Int) (w : World) (h : Dn B w v r) (hu : Up r) (hz : IsId z) (hsz : r.size < 100000) (hno : z ∉ r.toList) :
    Calls Tryd.prog 23 #[v, idv z] w fun e w' => e = .returned (.tuple #[.string { data := #[] }, .int .i64 6]) ∧ Below w.heap.size w w' := by
  have HB0 : Hid (Below w.heap.size w (w.alloc (.cells (vals (cl z) 20).toArray 22))) := new_below _ _
  have hfd := xfind_any B v r z _ (h.keep HB0.out) hu hz hsz
  have hl0 := box22 w _ z hz (Below.refl _ _)
  have HNo : Hid (∀ j, (decide (j < r.size) && decide (r[j]! = z)) = false) := fun j => no_at hno j
  clear h hu hno
  go_enter Tryd.func23, Tryd.ntmps23
  go_wp2_with (refine wpList_ldv rfl 22 _ rfl ⟨w.heap.size, 0, none⟩ rfl (idv z) hl0 ?_; clear hl0)
  refine hfd.mono ?_
  rintro e w1 ⟨j, rfl, hj, b1⟩
  rw [HNo.out j]
  have B1 : Hid (Below w.heap.size w w1) := HB0.out.trans (b1.mono HB0.out.size)
  clear hfd hj b1
  go_wp2_with fail
  go_ret2
  exact ⟨rfl, B1.out⟩

/-- A text that no front may be. -/
def Bad (s : ByteArray) : Prop := s.size < 4 ∨ 40 < s.size ∨ ¬ ∀ c ∈ ns s, isS c

set_option maxRecDepth 100000 in
set_option maxHeartbeats 2000000 in
theorem match_no (v : Value) (s : ByteArray) (w : World) (hs : s.size ≤ 100) (hb : Bad s) :
    Calls Tryd.prog 24 #[v, .string s] w fun e w' => e = .returned (.tuple #[idv z20, .int .i64 2]) ∧ Below w.heap.size w w' := by
  have r1 := z_row w 23
  have HB : Hid (Below w.heap.size w (w.alloc (Obj.cells zcs 23))) := new_below _ _
  by_cases h4 : s.size < 4
  · have q4 : decide ((s.size : Int) < 4) = true := by simp; omega
    have q4' : (s.size : Int) < 4 := by omega
    clear hb
    go_enter Tryd.func24, Tryd.ntmps24
    go_wp2_with (refine wpList_st rfl 23 _ _ rfl w.heap.size rfl (cl z20) rfl r1 size23 (fun j => rfl) ?_; intro w4 h4 f4; clear r1)
    refine bodyPost_ret (results_two rfl _ rfl h4 Tryd.underlying23 rfl size23) rfl ⟨rfl, ?_⟩
    exact st_below HB.out f4
  · have q4 : decide ((s.size : Int) < 4) = false := by simp; omega
    have q4' : ¬ s.size < 4 := h4
    by_cases h40 : 40 < s.size
    · have q40 : decide ((40 : Int) < (s.size : Int)) = true := by simp; omega
      have q40' : (40 : Int) < (s.size : Int) := by omega
      clear hb
      go_enter Tryd.func24, Tryd.ntmps24
      go_wp2_with (refine wpList_st rfl 23 _ _ rfl w.heap.size rfl (cl z20) rfl r1 size23 (fun j => rfl) ?_; intro w4 h4 f4; clear r1)
      refine bodyPost_ret (results_two rfl _ rfl h4 Tryd.underlying23 rfl size23) rfl ⟨rfl, ?_⟩
      exact st_below HB.out f4
    · have q40 : decide ((40 : Int) < (s.size : Int)) = false := by simp; omega
      have q40' : ¬ 40 < s.size := h40
      have hS : ¬ ∀ c ∈ ns s, isS c := by rcases hb with h | h | h <;> first | omega | exact h
      have has := allSigns_any s (w.alloc (Obj.cells zcs 23)) (by omega)
      rw [decide_eq_false hS] at has
      clear hb hS
      go_enter Tryd.func24, Tryd.ntmps24
      go_wp2_with (first
        | (go_at_call 26; refine has.mono ?_; rintro e w1 ⟨rfl, b1⟩; have q1 := rowIs_fr r1 (Fr.ofBelow (P := fun _ => False) b1) (fun h => h); have B1 : Hid (Below w.heap.size w w1) := HB.out.trans (b1.mono (by simp)); clear b1 r1 has)
        | (refine wpList_st rfl 23 _ _ rfl w.heap.size rfl (cl z20) rfl q1 size23 (fun j => rfl) ?_; intro w4 h4 f4; clear q1))
      refine bodyPost_ret (results_two rfl _ rfl h4 Tryd.underlying23 rfl size23) rfl ⟨rfl, ?_⟩
      exact st_below B1.out f4

set_option maxRecDepth 100000 in
set_option maxHeartbeats 2000000 in
theorem xmatch_no (v : Value) (s : ByteArray) (w : World) (hs : s.size ≤ 100) (hb : Bad s) :
    Calls Tryd.prog 25 #[v, .string s] w fun e w' => e = .returned (.tuple #[idv z20, .int .i64 2]) ∧ Below w.heap.size w w' := by
  have r1 := z_row22 w
  have HB : Hid (Below w.heap.size w (w.alloc (Obj.cells zcs 22))) := new_below _ _
  by_cases h4 : s.size < 4
  · have q4 : decide ((s.size : Int) < 4) = true := by simp; omega
    have q4' : (s.size : Int) < 4 := by omega
    clear hb
    go_enter Tryd.func25, Tryd.ntmps25
    go_wp2_with (refine wpList_st rfl 22 _ _ rfl w.heap.size rfl (cl z20) rfl r1 size22 (fun j => rfl) ?_; intro w4 h4 f4; clear r1)
    refine bodyPost_ret (results_two rfl _ rfl h4 Tryd.underlying22 rfl size22) rfl ⟨rfl, ?_⟩
    exact st_below HB.out f4
  · have q4 : decide ((s.size : Int) < 4) = false := by simp; omega
    have q4' : ¬ s.size < 4 := h4
    by_cases h40 : 40 < s.size
    · have q40 : decide ((40 : Int) < (s.size : Int)) = true := by simp; omega
      have q40' : (40 : Int) < (s.size : Int) := by omega
      clear hb
      go_enter Tryd.func25, Tryd.ntmps25
      go_wp2_with (refine wpList_st rfl 22 _ _ rfl w.heap.size rfl (cl z20) rfl r1 size22 (fun j => rfl) ?_; intro w4 h4 f4; clear r1)
      refine bodyPost_ret (results_two rfl _ rfl h4 Tryd.underlying22 rfl size22) rfl ⟨rfl, ?_⟩
      exact st_below HB.out f4
    · have q40 : decide ((40 : Int) < (s.size : Int)) = false := by simp; omega
      have q40' : ¬ 40 < s.size := h40
      have hS : ¬ ∀ c ∈ ns s, isS c := by rcases hb with h | h | h <;> first | omega | exact h
      have HNS : Hid (¬ ∀ i, i < s.size → isS (bt (ns s) i)) := fun h => hS ((all_isS (ns s) s.size (ns_len s)).2 h)
      have HBt : Hid (∀ i, i < s.size → 0 ≤ bt (ns s) i ∧ bt (ns s) i < 256) := fun i hi => by
        rw [bt_get (by rw [ns_len]; exact hi)]
        exact ns_byt s _ (List.getElem_mem _)
      have HSz : Hid (s.size ≤ 40) := by show s.size ≤ 40; omega
      obtain ⟨w0, hw0⟩ : ∃ w0, w.alloc (Obj.cells zcs 22) = w0 := ⟨_, rfl⟩
      have HW0 : Hid (w.alloc (Obj.cells zcs 22) = w0) := hw0
      rw [hw0] at r1 HB
      have HR1 : Hid (w0.rowIs w.heap.size 22 20 (cl z20)) := r1
      clear hb hS hw0 r1
      go_enter Tryd.func25, Tryd.ntmps25
      go_wp2_with fail
      rw [show w.alloc (Obj.cells #[.int .u8 0, .int .u8 0, .int .u8 0, .int .u8 0, .int .u8 0, .int .u8 0, .int .u8 0, .int .u8 0, .int .u8 0, .int .u8 0, .int .u8 0, .int .u8 0, .int .u8 0, .int .u8 0, .int .u8 0, .int .u8 0, .int .u8 0, .int .u8 0, .int .u8 0, .int .u8 0] 22) = w0 from HW0.out]
      go_loopw [6] (fun s6 wr => ∃ i : Nat, s6 = .int .i64 i ∧ i ≤ s.size ∧ Hid (∀ j, j < i → isS (bt (ns s) j)) ∧ wr = w0) (fun s6 _ => s.size - (intOf s6).toNat)
      case atStart => exact ⟨0, rfl, Nat.zero_le _, fun j hj => by omega, rfl⟩
      case round =>
        obtain ⟨i, rfl, hi2, HJ, hwr⟩ := hrel
        subst hwr
        by_cases hi : i < s.size
        · have hqi : (i : Int) < (s.size : Int) := by omega
          have hat := fun W => str_at s i hi W
          have hdi := fun W => digit_any (bt (ns s) i) (HBt.out i hi).1 (HBt.out i hi).2 W
          have hwi : IntKind.i64.wrap ((i : Int) + 1) = (i : Int) + 1 := by have := HSz.out; rw [IntKind.wrap_i64]; omega
          have HIi : Hid (i < s.size) := hi
          by_cases hisS : isS (bt (ns s) i)
          · have hdb := dg_b _ hisS
            rw [if_pos hisS] at hdi
            have HJ' : Hid (∀ j, j < i + 1 → isS (bt (ns s) j)) := fun j hj => by
              by_cases e : j = i
              · subst e; exact hisS
              · exact HJ.out j (by omega)
            generalize bt (ns s) i = ch at hat hdi hisS hdb
            have g1 : decide (dg ch < 0) = false := by simp; omega
            have g1' : ¬ dg ch < 0 := by omega
            clear hisS hdb hi2 HJ
            go_wp2_with (go_at_call 28; refine (hdi _).mono ?_; rintro e w2 ⟨rfl, hw2⟩; subst w2)
            exact ⟨⟨i + 1, by simp, HIi.out, HJ', trivial⟩, by simp [intOf]; have := HIi.out; omega⟩
          · rw [if_neg hisS] at hdi
            generalize bt (ns s) i = ch at hat hdi hisS
            have r1 := HR1.out
            clear hisS hi2 HJ
            go_wp2_with (first
              | (go_at_call 28; refine (hdi _).mono ?_; rintro e w2 ⟨rfl, hw2⟩; subst w2)
              | (refine wpList_st rfl 22 _ _ rfl w.heap.size rfl (cl z20) rfl r1 size22 (fun j => rfl) ?_; intro w4 h4 f4; clear r1))
            refine bodyPost_ret (results_two rfl _ rfl h4 Tryd.underlying22 rfl size22) rfl ⟨rfl, ?_⟩
            exact st_below HB.out f4
        · exact absurd (fun j hj => HJ.out j (by omega)) HNS.out

theorem sh_ex {r : Array (List Int)} {k : Nat} (hu : Up r) (hids : ∀ i, i < r.size → IsId r[i]!) (hk : k < r.size) : ∃ n, Sh r k n := by
  obtain ⟨c1, hc1⟩ := cm_ex r[k]! r[k - 1]!
  obtain ⟨c2, hc2⟩ := cm_ex r[k]! r[k + 1]!
  exact ⟨_, sh_of hu hids hk (al_of rfl hk (fun _ => hc1) (fun _ => hc2) rfl) (iv_ex hu hids)⟩

theorem short_both {r : Array (List Int)} {z : List Int} (hu : Up r) (hids : ∀ i, i < r.size → IsId r[i]!) (hz : IsId z) (hsz : r.size < 100000) :
    ∃ S e, (∀ B v W, Nw B W v r → Calls Tryd.prog 22 #[v, idv z] W fun e' w' => e' = .returned (.tuple #[.string S, .int .i64 e]) ∧ Below W.heap.size W w') ∧
      (∀ B v W, Dn B W v r → Calls Tryd.prog 23 #[v, idv z] W fun e' w' => e' = .returned (.tuple #[.string S, .int .i64 e]) ∧ Below W.heap.size W w') ∧
      (e = 6 ∨ e = 0 ∧ 4 ≤ S.size ∧ S.size ≤ 40 ∧ (∀ c ∈ ns S, isS c) ∧ Mt r (ns S) z 0) := by
  by_cases hin : z ∈ r.toList
  · obtain ⟨k, hk, rfl⟩ := mem_at hin
    obtain ⟨n, hn⟩ := sh_ex hu hids hk
    have hid := hids k hk
    have F := ft_of hid n hn.hi
    refine ⟨strOfNums ((hx r[k]!).take n), 0, fun B v W h => ?_, fun B v W h => ?_, .inr ⟨rfl, by rw [F.sz]; exact hn.lo, by rw [F.sz]; exact hn.hi, F.sg, by rw [F.ns]; exact sh_one hk hid hn⟩⟩
    · refine (short_yes B v r k W h hu hk hsz).mono ?_
      rintro e' w' ⟨n', rfl, hn', hb⟩
      rw [hn'.uniq hid hn]
      exact ⟨rfl, hb⟩
    · refine (xshort_yes B v r k W h hu hk hsz).mono ?_
      rintro e' w' ⟨n', rfl, hn', hb⟩
      rw [hn'.uniq hid hn]
      exact ⟨rfl, hb⟩
  · exact ⟨{ data := #[] }, 6, fun B v W h => short_no B v r z W h hu hz hsz hin, fun B v W h => xshort_no B v r z W h hu hz hsz hin, .inl rfl⟩

theorem mt_ex {r : Array (List Int)} {p : List Int} (hu : Up r) (hids : ∀ i, i < r.size → IsId r[i]!) (hp : p.length ≤ 40) (hs : ∀ c ∈ p, isS c) : ∃ x e, Mt r p x e ∧ IsId x := by
  obtain ⟨a, b, iv⟩ := iv_ex hu hids p hp hs
  by_cases h1 : b ≤ a
  · exact ⟨_, _, mt_none iv h1, z20_id⟩
  · by_cases h2 : a + 1 < b
    · exact ⟨_, _, mt_many iv h2, z20_id⟩
    · exact ⟨_, _, mt_one iv (by omega), hids a (by have := iv.le; omega)⟩

theorem match_both {r : Array (List Int)} {s : ByteArray} (hu : Up r) (hids : ∀ i, i < r.size → IsId r[i]!) (hsz : r.size < 100000) (hs : s.size ≤ 100) :
    ∃ x e, IsId x ∧ (∀ B v W, Nw B W v r → Calls Tryd.prog 24 #[v, .string s] W fun e' w' => e' = .returned (.tuple #[idv x, .int .i64 e]) ∧ Below W.heap.size W w') ∧
      (∀ B v W, Dn B W v r → Calls Tryd.prog 25 #[v, .string s] W fun e' w' => e' = .returned (.tuple #[idv x, .int .i64 e]) ∧ Below W.heap.size W w') := by
  by_cases hb : Bad s
  · exact ⟨z20, 2, z20_id, fun B v W _ => match_no v s W hs hb, fun B v W _ => xmatch_no v s W hs hb⟩
  · have h4 : 4 ≤ s.size := by
      by_cases h : s.size < 4
      · exact absurd (.inl h) hb
      · omega
    have h40 : s.size ≤ 40 := by
      by_cases h : 40 < s.size
      · exact absurd (.inr (.inl h)) hb
      · omega
    have hS : ∀ c ∈ ns s, isS c := Classical.byContradiction fun h => hb (.inr (.inr h))
    obtain ⟨x, e, hm, hx⟩ := mt_ex hu hids (p := ns s) (by rw [ns_len]; exact h40) hS
    refine ⟨x, e, hx, fun B v W h => match_is B v r s W h hu hsz h4 h40 hS x e hm, fun B v W h => ?_⟩
    refine (xmatch_yes B v r s W h hsz h4 h40 hS).mono ?_
    rintro e' w' ⟨y, f, rfl, hm', hb'⟩
    obtain ⟨rfl, rfl⟩ := hm.uniq hm'
    exact ⟨rfl, hb'⟩

set_option maxRecDepth 100000 in
set_option maxHeartbeats 4000000 in
theorem shorts_main (ao : Option Addr) (n c : Nat) (d : Array (List Int)) (z : List Int) (s : ByteArray) (w : World) (h : Is w (.slice ao n c) d) (hn : d.size = n) (hz : IsId z) (hlim : n ≤ 60) (hs : s.size ≤ 100) :
    Calls Tryd.prog 5 #[.slice ao n c, idv z, .string s] w fun e w' => e = .returned (.bool true) ∧ Below w.heap.size w w' := by
  have HB0 : Hid (Below w.heap.size w (w.alloc (.cells (vals (cl z) 20).toArray 23))) := new_below _ _
  have HBox : Hid (∀ W, Below (w.alloc (.cells (vals (cl z) 20).toArray 23)).heap.size (w.alloc (.cells (vals (cl z) 20).toArray 23)) W → (loadVar 23 ⟨w.heap.size, 0, none⟩).run Tryd.prog W = .ok (idv z) W) := fun W hW => box_load w W z hz hW
  obtain ⟨w0, hw0⟩ : ∃ w0, w.alloc (.cells (vals (cl z) 20).toArray 23) = w0 := ⟨_, rfl⟩
  have HW0 : Hid (w.alloc (.cells (vals (cl z) 20).toArray 23) = w0) := hw0
  rw [hw0] at HB0 HBox
  have HI : Hid (Is w0 (.slice ao n c) d) := h.keep HB0.out
  have HN : Hid (d.size = n) := hn
  have HLim : Hid (n ≤ 60) := hlim
  have q1 : decide ((60 : Int) < (n : Int)) = false := by simp; omega
  have q1' : ¬ 60 < n := by omega
  have q2 : decide ((100 : Int) < (s.size : Int)) = false := by simp; omega
  have q2' : ¬ 100 < s.size := by omega
  have HS100 : Hid (s.size ≤ 100) := hs
  clear h hn hw0 hlim hs
  go_enter Tryd.func5, Tryd.ntmps5
  go_wp2_with fail
  rw [HW0.out]
  refine (known_yes w0).mono ?_
  rintro e w1 ⟨rfl, b1⟩
  have B1 : Hid (Below w0.heap.size w0 w1) := b1
  clear b1 HW0
  have hsort := Sort_any n (pdq_is n (by have := HLim.out; omega)) ao c d w1 (HI.out.keep B1.out) HN.out (by have := HLim.out; omega)
  go_wp2_with fail
  refine hsort.mono ?_
  rintro e w2 ⟨v2, r, rfl, S2, z2, N2, b2⟩
  have B2 : Hid (Below w0.heap.size w0 w2) := B1.out.trans (b2.mono B1.out.size)
  have HS2 : Hid (Srt d r) := S2
  have HZ2 : Hid (r.size ≤ 60) := Nat.le_trans z2 HLim.out
  have HN2 : Hid (Nw w1.heap.size w2 v2 r) := N2
  have HU : Hid (Up r) := up_list.2 S2.1
  clear hsort S2 z2 N2 b2 B1
  have hof := of_any ao n c d w2 (HI.out.keep B2.out) HN.out (by have := HLim.out; omega)
  go_wp2_with fail
  refine hof.mono ?_
  rintro e w3 ⟨v3, rfl, D3, b3⟩
  have hxs := xsort_any _ v3 d w3 D3 (by have := HN.out; have := HLim.out; omega)
  have B3 : Hid (Below w0.heap.size w0 w3) := B2.out.trans (b3.mono B2.out.size)
  have HN3 : Hid (Nw w1.heap.size w3 v2 r) := HN2.out.keep b3
  clear hof D3 b3 B2 HN2
  go_wp2_with fail
  refine hxs.mono ?_
  rintro e w4 ⟨v4, r4, rfl, D4, U4, M4, z4, b4⟩
  obtain rfl : r4 = r := up_uniq U4 HU.out (fun x => by rw [M4 x, HS2.out.2 x])
  have B4 : Hid (Below w0.heap.size w0 w4) := B3.out.trans (b4.mono B3.out.size)
  have HN4 : Hid (Nw w1.heap.size w4 v2 r4) := HN3.out.keep b4
  have HD4 : Hid (Dn w3.heap.size w4 v4 r4) := D4
  clear hxs D4 U4 M4 z4 b4 B3 HN3 HS2 HI
  have hids := HN4.out.ids
  have hsz4 : r4.size < 100000 := by have := HZ2.out; omega
  obtain ⟨S, e0, hs1, hs2, hcase⟩ := short_both HU.out hids hz hsz4
  obtain ⟨x, e1, hx0, hm1, hm2⟩ := match_both (s := s) HU.out hids hsz4 HS100.out
  have HS1 : Hid _ := hs1
  have HS2 : Hid _ := hs2
  have HM1 : Hid _ := hm1
  have HM2 : Hid _ := hm2
  have HCase : Hid _ := hcase
  have HMi : Hid (∀ B v W, Nw B W v r4 → 4 ≤ S.size → S.size ≤ 40 → (∀ c ∈ ns S, isS c) → Mt r4 (ns S) z 0 → Calls Tryd.prog 24 #[v, .string S] W fun e' w' => e' = .returned (.tuple #[idv z, .int .i64 0]) ∧ Below W.heap.size W w') := fun B v W h h4 h40 hs hm => match_is B v r4 S W h HU.out hsz4 h4 h40 hs z 0 hm
  have hex := fun W => eql_ids 23 Tryd.underlying23 hx0 hx0 W
  have hex' : ∀ W, (Op.equalIn 10000 23 (idv x) (idv x)).run Tryd.prog W = .ok true W := fun W => by rw [hex W]; simp
  have hez := fun W => eql_ids 23 Tryd.underlying23 hz hz W
  have hez' : ∀ W, (Op.equalIn 10000 23 (idv z) (idv z)).run Tryd.prog W = .ok true W := fun W => by rw [hez W]; simp
  clear hs1 hs2 hm1 hm2 hcase hids hsz4 hex hez hx0
  have c1 := HS1.out _ v2 w4 HN4.out
  have hl4 := HBox.out w4 B4.out
  go_wp2_with (refine wpList_ldv rfl 23 _ rfl ⟨w.heap.size, 0, none⟩ rfl (idv z) hl4 ?_; clear hl4)
  refine c1.mono ?_
  rintro e w5 ⟨rfl, b5⟩
  have B5 : Hid (Below w0.heap.size w0 w5) := B4.out.trans (b5.mono B4.out.size)
  have HN5 : Hid (Nw w1.heap.size w5 v2 r4) := HN4.out.keep b5
  have HD5 : Hid (Dn w3.heap.size w5 v4 r4) := HD4.out.keep b5
  clear c1 b5 B4 HN4 HD4 HS1
  have c2 := HS2.out _ v4 w5 HD5.out
  have hl5 := HBox.out w5 B5.out
  go_wp2_with (refine wpList_ldv rfl 23 _ rfl ⟨w.heap.size, 0, none⟩ rfl (idv z) hl5 ?_; clear hl5)
  refine c2.mono ?_
  rintro e w6 ⟨rfl, b6⟩
  have B6 : Hid (Below w0.heap.size w0 w6) := B5.out.trans (b6.mono B5.out.size)
  have HN6 : Hid (Nw w1.heap.size w6 v2 r4) := HN5.out.keep b6
  have HD6 : Hid (Dn w3.heap.size w6 v4 r4) := HD5.out.keep b6
  clear c2 b6 B5 HN5 HD5 HS2
  have c3 := HM1.out _ v2 w6 HN6.out
  go_wp2_with fail
  refine c3.mono ?_
  rintro e w7 ⟨rfl, b7⟩
  have B7 : Hid (Below w0.heap.size w0 w7) := B6.out.trans (b7.mono B6.out.size)
  have HN7 : Hid (Nw w1.heap.size w7 v2 r4) := HN6.out.keep b7
  have HD7 : Hid (Dn w3.heap.size w7 v4 r4) := HD6.out.keep b7
  clear c3 b7 B6 HN6 HD6 HM1
  have z7 := z_row w7 23
  have HK8 : Hid (∀ w8, Fr (fun k => k = w7.heap.size) (w7.alloc (Obj.cells zcs 23)) w8 → Below w0.heap.size w0 w8 ∧ Nw w1.heap.size w8 v2 r4 ∧ Calls Tryd.prog 25 #[v4, .string s] w8 fun e' w' => e' = .returned (.tuple #[idv x, .int .i64 e1]) ∧ Below w8.heap.size w8 w') := fun w8 f => by
    have hb := st_new (w := w7) f
    exact ⟨B7.out.trans (hb.mono B7.out.size), HN7.out.keep hb, HM2.out _ v4 w8 (HD7.out.keep hb)⟩
  clear B7 HN7 HD7 HM2
  go_wp2_with (refine wpList_st rfl 23 _ _ rfl w7.heap.size rfl (cl x) rfl z7 size23 (fun j => rfl) ?_; intro w8 r8 f8; clear z7; obtain ⟨b8, n8, c8⟩ := HK8.out w8 f8; have B8 : Hid (Below w0.heap.size w0 w8) := b8; have HN8 : Hid (Nw w1.heap.size w8 v2 r4) := n8; have R8 : Hid (w8.rowIs w7.heap.size 23 20 (cl x)) := r8; clear r8 f8 HK8 b8 n8)
  refine c8.mono ?_
  rintro e w9 ⟨rfl, b9⟩
  have B9 : Hid (Below w0.heap.size w0 w9) := B8.out.trans (b9.mono B8.out.size)
  have HN9 : Hid (Nw w1.heap.size w9 v2 r4) := HN8.out.keep b9
  have R9 : Hid (w9.rowIs w7.heap.size 23 20 (cl x)) := rowIs_fr (P := fun _ => False) R8.out (Fr.ofBelow b9) (fun h => h)
  clear c8 b9 B8 HN8 R8
  have z9 := z_row w9 22
  have HKA : Hid (∀ wA, Fr (fun k => k = w9.heap.size) (w9.alloc (Obj.cells zcs 22)) wA → Below w0.heap.size w0 wA ∧ Nw w1.heap.size wA v2 r4 ∧ (loadVar 23 ⟨w7.heap.size, 0, none⟩).run Tryd.prog wA = .ok (idv x) wA) := fun wA f => by
    have hb : Below w9.heap.size w9 wA := new_fr f
    exact ⟨B9.out.trans (hb.mono B9.out.size), HN9.out.keep hb, row_load (rowIs_fr (P := fun _ => False) R9.out (Fr.ofBelow hb) (fun h => h))⟩
  clear B9 HN9 R9
  rcases HCase.out with e6 | ⟨e6, h4, h40, hsg, hmt⟩
  · subst e6
    go_wp2_with (first
      | (refine wpList_st rfl 22 _ _ rfl w9.heap.size rfl (cl x) rfl z9 size22 (fun j => rfl) ?_; intro wA rA fA; clear z9; obtain ⟨bA, nA, lA⟩ := HKA.out wA fA; have BA : Hid (Below w0.heap.size w0 wA) := bA; have lA2 := (load_all (P := Tryd.prog) 22 _ rA Tryd.underlying22 rfl size22 : (loadVar 22 ⟨w9.heap.size, 0, none⟩).run Tryd.prog wA = .ok (idv x) wA); clear rA fA HKA bA nA)
      | (refine wpList_ldw (by rfl) 23 _ rfl ⟨w7.heap.size, 0, none⟩ rfl (idv x) lA ?_; clear lA)
      | (refine wpList_ldw (by rfl) 22 _ rfl ⟨w9.heap.size, 0, none⟩ rfl (idv x) lA2 ?_; clear lA2))
    go_ret
    exact ⟨rfl, HB0.out.trans (BA.out.mono HB0.out.size)⟩
  · subst e6
    have HMj : Hid (∀ wA, Nw w1.heap.size wA v2 r4 → Calls Tryd.prog 24 #[v2, .string S] wA fun e' w' => e' = .returned (.tuple #[idv z, .int .i64 0]) ∧ Below wA.heap.size wA w') := fun wA hA => HMi.out _ v2 wA hA h4 h40 hsg hmt
    clear h4 h40 hsg hmt HMi HCase
    go_wp2_with (first
      | (refine wpList_st rfl 22 _ _ rfl w9.heap.size rfl (cl x) rfl z9 size22 (fun j => rfl) ?_; intro wA rA fA; clear z9; obtain ⟨bA, nA, lA⟩ := HKA.out wA fA; have BA : Hid (Below w0.heap.size w0 wA) := bA; have cA := HMj.out wA nA; have lA2 := (load_all (P := Tryd.prog) 22 _ rA Tryd.underlying22 rfl size22 : (loadVar 22 ⟨w9.heap.size, 0, none⟩).run Tryd.prog wA = .ok (idv x) wA); clear rA fA HKA bA nA HMj)
      | (refine wpList_ldw (by rfl) 23 _ rfl ⟨w7.heap.size, 0, none⟩ rfl (idv x) lA ?_; clear lA)
      | (refine wpList_ldw (by rfl) 22 _ rfl ⟨w9.heap.size, 0, none⟩ rfl (idv x) lA2 ?_; clear lA2))
    refine cA.mono ?_
    rintro e wB ⟨rfl, bB⟩
    have BB : Hid (Below w0.heap.size w0 wB) := BA.out.trans (bB.mono BA.out.size)
    have zB := z_row wB 23
    have HKC : Hid (∀ wC, Fr (fun k => k = wB.heap.size) (wB.alloc (Obj.cells zcs 23)) wC → Below w0.heap.size w0 wC ∧ (loadVar 23 ⟨w.heap.size, 0, none⟩).run Tryd.prog wC = .ok (idv z) wC) := fun wC f => by
      have hb := BB.out.trans ((st_new (w := wB) f).mono BB.out.size)
      exact ⟨hb, HBox.out wC hb⟩
    clear cA bB BA BB HBox
    go_wp2_with (first
      | (refine wpList_st rfl 23 _ _ rfl wB.heap.size rfl (cl z) rfl zB size23 (fun j => rfl) ?_; intro wC rC fC; clear zB; obtain ⟨bC, lC⟩ := HKC.out wC fC; have BC : Hid (Below w0.heap.size w0 wC) := bC; have lC2 := row_load rC; clear rC fC HKC bC)
      | (refine wpList_ldv rfl 23 _ rfl ⟨wB.heap.size, 0, none⟩ rfl (idv z) lC2 ?_; clear lC2)
      | (refine wpList_ldv rfl 23 _ rfl ⟨w.heap.size, 0, none⟩ rfl (idv z) lC ?_; clear lC))
    go_ret
    exact ⟨rfl, HB0.out.trans (BC.out.mono HB0.out.size)⟩

set_option maxRecDepth 100000 in
theorem shorts_small (ao : Option Addr) (n c : Nat) (z : List Int) (s : ByteArray) (w : World) (h : 60 < n ∨ 100 < s.size) :
    Calls Tryd.prog 5 #[.slice ao n c, idv z, .string s] w fun e w' => e = .returned (.bool true) ∧ Below w.heap.size w w' := by
  have HB0 : Hid (Below w.heap.size w (w.alloc (.cells (vals (cl z) 20).toArray 23))) := new_below _ _
  go_enter Tryd.func5, Tryd.ntmps5
  go_wp2_with fail
  refine (known_yes _).mono ?_
  rintro e w1 ⟨rfl, b1⟩
  have B1 : Hid (Below w.heap.size w w1) := HB0.out.trans (b1.mono HB0.out.size)
  clear b1
  by_cases h1 : 60 < n
  · have q1 : (60 : Int) < (n : Int) := by omega
    clear h
    go_wp2_with fail
    go_ret
    exact ⟨rfl, B1.out⟩
  · have q1 : ¬ (60 : Int) < (n : Int) := by omega
    have q2 : (100 : Int) < (s.size : Int) := by omega
    clear h
    go_wp2_with fail
    go_ret
    exact ⟨rfl, B1.out⟩

theorem shorts_any (ao : Option Addr) (n c : Nat) (d : Array (List Int)) (z : List Int) (s : ByteArray) (w : World) (h : Is w (.slice ao n c) d) (hn : d.size = n) (hz : IsId z) :
    Calls Tryd.prog 5 #[.slice ao n c, idv z, .string s] w fun e w' => e = .returned (.bool true) ∧ Below w.heap.size w w' := by
  by_cases hb : 60 < n ∨ 100 < s.size
  · exact shorts_small ao n c z s w hb
  · exact shorts_main ao n c d z s w h hn hz (by omega) (by omega)

end Go.Proofs.YtmjcikomcnokkaaDoor
