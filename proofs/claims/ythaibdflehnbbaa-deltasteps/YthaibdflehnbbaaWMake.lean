/- stepsTo, Make. -/
import Derived.Test.YthaibdflehnbbaaWFnd
import Derived.Test.YthaibdflehnbbaaWPrt
namespace Go.Proofs.Ythaibdflehnbbaa
open Go.RowKit

set_option maxRecDepth 100000 in
set_option maxHeartbeats 1000000 in
theorem stepsTo_any (bo : Option Addr) (N C : Nat) (bs : List Int) (tg : Option Addr) (M E : Nat) (ts : List Int) (ef : Int) (w : World) (hb : Rd w bo N C bs) (ht : Rd w tg M E ts) (hN : N ≤ 65536) (hM : M ≤ 65536) :
    Calls Try.prog 32 #[.slice bo N C, .slice tg M E, .int .i64 ef] w fun e w' => ∃ v n ms l, e = .returned v ∧ OwO w' 42 w.heap.size v n ms l ∧ Made bs ts l ∧ Below w.heap.size w w' := by
  have hbl := hb.len
  have htl := ht.len
  have HB : Hid (Rd w bo N C bs) := hb
  have HT : Hid (Rd w tg M E ts) := ht
  have f1 := lcp_le bs ts
  have f2 := wth_le (lcp bs ts)
  obtain ⟨F, hF⟩ : ∃ F, F = wth (lcp bs ts) := ⟨_, rfl⟩
  have b1 := lcs_le bs (ts.drop F)
  have b2 := wth_le (lcs bs (ts.drop F))
  obtain ⟨G, hG⟩ : ∃ G, G = wth (lcs bs (ts.drop F)) := ⟨_, rfl⟩
  have HF : Hid (F = wth (lcp bs ts)) := hF
  have HG : Hid (G = wth (lcs bs (ts.drop F))) := hG
  have hFM : F ≤ M := by omega
  have hFN : F ≤ N := by omega
  have hGN : G ≤ N := by omega
  have hGM : G ≤ M - F := by simp only [List.length_drop] at b1; omega
  obtain ⟨A, hA⟩ : ∃ A, A = M - G := ⟨_, rfl⟩
  obtain ⟨K, hK⟩ : ∃ K, K = N - G := ⟨_, rfl⟩
  have HA : Hid (A = M - G) := hA
  have HK : Hid (K = N - G) := hK
  have i1 : (M : Int) - G = A := by omega
  have i2 : (N : Int) - G = K := by omega
  have hFA : F + (A - F) ≤ M := by omega
  have HFA : Hid (F + (A - F) = A) := by show _ = _; omega
  have hFM2 : F + (M - F) ≤ M := by omega
  clear hb ht f1 f2 b1 b2 hF hG hA hK
  go_enter Try.func32, Try.ntmps32
  go_wp2_with fail
  refine (sameFront_any bo N C bs tg M E ts w HB.out HT.out (by omega) (by omega)).mono ?_
  rintro e w1 ⟨rfl, hB1⟩
  have RB1 := HB.out.keep hB1
  have RT1 := HT.out.keep hB1
  go_wp2_with fail
  refine (worth_any _ w1).mono ?_
  rintro e w1' ⟨rfl, rfl⟩
  rw [← HF.out]
  go_wp2_with (first
    | (refine wpList_sub rfl _ _ _ rfl RT1 F (M - F) hFM2 rfl (.inl rfl) (.inr ⟨rfl, by omega⟩) ?_; intro ao2 c2 hr2 hs2))
  refine (sameBack_any bo N C bs ao2 (M - F) c2 _ w1' RB1 (hr2.rest htl) (by omega) (by omega)).mono ?_
  rintro e w2 ⟨rfl, hB2⟩
  go_wp2_with fail
  refine (worth_any _ w2).mono ?_
  rintro e w2' ⟨rfl, rfl⟩
  rw [← HG.out]
  have b2 := hB1.trans (hB2.mono hB1.size)
  have RT2 := HT.out.keep b2
  clear hr2 hs2 RB1 RT1 hB1 hB2
  go_wp2_with fail
  refine (copied_any w.heap.size (.slice none 0 0) 0 [] [] 0 F w2' (Ow.nil w2' w.heap.size b2.size) (by omega) (by omega) (by omega)).mono ?_
  rintro e w3 ⟨v3, n3, ms3, rfl, o3⟩
  rw [List.nil_append] at o3
  have b3 : Below w.heap.size w w3 := b2.trans (o3.below (fun k hk => by cases hk))
  have RT3 := HT.out.keep b3
  have RB3 := HB.out.keep b3
  have hn3 : n3 ≤ 100000 := by
    have := o3.own.len
    have : (cop 0 F).length ≤ 1 := by unfold cop; split <;> simp
    omega
  go_wp2_with (first
    | (refine wpList_sub rfl _ _ _ rfl RT3 F (A - F) hFA rfl (.inl rfl) (.inl (by rw [HFA.out]; rfl)) ?_; intro ao4 c4 hr4 hs4))
  refine (found_any w.heap.size v3 n3 ms3 (cop 0 F) bo N C bs ao4 (A - F) c4 _ ef w3 o3.here RB3 hr4 HB.out.blk (fun ad e hm => by obtain ⟨a0, e0, e1⟩ := hs4 ad e; rw [e1]; exact HT.out.blk a0 e0 (by omega)) hn3 hN (by omega)).mono ?_
  rintro e w4 ⟨v4, n4, ms4, l4, rfl, o4, g4⟩
  have hn4 : n4 ≤ 1000000 := by
    have h1 := o4.own.len
    have h2 := g4.len
    have h3 : (cop 0 F).length ≤ 1 := by unfold cop; split <;> simp
    simp only [List.length_append, List.length_take, List.length_drop] at h1 h2
    omega
  have oo := o3.trans o4
  clear hr4 hs4 RT3 RB3 RT2
  go_wp2_with fail
  refine (copied_any w.heap.size v4 n4 ms4 (cop 0 F ++ l4) K G w4 o4.here (by omega) (by have := HK.out; omega) (by omega)).mono ?_
  rintro e w5 ⟨v5, n5, ms5, rfl, o5⟩
  have o9 := oo.trans o5
  have b9 : Below w.heap.size w w5 := b2.trans (o9.below (fun k hk => by cases hk))
  have MM : Made bs ts (cop 0 F ++ l4 ++ cop K G) := by
    have e1 := HK.out
    have e2 := HA.out
    have := made_of bs ts l4 (by omega) (by omega)
    rw [← HF.out, ← HG.out, hbl, htl, ← e1, ← e2] at this
    exact this g4
  have HO9 := o9.own
  clear o9 oo o5 o4 o3 g4 b3
  go_wp2
  go_ret
  exact ⟨v5, n5, ms5, _, rfl, HO9, MM, b9⟩

set_option maxRecDepth 100000 in
set_option maxHeartbeats 1000000 in
theorem Make_any (bo : Option Addr) (N C : Nat) (bs : List Int) (tg : Option Addr) (M E : Nat) (ts : List Int) (ef : Int) (w : World) (hb : Rd w bo N C bs) (ht : Rd w tg M E ts) (hN : N ≤ 65536) (hM : M ≤ 65536) :
    Calls Try.prog 20 #[.slice bo N C, .slice tg M E, .int .i64 ef] w fun e w' => ∃ v l, e = .returned v ∧ Made bs ts l ∧ w'.ownsRow w.heap.size 5 1 v (prt N M l).length ((prt N M l).map (Value.int .u8)) ∧ Below w.heap.size w w' := by
  have HB : Hid (Rd w bo N C bs) := hb
  have HT : Hid (Rd w tg M E ts) := ht
  have hbl := hb.len
  have htl := ht.len
  have z1 : (N : Int) ≤ 262144 := by omega
  have z2 : (M : Int) ≤ 262144 := by omega
  clear hb ht
  go_enter Try.func20, Try.ntmps20
  go_wp2_with fail
  refine (stepsTo_any bo N C bs tg M E ts ef w HB.out HT.out hN hM).mono ?_
  rintro e w1 ⟨v1, n1, ms1, l, rfl, o1, hm1, b1⟩
  obtain ⟨la, lc, rfl, hlc, hOs, _⟩ := o1.os
  have hn1 : n1 ≤ 1000000 := by have := hOs.len; have := hm1.good.len; omega
  have hp := Print_any N M la n1 lc ms1 l w1 hOs hn1 (by omega) (by omega)
  rw [pnt_yes (by omega) (by omega) hm1.good.ok] at hp
  go_wp2_with fail
  refine hp.mono ?_
  rintro e w2 ⟨v2, rfl, o2, b2⟩
  have bb := b1.trans (b2.mono b1.size)
  have oo := own_low o2 b1.size
  clear hp o1 hOs o2 b1 b2
  go_wp2
  go_ret
  exact ⟨v2, l, rfl, hm1, oo, bb⟩

end Go.Proofs.Ythaibdflehnbbaa
