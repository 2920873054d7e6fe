/- Same. -/
import Derived.Test.YtmjcikomcnokkaaDoorXFind
namespace Go.Proofs.YtmjcikomcnokkaaDoor
open Go.RowKit

set_option maxRecDepth 100000 in
set_option maxHeartbeats 2000000 in
theorem same_wide (ao bo : Option Addr) (c c' n : Nat) (d : Array (List Int)) (w : World) (hids : ∀ i, i < n → IsId d[i]!) (hp0 : 0 < n → ∃ b b', ao = some ⟨b, 0, none⟩ ∧ bo = some ⟨b', 0, none⟩ ∧ ∀ W, Below w.heap.size w W → ∀ i, i < n → (loadVar 23 ⟨b, i * 20, none⟩).run Tryd.prog W = .ok (idv d[i]!) W ∧ (loadVar 22 ⟨b', i * 20, none⟩).run Tryd.prog W = .ok (idv d[i]!) W) (hsz : n < 100000) :
    Calls Tryd.prog 20 #[.slice ao n c, .slice bo n c'] w fun e w' => e = .returned (.bool true) ∧ Below w.heap.size w w' := by
  have HPP : Hid (0 < n → ∃ b b', ao = some ⟨b, 0, none⟩ ∧ bo = some ⟨b', 0, none⟩ ∧ ∀ W, Below w.heap.size w W → ∀ i, i < n → (loadVar 23 ⟨b, i * 20, none⟩).run Tryd.prog W = .ok (idv d[i]!) W ∧ (loadVar 22 ⟨b', i * 20, none⟩).run Tryd.prog W = .ok (idv d[i]!) W) := hp0
  have HID : Hid (∀ i, i < n → IsId d[i]!) := hids
  clear hp0 hids
  go_enter Tryd.func20, Tryd.ntmps20
  go_wp2_with fail
  go_loopw [5] (fun s5 wr => ∃ k : Nat, s5 = .int .i64 k ∧ k ≤ n ∧ Hid (Below w.heap.size w wr)) (fun s5 _ => n - (intOf s5).toNat)
  case atStart => exact ⟨0, rfl, Nat.zero_le _, Below.refl _ _⟩
  case round =>
    obtain ⟨k, rfl, hkn, HB⟩ := hrel
    by_cases hlt : k < n
    · have hq : (k : Int) < (n : Int) := by omega
      obtain ⟨b, b', rfl, rfl, hld⟩ := HPP.out (by omega)
      have hid := HID.out k hlt
      have H : Hid (∀ W, Below wr.heap.size wr W → (loadVar 23 ⟨b, k * 20, none⟩).run Tryd.prog W = .ok (idv d[k]!) W ∧ (loadVar 22 ⟨b', k * 20, none⟩).run Tryd.prog W = .ok (idv d[k]!) W) := fun W hW => hld W (HB.out.trans (hW.mono HB.out.size)) k hlt
      have he := fun W => eql_ids 23 Tryd.underlying23 hid hid W
      obtain ⟨x, hx⟩ : ∃ x, d[k]! = x := ⟨_, rfl⟩
      rw [hx] at H he
      have he' : ∀ W, (Op.equalIn 10000 23 (idv x) (idv x)).run Tryd.prog W = .ok true W := fun W => by rw [he W]; simp
      have hwk : IntKind.i64.wrap ((k : Int) + 1) = (k : Int) + 1 := by rw [IntKind.wrap_i64]; omega
      have HL : Hid (k < n) := hlt
      clear hid hld hx he HPP
      go_wp2_with fail
      refine wp_region_quiet (C := fun W => Below wr.heap.size wr W) (by kernel_rfl) (by kernel_rfl) (Below.refl _ _).drew ?_
      repeat
        refine wpQuiet_step (fun K hK => ?_)
        first
          | (refine q_ixb (by rfl) 33 _ _ rfl b 0 n c k (k * 20) _ rfl rfl (fun w => run_ixa33 b 0 n c k _ rfl HL.out w) (by omega) (hK _ ?_); clear hK K)
          | (refine q_ixb (by rfl) 35 _ _ rfl b' 0 n c' k (k * 20) _ rfl rfl (fun w => run_ixa35 b' 0 n c' k _ rfl HL.out w) (by omega) (hK _ ?_); clear hK K)
          | (refine q_load (by rfl) 23 _ rfl ⟨b, k * 20, none⟩ rfl (idv x) (fun W hW => (H.out W hW).1) (hK _ ?_); clear hK K)
          | (refine q_load (by rfl) 22 _ rfl ⟨b', k * 20, none⟩ rfl (idv x) (fun W hW => (H.out W hW).2) (hK _ ?_); clear hK K)
          | (go_simp; refine ⟨_, fun wq hs => rfl, hK _ ?_⟩; clear hK K)
      refine wpQuiet_nil ?_
      intro w2 hB2
      have HB2 : Hid (Below wr.heap.size wr w2) := hB2
      clear hB2
      go_wp2_with fail
      go_roundw
      case rel => exact ⟨k + 1, by simp, HL.out, HB.out.trans (HB2.out.mono HB.out.size)⟩
      case measure => simp [intOf]; have := HL.out; omega
    · obtain rfl : k = n := by omega
      have hq : ¬ (k : Int) < (k : Int) := by omega
      clear HPP
      go_wp2_with fail
      go_ret
      exact ⟨rfl, HB.out⟩

theorem same_yes (B B' : Nat) (v v' : Value) (d : Array (List Int)) (w : World) (h : Nw B w v d) (h' : Dn B' w v' d) (hsz : d.size < 100000) :
    Calls Tryd.prog 20 #[v, v'] w fun e w' => e = .returned (.bool true) ∧ Below w.heap.size w w' := by
  obtain ⟨bo, c', rfl⟩ := h'.shape
  rcases h with ⟨h0, ao, c, rfl⟩ | ⟨h0, b, c, rfl, _, _, hr⟩
  · rw [h0]
    exact same_wide ao bo c c' 0 d w (fun i hi => by omega) (fun h => by omega) (by omega)
  · obtain ⟨b', c2, e, _, _, hx⟩ := h'.row h0
    injection e with e1 e2 e3
    exact same_wide _ bo c c' d.size d w (fun i hi => hr.ids i hi) (fun _ => ⟨b, b', rfl, e1, fun W hW i hi => ⟨(hr.keep hW).load i hi, (hx.keep hW).load i hi⟩⟩) hsz

end Go.Proofs.YtmjcikomcnokkaaDoor
