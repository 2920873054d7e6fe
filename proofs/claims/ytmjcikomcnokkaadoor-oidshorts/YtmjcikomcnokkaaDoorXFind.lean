/- The document's Find. -/
import Derived.Test.YtmjcikomcnokkaaDoorXRow
namespace Go.Proofs.YtmjcikomcnokkaaDoor
open Go.RowKit

theorem box22 (w W : World) (z : List Int) (hz : IsId z) (hW : Below (w.alloc (.cells (vals (cl z) 20).toArray 22)).heap.size (w.alloc (.cells (vals (cl z) 20).toArray 22)) W) :
    (loadVar 22 ⟨w.heap.size, 0, none⟩).run Tryd.prog W = .ok (idv z) W := by
  have h : Rx (w.alloc (.cells (vals (cl z) 20).toArray 22)) w.heap.size 20 #[z] := ⟨⟨cl z, rowIs_vals w (cl z) 20 22, fun i hi j hj => by
    have : i < 1 := hi
    obtain rfl : i = 0 := by omega
    rw [Nat.zero_mul, Nat.zero_add]; rfl⟩, Nat.le_refl _, fun i hi => by
    have : i < 1 := hi
    obtain rfl : i = 0 := by omega
    exact hz⟩
  exact (h.keep hW).load 0 (by show 0 < 1; omega)

theorem run_ixa35 (b o n c i : Nat) (e : Int) (he : e = i) (hi : i < n) (w : World) : (Instr.indexAt 35 (.slice (some ⟨b, o, none⟩) n c) (.int .i64 e)).run Tryd.prog w = .ok (.pointer (some ⟨b, o + i * 20, none⟩)) w := by
  subst he
  have hi2 : (i : Int) < (n : Int) := by omega
  clear hi
  simp [go_sem, hi2]

set_option maxRecDepth 100000 in
set_option maxHeartbeats 2000000 in
theorem xfind_any (B : Nat) (v : Value) (d : Array (List Int)) (z : List Int) (w : World) (h : Dn B w v d) (hu : Up d) (hz : IsId z) (hsz : d.size < 100000) :
    Calls Tryd.prog 17 #[v, idv z] w fun e w' => ∃ k, e = .returned (.tuple #[.int .i64 (k : Nat), .bool (decide (k < d.size) && decide (d[k]! = z))]) ∧ wh d z k ∧ Below w.heap.size w w' := by
  obtain ⟨ao, c, rfl⟩ := h.shape
  have HB0 : Hid (Below w.heap.size w (w.alloc (.cells (vals (cl z) 20).toArray 22))) := new_below _ _
  have HU : Hid (Up d) := hu
  have HP : Hid (0 < d.size → ∃ b, ao = some ⟨b, 0, none⟩ ∧ ∀ W, Below w.heap.size w W → ∀ i, i < d.size → (loadVar 22 ⟨b, i * 20, none⟩).run Tryd.prog W = .ok (idv d[i]!) W) := fun h0 => by
    obtain ⟨b, c', e, _, _, hr⟩ := h.row h0
    injection e with e1 e2 e3
    exact ⟨b, e1, fun W hW i hi => (hr.keep hW).load i hi⟩
  have HI : Hid (∀ i, i < d.size → IsId d[i]!) := h.ids
  obtain ⟨n, hn⟩ : ∃ n, d.size = n := ⟨_, rfl⟩
  have HN : Hid (d.size = n) := hn
  rw [hn] at HP HI hsz ⊢
  have HBox : Hid (∀ W, Below (w.alloc (.cells (vals (cl z) 20).toArray 22)).heap.size (w.alloc (.cells (vals (cl z) 20).toArray 22)) W → (loadVar 22 ⟨w.heap.size, 0, none⟩).run Tryd.prog W = .ok (idv z) W) := fun W hW => box22 w W z hz hW
  have c34 : Hid (∀ vs w, (callFunc 34 vs).run Tryd.prog w = .ok (.enter 34 vs) w) := fun vs w => by simp [go_sem]
  clear h hu hn
  go_enter Tryd.func17, Tryd.ntmps17
  go_wp2_with fail
  go_loopw [6] (fun s6 wr => ∃ k : Nat, s6 = .int .i64 k ∧ k ≤ n ∧ Hid (∀ q, q < k → ltl d[q]! z = true) ∧ Hid (Below (w.alloc (.cells (vals (cl z) 20).toArray 22)).heap.size (w.alloc (.cells (vals (cl z) 20).toArray 22)) wr))
    (fun s6 _ => n - (intOf s6).toNat)
  case atStart => exact ⟨0, rfl, Nat.zero_le _, fun q hq => by omega, Below.refl _ _⟩
  case round =>
    obtain ⟨k, rfl, hkn, HQ, HB⟩ := hrel
    by_cases hlt : k < n
    · have hq : (k : Int) < (n : Int) := by omega
      obtain ⟨b, rfl, hld⟩ := HP.out (by omega)
      have hid := HI.out k hlt
      have H : Hid (∀ W, Below wr.heap.size wr W → (loadVar 22 ⟨b, k * 20, none⟩).run Tryd.prog W = .ok (idv d[k]!) W ∧ (loadVar 22 ⟨w.heap.size, 0, none⟩).run Tryd.prog W = .ok (idv z) W ∧ Calls Tryd.prog 34 #[idv d[k]!, idv z] W (fun e w' => e = .returned (.bool (ltl d[k]! z)) ∧ Below wr.heap.size wr w')) := fun W hW => by
        have h1 := HB.out.trans (hW.mono HB.out.size)
        exact ⟨hld W (HB0.out.trans (h1.mono HB0.out.size)) k hlt, HBox.out W h1, (xless_any d[k]! z hid hz W).mono fun e w' ⟨g1, g2⟩ => ⟨g1, hW.trans (g2.mono hW.size)⟩⟩
      have HX1 : Hid (∀ q, q < k + 1 → ltl d[k]! z = true → ltl d[q]! z = true) := fun q hq2 h1 => by
        by_cases e : q = k
        · subst e; exact h1
        · exact HQ.out q (by omega)
      have HX2 : Hid (ltl d[k]! z = false → wh d z k) := fun h1 => by
        refine ⟨by rw [HN.out]; omega, fun q hq2 => by simp [HQ.out q hq2], fun q hq1 hq2 => ?_⟩
        have := up_mono rfl HU.out z k q hq1 hq2 (by simp [h1])
        exact this
      have he := fun W => eql_ids 22 Tryd.underlying22 hid hz W
      obtain ⟨x, hx⟩ : ∃ x, d[k]! = x := ⟨_, rfl⟩
      rw [hx] at H HX1 HX2 he
      have HX : Hid (d[k]! = x) := hx
      obtain ⟨t, ht⟩ : ∃ t, ltl x z = t := ⟨_, rfl⟩
      rw [ht] at H HX1 HX2
      obtain ⟨t2, ht2⟩ : ∃ t2, decide (x = z) = t2 := ⟨_, rfl⟩
      rw [ht2] at he
      have HT2 : Hid (decide (x = z) = t2) := ht2
      have hwk : IntKind.i64.wrap ((k : Int) + 1) = (k : Int) + 1 := by rw [IntKind.wrap_i64]; omega
      have HL : Hid (k < n) := hlt
      clear hid hld hx ht ht2
      go_wp2_with fail
      refine wp_region_quiet (C := fun W => Below wr.heap.size wr W) (by kernel_rfl) (by kernel_rfl) (Below.refl _ _).drew ?_
      repeat
        refine wpQuiet_step (fun K hK => ?_)
        first
          | (refine q_ixb (by rfl) 35 _ _ rfl b 0 n c k (k * 20) _ rfl rfl (fun w => run_ixa35 b 0 n c k _ rfl HL.out w) (by omega) (hK _ ?_); clear hK K)
          | (refine q_load (by rfl) 22 _ rfl ⟨b, k * 20, none⟩ rfl (idv x) (fun W hW => (H.out W hW).1) (hK _ ?_); clear hK K)
          | (refine q_load (by rfl) 22 _ rfl ⟨w.heap.size, 0, none⟩ rfl (idv z) (fun W hW => (H.out W hW).2.1) (hK _ ?_); clear hK K)
          | (refine q_call2 (by rfl) 34 c34.out _ _ _ rfl (idv x) (idv z) rfl rfl (.bool t) (fun W hW => (H.out W hW).2.2) (hK _ ?_); clear hK K)
          | (go_simp; refine ⟨_, fun wq hs => rfl, hK _ ?_⟩; clear hK K)
      refine wpQuiet_nil ?_
      intro w2 hB2
      have HB2 : Hid (Below wr.heap.size wr w2) := hB2
      clear hB2
      cases t with
      | true =>
        go_wp2_with fail
        go_roundw
        case rel => exact ⟨k + 1, by simp, HL.out, fun q hq => HX1.out q hq rfl, HB.out.trans (HB2.out.mono HB.out.size)⟩
        case measure => simp [intOf]; have := HL.out; omega
      | false =>
        go_wp2_with fail
        refine wp_region_quiet (C := fun W => Below wr.heap.size wr W) (by kernel_rfl) (by kernel_rfl) HB2.out.drew ?_
        repeat
          refine wpQuiet_step (fun K hK => ?_)
          first
            | (refine q_ixb (by rfl) 35 _ _ rfl b 0 n c k (k * 20) _ rfl rfl (fun w => run_ixa35 b 0 n c k _ rfl HL.out w) (by omega) (hK _ ?_); clear hK K)
            | (refine q_load (by rfl) 22 _ rfl ⟨b, k * 20, none⟩ rfl (idv x) (fun W hW => (H.out W hW).1) (hK _ ?_); clear hK K)
            | (refine q_load (by rfl) 22 _ rfl ⟨w.heap.size, 0, none⟩ rfl (idv z) (fun W hW => (H.out W hW).2.1) (hK _ ?_); clear hK K)
            | (go_simp; refine ⟨_, fun wq hs => rfl, hK _ ?_⟩; clear hK K)
        refine wpQuiet_nil ?_
        intro w3 hB3
        go_wp2_with fail
        go_ret2
        refine ⟨k, ?_, HX2.out trivial, HB0.out.trans ((HB.out.trans (hB3.mono HB.out.size)).mono HB0.out.size)⟩
        have e : (decide (k < n) && decide (d[k]! = z)) = t2 := by rw [HX.out, HT2.out]; simp [HL.out]
        rw [e]
        rfl
    · obtain rfl : k = n := by omega
      have hq : ¬ (k : Int) < (k : Int) := by omega
      clear HP HBox
      go_wp2_with fail
      go_ret2
      refine ⟨k, by simp, ⟨by rw [HN.out]; exact Nat.le_refl _, fun q hq2 => by simp [HQ.out q hq2], fun q h1 h2 => by have := HN.out; omega⟩, HB0.out.trans (HB.out.mono HB0.out.size)⟩

end Go.Proofs.YtmjcikomcnokkaaDoor
