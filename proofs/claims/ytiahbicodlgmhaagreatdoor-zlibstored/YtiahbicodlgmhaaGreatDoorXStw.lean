/- The document's Stored, walked. -/
import Derived.Test.YtiahbicodlgmhaaGreatDoorXStd
import Derived.Test.YtiahbicodlgmhaaGreatDoorM36
namespace Go.Proofs.YtiahbicodlgmhaaGreatDoor.Z
open Go.RowKit

theorem xor255 (x : Int) (h : 0 ≤ x ∧ x < 256) : bits .xor .u8 x 255 = 255 - x := by
  obtain ⟨n, rfl⟩ : ∃ n : Nat, x = n := ⟨x.toNat, by omega⟩
  have hn : n < 256 := by omega
  have key : ∀ m : Fin 256, bits .xor .u8 ((m.val : Nat) : Int) 255 = 255 - ((m.val : Nat) : Int) := by decide +kernel
  exact key ⟨n, hn⟩

theorem row5 (wr : World) (f x1 x2 x3 x4 : Int) (b0 : 0 ≤ f ∧ f < 256) (b1 : 0 ≤ x1 ∧ x1 < 256) (b2 : 0 ≤ x2 ∧ x2 < 256) (b3 : 0 ≤ x3 ∧ x3 < 256) (b4 : 0 ≤ x4 ∧ x4 < 256) : Rd (wr.alloc (.cells #[.int .u8 f, .int .u8 x1, .int .u8 x2, .int .u8 x3, .int .u8 x4] 5)) (some ⟨wr.heap.size, 0, none⟩) 5 5 [f, x1, x2, x3, x4] :=
  rd_new rfl rfl (fun x hx => by
    simp only [List.mem_cons, List.not_mem_nil, or_false] at hx
    rcases hx with rfl | rfl | rfl | rfl | rfl <;> assumption)

theorem own_more {w : World} {b : Nat} {v : Value} {n : Nat} {xs : List Value} (ws : Array Value) (t : Nat) (h : w.ownsRow b 5 1 v n xs) : (w.alloc (.cells ws t)).ownsRow b 5 1 v n xs := h.alloc _

set_option maxRecDepth 100000 in
set_option maxHeartbeats 4000000 in
theorem rstored_any (da : Option Addr) (N dc : Nat) (bs : List Int) (w : World) (hr : Rd w da N dc bs) (hN : N ≤ 1000000) :
    Calls Tryz.prog 17 #[.slice da N dc] w fun e w' => ∃ v, e = .returned v ∧ w'.ownsRow w.heap.size 5 1 v (ssz N) ((stb bs (nck N)).map (Value.int .u8)) ∧ Below w.heap.size w w' := by
  have HR0 : Hid (∀ W, Below w.heap.size w W → Rd W da (N - 65535 * 0) dc (bs.drop (65535 * 0))) := fun W hW => by simpa using hr.keep hW
  have HLN : Hid (bs.length = N) := hr.len
  have HBY : Hid (∀ x ∈ bs, 0 ≤ x ∧ x < 256) := hr.byt
  have hc1 : 1 ≤ nck N := by unfold nck; omega
  clear hr
  go_enter Tryz.func17, Tryz.ntmps17
  go_wp2_with fail
  go_loopg [0, 3] (nck N) (fun gk bv ov wr => Hid (Below w.heap.size w wr) ∧ ∃ (k : Nat) (a : Option Addr) (c : Nat), Hid (gk + k = nck N ∧ k < nck N) ∧ bv = .slice a (N - 65535 * k) c ∧ Hid (∀ W, Below w.heap.size w W → Rd W a (N - 65535 * k) c (bs.drop (65535 * k))) ∧ Hid (wr.ownsRow w.heap.size 5 1 ov (5 * k + min (65535 * k) N) ((stb bs k).map (Value.int .u8))))
  case atStart => exact ⟨Below.refl _ _, 0, da, dc, ⟨by omega, by omega⟩, by simp, HR0, by show World.ownsRow _ _ _ _ _ _ _; simpa [stb] using World.ownsRow_nil _ _ _ _⟩
  case round =>
    obtain ⟨HB, k, a, c, HK, rfl, HR, HO⟩ := hrel
    obtain ⟨rem, hrem⟩ : ∃ rem, rem = N - 65535 * k := ⟨_, rfl⟩
    have HRM : Hid (rem = N - 65535 * k) := hrem
    have hrN : rem ≤ 1000000 := by omega
    rw [← hrem] at HR ⊢
    clear hrem HR0
    have hk0 : 65535 * k ≤ N := by have := HK.out.2; unfold nck at this; omega
    obtain ⟨ln, hln⟩ : ∃ ln, ln = 5 * k + min (65535 * k) N := ⟨_, rfl⟩
    have HLNN : Hid (ln = 5 * k + min (65535 * k) N) := hln
    have hlnb : ln ≤ 3000000 := by have := HK.out.2; unfold nck at this; omega
    rw [← hln] at HO
    clear hln
    by_cases hfin : rem ≤ 65535
    · have d1 : decide ((65535 : Int) < rem) = false := by simp; omega
      have d2 : decide (65535 < rem) = false := by simp; omega
      have x1 : bits .xor .u8 ((rem : Int) % 256) 255 = 255 - (rem : Int) % 256 := xor255 _ (by omega)
      have x2 : bits .xor .u8 ((rem : Int) / 256) 255 = 255 - (rem : Int) / 256 := xor255 _ (by omega)
      have hr5 := row5 wr 1 ((rem : Int) % 256) ((rem : Int) / 256) (255 - (rem : Int) % 256) (255 - (rem : Int) / 256) (by omega) (by omega) (by omega) (by omega) (by omega)
      have HE1 : Hid (∀ W, Below w.heap.size w W → (Instr.slice 22 (.slice a rem c) none (some (.int .i64 rem)) none).run Tryz.prog W = .ok (.slice (if c = 0 then a else Option.map (fun x : Addr => x.add 0) a) rem (c - 0)) W) := fun W hz => Sum.run_sub (p := 0) (m := rem) (HR.out W hz) (by omega) none (some (.int .i64 rem)) (.inr ⟨rfl, rfl⟩) (.inl (by rw [Nat.zero_add]))
      have HE2 : Hid (∀ W, Below w.heap.size w W → (Instr.slice 22 (.slice a rem c) (some (.int .i64 rem)) none none).run Tryz.prog W = .ok (.slice (if c = rem then a else Option.map (fun x : Addr => x.add rem) a) (rem - rem) (c - rem)) W) := fun W hz => Sum.run_sub (p := rem) (m := rem - rem) (HR.out W hz) (by omega) (some (.int .i64 rem)) none (.inl rfl) (.inr ⟨rfl, by omega⟩)
      have HS1 : Hid (∀ W, Below w.heap.size w W → Rd W (if c = 0 then a else Option.map (fun x : Addr => x.add 0) a) rem (c - 0) (zsl bs k)) := fun W hz => by
        have := (HR.out W hz).sub 0 rem (by omega)
        rw [List.drop_zero] at this
        have e : (bs.drop (65535 * k)).take rem = zsl bs k := by
          unfold zsl
          rw [List.take_of_length_le (by simp; have := HLN.out; have := HRM.out; omega), List.take_of_length_le (by simp; have := HLN.out; have := HRM.out; omega)]
        rw [e] at this
        exact this
      obtain ⟨a1, ha1⟩ : ∃ a1, a1 = (if c = 0 then a else Option.map (fun x : Addr => x.add 0) a) := ⟨_, rfl⟩
      obtain ⟨a2, ha2⟩ : ∃ a2, a2 = (if c = rem then a else Option.map (fun x : Addr => x.add rem) a) := ⟨_, rfl⟩
      rw [← ha1] at HE1 HS1
      rw [← ha2] at HE2
      clear ha1 ha2 HR
      have HOx : Hid ((wr.alloc (Obj.cells #[.int .u8 1, .int .u8 ((rem : Int) % 256), .int .u8 ((rem : Int) / 256), .int .u8 (255 - (rem : Int) % 256), .int .u8 (255 - (rem : Int) / 256)] 5)).ownsRow w.heap.size 5 1 u3 ln ((stb bs k).map (Value.int .u8))) := HO.out.alloc _
      have HBx : Hid (Below w.heap.size w (wr.alloc (Obj.cells #[.int .u8 1, .int .u8 ((rem : Int) % 256), .int .u8 ((rem : Int) / 256), .int .u8 (255 - (rem : Int) % 256), .int .u8 (255 - (rem : Int) / 256)] 5))) := HB.out.alloc HB.out.size _
      go_wp2_with (first
        | (refine Sum.wpList_append_v rfl _ _ rfl w.heap.size (ln + 5) v1 (stb bs k ++ [1, (rem : Int) % 256, (rem : Int) / 256, 255 - (rem : Int) % 256, 255 - (rem : Int) / 256]) rfl o1 a1 rem (c - 0) (zsl bs k) rfl (HS1.out w1 B1) (by omega) B1.size ?_; intro v2 w2 o2 g2; have B2 : Below w.heap.size w w2 := B1.grown g2 B1.size (fun q hq => (o1.lt q hq).1); have e2 := HE2.out w2 B2)
        | (refine Sum.wpList_append_v rfl _ _ rfl w.heap.size ln u3 (stb bs k) rfl HOx.out (some ⟨wr.heap.size, 0, none⟩) 5 5 _ rfl hr5 (by omega) HBx.out.size ?_; intro v1 w1 o1 g1; have B1 : Below w.heap.size w w1 := HBx.out.grown g1 HBx.out.size (fun q hq => (HOx.out.lt q hq).1); have e1 := HE1.out w1 B1))
      go_ret
      have hk1 : nck N = k + 1 := by have := HRM.out; have := HK.out.2; unfold nck at *; omega
      have hd : decide (bs.length ≤ 65535 * (k + 1)) = true := by simp; have := HLN.out; have := HRM.out; omega
      have hz : (zsl bs k).length = rem := by rw [zsl_len, HLN.out, ← HRM.out]; omega
      refine ⟨_, rfl, ?_, B2⟩
      have es : ssz N = ln + 5 + rem := by have := HLNN.out; have := HRM.out; unfold ssz; omega
      have eb : stb bs (nck N) = stb bs k ++ [1, (rem : Int) % 256, (rem : Int) / 256, 255 - (rem : Int) % 256, 255 - (rem : Int) / 256] ++ zsl bs k := by
        rw [hk1]
        simp only [stb, hd, sb1, hz, lb1, if_true, List.append_assoc]
      rw [es, eb]
      exact o2
    · have d1 : decide ((65535 : Int) < rem) = true := by simp; omega
      have d2 : decide (65535 < rem) = true := by simp; omega
      have x1 : bits .xor .u8 255 255 = 0 := by decide +kernel
      have hr5 := row5 wr 0 255 255 0 0 (by omega) (by omega) (by omega) (by omega) (by omega)
      obtain ⟨M, hM⟩ : ∃ M : Nat, M = 65535 := ⟨_, rfl⟩
      have HE1 : Hid (∀ W, Below w.heap.size w W → (Instr.slice 22 (.slice a rem c) none (some (.int .i64 65535)) none).run Tryz.prog W = .ok (.slice (if c = 0 then a else Option.map (fun x : Addr => x.add 0) a) M (c - 0)) W) := fun W hz => Sum.run_sub (p := 0) (m := M) (HR.out W hz) (by omega) none (some (.int .i64 65535)) (.inr ⟨rfl, rfl⟩) (.inl (by rw [Nat.zero_add, hM]; rfl))
      have HE2 : Hid (∀ W, Below w.heap.size w W → (Instr.slice 22 (.slice a rem c) (some (.int .i64 65535)) none none).run Tryz.prog W = .ok (.slice (if c = M then a else Option.map (fun x : Addr => x.add M) a) (rem - M) (c - M)) W) := fun W hz => Sum.run_sub (p := M) (m := rem - M) (HR.out W hz) (by omega) (some (.int .i64 65535)) none (.inl (by rw [hM]; rfl)) (.inr ⟨rfl, by omega⟩)
      have HS1 : Hid (∀ W, Below w.heap.size w W → Rd W (if c = 0 then a else Option.map (fun x : Addr => x.add 0) a) M (c - 0) (zsl bs k)) := fun W hz => by
        have := (HR.out W hz).sub 0 M (by omega)
        rw [List.drop_zero] at this
        rw [show zsl bs k = (bs.drop (65535 * k)).take M by rw [hM]; rfl]
        exact this
      have HS2 : Hid (∀ W, Below w.heap.size w W → Rd W (if c = M then a else Option.map (fun x : Addr => x.add M) a) (rem - M) (c - M) (bs.drop (65535 * k + M))) := fun W hz => by
        have := (HR.out W hz).sub M (rem - M) (by omega)
        rw [List.drop_drop, List.take_of_length_le (by simp; have := HLN.out; have := HRM.out; omega)] at this
        exact this
      obtain ⟨a1, ha1⟩ : ∃ a1, a1 = (if c = 0 then a else Option.map (fun x : Addr => x.add 0) a) := ⟨_, rfl⟩
      obtain ⟨a2, ha2⟩ : ∃ a2, a2 = (if c = M then a else Option.map (fun x : Addr => x.add M) a) := ⟨_, rfl⟩
      rw [← ha1] at HE1 HS1
      rw [← ha2] at HE2 HS2
      have HM : Hid (M = 65535) := hM
      have hMb : M ≤ 100000 := by omega
      clear ha1 ha2 HR hM
      have HOx : Hid ((wr.alloc (Obj.cells #[.int .u8 0, .int .u8 255, .int .u8 255, .int .u8 0, .int .u8 0] 5)).ownsRow w.heap.size 5 1 u3 ln ((stb bs k).map (Value.int .u8))) := HO.out.alloc _
      have HBx : Hid (Below w.heap.size w (wr.alloc (Obj.cells #[.int .u8 0, .int .u8 255, .int .u8 255, .int .u8 0, .int .u8 0] 5))) := HB.out.alloc HB.out.size _
      go_wp2_with (first
        | (refine Sum.wpList_append_v rfl _ _ rfl w.heap.size (ln + 5) v1 (stb bs k ++ [0, 255, 255, 0, 0]) rfl o1 a1 M (c - 0) (zsl bs k) rfl (HS1.out w1 B1) (by omega) B1.size ?_; intro v2 w2 o2 g2; have B2 : Below w.heap.size w w2 := B1.grown g2 B1.size (fun q hq => (o1.lt q hq).1); have e2 := HE2.out w2 B2)
        | (refine Sum.wpList_append_v rfl _ _ rfl w.heap.size ln u3 (stb bs k) rfl HOx.out (some ⟨wr.heap.size, 0, none⟩) 5 5 _ rfl hr5 (by omega) HBx.out.size ?_; intro v1 w1 o1 g1; have B1 : Below w.heap.size w w1 := HBx.out.grown g1 HBx.out.size (fun q hq => (HOx.out.lt q hq).1); have e1 := HE1.out w1 B1))
      have hd : decide (bs.length ≤ 65535 * (k + 1)) = false := by simp; have := HLN.out; have := HRM.out; omega
      have hz : (zsl bs k).length = 65535 := by rw [zsl_len, HLN.out, ← HRM.out]; omega
      have eb : stb bs (k + 1) = stb bs k ++ [0, 255, 255, 0, 0] ++ zsl bs k := by
        simp only [stb, hd, sb1, hz, lb1, List.append_assoc]
        rfl
      have HOF : Hid (w2.ownsRow w.heap.size 5 1 v2 (5 * (k + 1) + min (65535 * (k + 1)) N) ((stb bs (k + 1)).map (Value.int .u8))) := by
        show World.ownsRow _ _ _ _ _ _ _
        rw [eb, show 5 * (k + 1) + min (65535 * (k + 1)) N = ln + 5 + M by have := HLNN.out; have := HRM.out; have := HM.out; omega]
        exact o2
      have HB2 : Hid (Below w.heap.size w w2) := B2
      have HF : Hid (¬ rem ≤ 65535) := hfin
      clear hd hz eb o2 g2 o1 g1 B1 e1 e2 B2 hfin
      go_roundg (gk - 1)
      case measure => have := HK.out; omega
      case rel =>
        refine ⟨HB2, k + 1, a2, c - M, ⟨by have := HK.out; omega, ?_⟩, ?_, ?_, HOF⟩
        · unfold nck; have := HRM.out; have := HF.out; omega
        · rw [show N - 65535 * (k + 1) = rem - M by have := HRM.out; have := HM.out; omega]
        · intro W hz
          have := HS2.out W hz
          rw [show 65535 * k + M = 65535 * (k + 1) by have := HM.out; omega, show rem - M = N - 65535 * (k + 1) by have := HRM.out; have := HM.out; omega] at this
          exact this

end Go.Proofs.YtiahbicodlgmhaaGreatDoor.Z
