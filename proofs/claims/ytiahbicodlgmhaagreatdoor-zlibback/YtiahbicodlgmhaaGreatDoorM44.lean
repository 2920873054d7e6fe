/- XUy: the document's own functions, walked. -/
import Derived.Test.YtiahbicodlgmhaaGreatDoorM43
import Derived.Test.YtiahbicodlgmhaaGreatDoorM37
/- The document's Unpack, of what Pack writes. -/
namespace Go.Proofs.YtiahbicodlgmhaaGreatDoor.D
open Go.RowKit
open Go.Proofs.YtiahbicodlgmhaaGreatDoor.Z

theorem hd_and15 : bits .and .u8 120 15 = 8 := by decide
theorem hd_or : bits .or .i64 30720 156 = 30876 := by decide
theorem hd_and32 : bits .and .u8 156 32 = 0 := by decide

end Go.Proofs.YtiahbicodlgmhaaGreatDoor.D

/- The document's Unpack of a whole frame. -/
namespace Go.Proofs.YtiahbicodlgmhaaGreatDoor.D
open Go.RowKit
open Go.Proofs.YtiahbicodlgmhaaGreatDoor.Z

theorem adl_bound (bs : List Int) : 0 ≤ adl bs ∧ adl bs < 4294967296 := by
  have h1 := Sum.md_nn (Sum.pl 1 0 bs).1
  have h2 := Sum.md_nn (Sum.pl 1 0 bs).2
  unfold adl Sum.ad
  omega

theorem or1 (y0 y1 : Int) (a0 : 0 ≤ y0 ∧ y0 < 256) (a1 : 0 ≤ y1 ∧ y1 < 256) : bits .or .u32 (y0 * 16777216) (y1 * 65536) = y0 * 16777216 + y1 * 65536 :=
  bits_join .u32 32 (by decide) Sum.wraps_u32 24 (y0 * 16777216) (y1 * 65536) (by omega) (by omega) (by omega) (by omega) (by omega) (by omega)

theorem or2 (t y2 : Int) (a0 : 0 ≤ t ∧ t < 65536) (a1 : 0 ≤ y2 ∧ y2 < 256) : bits .or .u32 (t * 65536) (y2 * 256) = t * 65536 + y2 * 256 :=
  bits_join .u32 32 (by decide) Sum.wraps_u32 16 (t * 65536) (y2 * 256) (by omega) (by omega) (by omega) (by omega) (by omega) (by omega)

theorem or3 (t y3 : Int) (a0 : 0 ≤ t ∧ t < 16777216) (a1 : 0 ≤ y3 ∧ y3 < 256) : bits .or .u32 (t * 256) y3 = t * 256 + y3 :=
  bits_join .u32 32 (by decide) Sum.wraps_u32 8 (t * 256) y3 (by omega) (by omega) (by omega) (by omega) (by omega) (by omega)

set_option maxRecDepth 100000 in
set_option maxHeartbeats 4000000 in
/-- A frame that is right. -/
theorem runpack_yes (ao : Option Addr) (n c : Nat) (zs ts : List Int) (m : Int) (bs : List Int) (u : Nat) (w : World) (hr : Rd w ao n c ([120, 156] ++ (zs ++ (su4 (adl bs) ++ ts)))) (hn : n ≤ 1000000000) (hu : u = zs.length) (hbl : bs.length ≤ 1000000)
    (hI : ∀ (W : World) (a : Option Addr) (k : Nat), Below w.heap.size w W → Rd W a (zs ++ (su4 (adl bs) ++ ts)).length k (zs ++ (su4 (adl bs) ++ ts)) → Calls Tryz.prog 12 #[.slice a (zs ++ (su4 (adl bs) ++ ts)).length k, .int .i64 m] W fun e w' => ∃ xo xc, e = .returned (.tuple #[.slice xo bs.length xc, .int .i64 u, .int .i64 0]) ∧ Rd w' xo bs.length xc bs ∧ Below W.heap.size W w') :
    Calls Tryz.prog 10 #[.slice ao n c, .int .i64 m] w fun e w' => ∃ xo xc, e = .returned (.tuple #[.slice xo bs.length xc, .int .i64 (2 + (u : Int) + 4), .int .i64 0]) ∧ Rd w' xo bs.length xc bs ∧ Below w.heap.size w w' := by
  have hl := hr.len
  obtain ⟨ys, hys⟩ : ∃ ys, ys = zs ++ (su4 (adl bs) ++ ts) := ⟨_, rfl⟩
  rw [← hys] at hr hI hl
  have hyl : ys.length = u + 4 + ts.length := by rw [hys, hu]; simp [su4]; omega
  simp only [List.length_append, List.length_cons, List.length_nil] at hl
  have hle := hr.le
  obtain ⟨b, off, rfl, hcell⟩ := hr.plain (by omega)
  have c0 := hcell 0 (by omega)
  have c1 := hcell 1 (by omega)
  simp at c0 c1
  have hat : ∀ j, j < 4 → ([120, 156] ++ ys).getD (u + 2 + j) 0 = (su4 (adl bs)).getD j 0 := fun j hj => by
    have e1 : ([120, 156] ++ ys).getD (u + 2 + j) 0 = ys.getD (u + j) 0 := by
      rw [show u + 2 + j = (u + j) + 1 + 1 by omega]
      rfl
    rw [e1, hys]
    simp only [List.getD]
    rw [List.getElem?_append_right (by omega), show u + j - zs.length = j by omega, List.getElem?_append_left (by simp [su4]; omega)]
  have x0 := hcell (u + 2 + 0) (by omega)
  have x1 := hcell (u + 2 + 1) (by omega)
  have x2 := hcell (u + 2 + 2) (by omega)
  have x3 := hcell (u + 2 + 3) (by omega)
  rw [hat 0 (by omega)] at x0
  rw [hat 1 (by omega)] at x1
  rw [hat 2 (by omega)] at x2
  rw [hat 3 (by omega)] at x3
  have HXC : Hid (w.cell? ⟨b, off + (u + 2), none⟩ = some (.int .u8 (adl bs / 16777216 % 256)) ∧ w.cell? ⟨b, off + (u + 3), none⟩ = some (.int .u8 (adl bs / 65536 % 256)) ∧ w.cell? ⟨b, off + (u + 4), none⟩ = some (.int .u8 (adl bs / 256 % 256)) ∧ w.cell? ⟨b, off + (u + 5), none⟩ = some (.int .u8 (adl bs % 256))) := ⟨x0, x1, x2, x3⟩
  have e3 : ∀ W, Rd W (some ⟨b, off, none⟩) n c ([120, 156] ++ ys) → (Instr.slice 22 (.slice (some ⟨b, off, none⟩) n c) (some (.int .i64 2)) none none).run Tryz.prog W = .ok (.slice (if c = 2 then some ⟨b, off, none⟩ else Option.map (fun x : Addr => x.add 2) (some ⟨b, off, none⟩)) (n - 2) (c - 2)) W := fun W hW => Sum.run_sub (p := 2) (m := n - 2) hW (by omega) (some (.int .i64 2)) none (.inl rfl) (.inr ⟨rfl, by omega⟩)
  have hs := hr.sub 2 (n - 2) (by omega)
  have ezs : (([120, 156] ++ ys).drop 2).take (n - 2) = ys := by
    rw [show ([120, 156] ++ ys : List Int).drop 2 = ys from rfl, List.take_of_length_le (by omega)]
  rw [ezs] at hs
  obtain ⟨a2, ha2⟩ : ∃ a2, a2 = (if c = 2 then some (⟨b, off, none⟩ : Addr) else Option.map (fun x : Addr => x.add 2) (some ⟨b, off, none⟩)) := ⟨_, rfl⟩
  rw [← ha2] at hs e3
  have hzl : ys.length = n - 2 := by omega
  have hin := hI w.drew a2 (c - 2) (Below.refl _ _).drew (by rw [hzl]; exact hs.keep (Below.refl _ _).drew)
  rw [hzl] at hin
  have q3 := e3 w.drew (hr.keep (Below.refl _ _).drew)
  have d1 : decide ((n : Int) < 2) = false := by simp; omega
  have d2 : 0 < n := by omega
  have d3 : 1 < n := by omega
  have d0 : ¬ n < 2 := by omega
  have a1 := hd_and15
  have a3 := hd_or
  have a4 := hd_and32
  obtain ⟨k0, hk0⟩ : ∃ k0, k0 = u + 2 := ⟨_, rfl⟩
  obtain ⟨k1, hk1⟩ : ∃ k1, k1 = u + 3 := ⟨_, rfl⟩
  obtain ⟨k2, hk2⟩ : ∃ k2, k2 = u + 4 := ⟨_, rfl⟩
  obtain ⟨k3, hk3⟩ : ∃ k3, k3 = u + 5 := ⟨_, rfl⟩
  rw [← hk0, ← hk1, ← hk2, ← hk3] at HXC
  have v0 : (u : Int) + 2 = k0 := by omega
  have v1 : (k0 : Int) + 1 = k1 := by omega
  have v2 : (k0 : Int) + 2 = k2 := by omega
  have v3 : (k0 : Int) + 3 = k3 := by omega
  have u0 : IntKind.i64.wrap (k0 : Int) = k0 := wraps_i64 _ (by omega) (by omega)
  have u1 : IntKind.i64.wrap (k1 : Int) = k1 := wraps_i64 _ (by omega) (by omega)
  have u2 : IntKind.i64.wrap (k2 : Int) = k2 := wraps_i64 _ (by omega) (by omega)
  have u3 : IntKind.i64.wrap (k3 : Int) = k3 := wraps_i64 _ (by omega) (by omega)
  have l0 : k0 < n := by omega
  have l1 : k1 < n := by omega
  have l2 : k2 < n := by omega
  have l3 : k3 < n := by omega
  have m0 : (k0 : Int) < n := by omega
  have m1 : (k1 : Int) < n := by omega
  have m2 : (k2 : Int) < n := by omega
  have m3 : (k3 : Int) < n := by omega
  obtain ⟨dn, hdn⟩ : ∃ dn, dn = n - k0 := ⟨_, rfl⟩
  have v4 : (n : Int) - k0 = dn := by omega
  have u4 : IntKind.i64.wrap (dn : Int) = dn := wraps_i64 _ (by omega) (by omega)
  have d9 : decide ((dn : Int) < 4) = false := by simp; omega
  have d8 : decide (dn < 4) = false := by simp; omega
  have HK : Hid (((k0 : Nat) : Int) + 4 = 2 + (u : Int) + 4) := by show _ = _; omega
  have u5 : IntKind.i64.wrap ((k0 : Int) + 4) = (k0 : Int) + 4 := wraps_i64 _ (by omega) (by omega)
  obtain ⟨lb', hlb⟩ : ∃ l, l = bs.length := ⟨_, rfl⟩
  have HLB : Hid (lb' = bs.length) := hlb
  rw [← hlb] at hin
  rw [← hlb]
  clear hI hs ezs ha2 e3 hr hcell hl hat x0 x1 x2 x3 hys hyl hzl hk0 hk1 hk2 hk3 hdn hu hlb hle
  go_enter Tryz.func10, Tryz.ntmps10
  go_wp2_with fail
  go_region
  go_wp2_with fail
  refine hin.mono ?_
  rintro e w2 ⟨xo, xc, rfl, hx, b2⟩
  have B2' : Below w.heap.size w w2 := (Below.refl _ _).drew.trans (b2.mono (Nat.le_refl _))
  have B2 : Hid (Below w.heap.size w w2) := B2'
  obtain ⟨x0, x1, x2, x3⟩ := HXC.out
  have kp : ∀ (a : Addr) (val : Value), w.cell? a = some val → w2.cell? a = some val := fun a val h => by
    rw [B2'.cell (World.block_lt_of_cell? w _ h)]
    exact h
  have g0 := kp _ _ x0
  have g1 := kp _ _ x1
  have g2 := kp _ _ x2
  have g3 := kp _ _ x3
  have hvb := adl_bound bs
  have had := Sum.radler_any xo lb' xc bs w2.drew (hx.keep (Below.refl _ _).drew) (by have := HLB.out; omega)
  have had' : Calls Tryz.prog 22 #[.slice xo lb' xc] w2.drew fun e w' => e = .returned (.int .u32 (adl bs)) ∧ w' = w2.drew := had
  have HX : Hid (Rd w2.drew xo lb' xc bs) := hx.keep (Below.refl _ _).drew
  obtain ⟨vv, hv⟩ : ∃ vv, vv = adl bs := ⟨_, rfl⟩
  rw [← hv] at g0 g1 g2 g3 hvb had'
  obtain ⟨y0, hy0⟩ : ∃ y, y = vv / 16777216 % 256 := ⟨_, rfl⟩
  obtain ⟨y1, hy1⟩ : ∃ y, y = vv / 65536 % 256 := ⟨_, rfl⟩
  obtain ⟨y2, hy2⟩ : ∃ y, y = vv / 256 % 256 := ⟨_, rfl⟩
  obtain ⟨y3, hy3⟩ : ∃ y, y = vv % 256 := ⟨_, rfl⟩
  rw [← hy0] at g0
  rw [← hy1] at g1
  rw [← hy2] at g2
  rw [← hy3] at g3
  have n0 : 0 ≤ y0 ∧ y0 < 256 := by omega
  have n1 : 0 ≤ y1 ∧ y1 < 256 := by omega
  have n2 : 0 ≤ y2 ∧ y2 < 256 := by omega
  have n3 : 0 ≤ y3 ∧ y3 < 256 := by omega
  have hsum : (y0 * 65536 + y1 * 256 + y2) * 256 + y3 = vv := by omega
  have o1 := or1 y0 y1 n0 n1
  have o2 := or2 (y0 * 256 + y1) y2 (by omega) n2
  have o3 := or3 (y0 * 65536 + y1 * 256 + y2) y3 (by omega) n3
  rw [hsum] at o3
  rw [show (y0 * 256 + y1) * 65536 = y0 * 16777216 + y1 * 65536 by omega, show y0 * 16777216 + y1 * 65536 + y2 * 256 = (y0 * 65536 + y1 * 256 + y2) * 256 by omega] at o2
  obtain ⟨t1, ht1⟩ : ∃ t1, t1 = y0 * 16777216 + y1 * 65536 := ⟨_, rfl⟩
  obtain ⟨t2, ht2⟩ : ∃ t2, t2 = (y0 * 65536 + y1 * 256 + y2) * 256 := ⟨_, rfl⟩
  rw [← ht1] at o1 o2
  rw [← ht2] at o2 o3
  have r0 : IntKind.u32.wrap y0 = y0 := Sum.wraps_u32 _ (by omega) (by omega)
  have r1 : IntKind.u32.wrap y1 = y1 := Sum.wraps_u32 _ (by omega) (by omega)
  have r2 : IntKind.u32.wrap y2 = y2 := Sum.wraps_u32 _ (by omega) (by omega)
  have r3 : IntKind.u32.wrap y3 = y3 := Sum.wraps_u32 _ (by omega) (by omega)
  have s0 : IntKind.u32.wrap (y0 * 16777216) = y0 * 16777216 := Sum.wraps_u32 _ (by omega) (by omega)
  have s1 : IntKind.u32.wrap (y1 * 65536) = y1 * 65536 := Sum.wraps_u32 _ (by omega) (by omega)
  have s2 : IntKind.u32.wrap (y2 * 256) = y2 * 256 := Sum.wraps_u32 _ (by omega) (by omega)
  clear hx b2 hin x0 x1 x2 x3 kp hv hy0 hy1 hy2 hy3 hsum ht1 ht2 had hvb B2'
  go_wp2_with fail
  go_region
  go_wp2_with (go_at_call 22; refine had'.mono ?_; rintro e w9 ⟨rfl, hw⟩; subst w9)
  go_ret3
  rw [HK.out]
  exact ⟨xo, xc, rfl, HX.out, B2.out.drew⟩

theorem runpack_read {bs : List Int} {F : List Fd} (h : Dfl bs F) (hf : Ft F) (hb : ∀ x ∈ bs, 0 ≤ x ∧ x < 256) (hs : bs.length ≤ 65535) (ts : List Int) (ao : Option Addr) (n c m : Nat) (w : World) (hr : Rd w ao n c (pkF F bs ++ ts)) (hn : n ≤ 1000000000) (hm : bs.length ≤ m) (hm2 : m ≤ 262144) :
    Calls Tryz.prog 10 #[.slice ao n c, .int .i64 m] w fun e w' => ∃ xo xc, e = .returned (.tuple #[.slice xo bs.length xc, .int .i64 (2 + (((fb F + 7) / 8 : Nat) : Int) + 4), .int .i64 0]) ∧ Rd w' xo bs.length xc bs ∧ Below w.heap.size w w' := by
  rw [pkF_tail] at hr
  refine runpack_yes ao n c (byF F) ts m bs _ w hr hn (byF_len F).symm (by omega) (fun W a k _ hR => ?_)
  exact rinflate h hf hb hs (su4 (adl bs) ++ ts) a _ k m W hR (by have := hr.len; simp only [List.length_append, List.length_cons, List.length_nil] at this ⊢; omega) hm hm2

end Go.Proofs.YtiahbicodlgmhaaGreatDoor.D
