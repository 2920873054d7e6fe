/- XUn, LBounds: the document's own functions, walked. -/
import Derived.Test.YtiahbicodlgmhaaGreatDoorM43
import Derived.Test.YtiahbicodlgmhaaGreatDoorM37
/- The document's Unpack, of what Pack writes. -/
namespace Go.Proofs.YtiahbicodlgmhaaGreatDoor.D
open Go.RowKit
open Go.Proofs.YtiahbicodlgmhaaGreatDoor.Z

theorem hd_and15 : bits .and .u8 120 15 = 8 := by decide
theorem hd_or : bits .or .i64 30720 156 = 30876 := by decide
theorem hd_and32 : bits .and .u8 156 32 = 0 := by decide

set_option maxRecDepth 100000 in
set_option maxHeartbeats 4000000 in
/-- A frame whose sum is cut short. -/
theorem runpack_sum (ao : Option Addr) (n c : Nat) (zs : List Int) (m : Int) (bs : List Int) (u : Nat) (w : World) (hr : Rd w ao n c ([120, 156] ++ zs)) (hn : n ≤ 1000000000) (hu : u ≤ zs.length) (hu4 : zs.length < u + 4)
    (hI : ∀ (W : World) (a : Option Addr) (k : Nat), Below w.heap.size w W → Rd W a zs.length k zs → Calls Tryz.prog 12 #[.slice a zs.length k, .int .i64 m] W fun e w' => ∃ xo xc, e = .returned (.tuple #[.slice xo bs.length xc, .int .i64 u, .int .i64 0]) ∧ Rd w' xo bs.length xc bs ∧ Below W.heap.size W w') :
    Calls Tryz.prog 10 #[.slice ao n c, .int .i64 m] w fun e w' => e = .returned (.tuple #[.slice none 0 0, .int .i64 0, .int .i64 3]) ∧ Below w.heap.size w w' := by
  have hl := hr.len
  simp only [List.length_append, List.length_cons, List.length_nil] at hl
  have hle := hr.le
  obtain ⟨b, off, rfl, hcell⟩ := hr.plain (by omega)
  have c0 := hcell 0 (by omega)
  have c1 := hcell 1 (by omega)
  simp at c0 c1
  have e3 : ∀ W, Rd W (some ⟨b, off, none⟩) n c ([120, 156] ++ zs) → (Instr.slice 22 (.slice (some ⟨b, off, none⟩) n c) (some (.int .i64 2)) none none).run Tryz.prog W = .ok (.slice (if c = 2 then some ⟨b, off, none⟩ else Option.map (fun x : Addr => x.add 2) (some ⟨b, off, none⟩)) (n - 2) (c - 2)) W := fun W hW => Sum.run_sub (p := 2) (m := n - 2) hW (by omega) (some (.int .i64 2)) none (.inl rfl) (.inr ⟨rfl, by omega⟩)
  have hs := hr.sub 2 (n - 2) (by omega)
  have ezs : (([120, 156] ++ zs).drop 2).take (n - 2) = zs := by
    rw [show ([120, 156] ++ zs : List Int).drop 2 = zs from rfl, List.take_of_length_le (by omega)]
  rw [ezs] at hs
  obtain ⟨a2, ha2⟩ : ∃ a2, a2 = (if c = 2 then some (⟨b, off, none⟩ : Addr) else Option.map (fun x : Addr => x.add 2) (some ⟨b, off, none⟩)) := ⟨_, rfl⟩
  rw [← ha2] at hs e3
  have hzl : zs.length = n - 2 := by omega
  have hin := hI w.drew a2 (c - 2) (Below.refl _ _).drew (by rw [hzl]; exact hs.keep (Below.refl _ _).drew)
  rw [hzl] at hin
  have q3 := e3 w.drew (hr.keep (Below.refl _ _).drew)
  have d1 : decide ((n : Int) < 2) = false := by simp; omega
  have d2 : 0 < n := by omega
  have d3 : 1 < n := by omega
  have d0 : ¬ n < 2 := by omega
  have a1 := hd_and15
  have a3 := hd_or
  have a4 := hd_and32
  have u1 : IntKind.i64.wrap ((u : Int) + 2) = (u : Int) + 2 := wraps_i64 _ (by omega) (by omega)
  have u2 : IntKind.i64.wrap ((n : Int) - ((u : Int) + 2)) = (n : Int) - ((u : Int) + 2) := wraps_i64 _ (by omega) (by omega)
  have u3 : decide ((n : Int) - ((u : Int) + 2) < 4) = true := by simp; omega
  clear hI hs ezs ha2 e3 hr hcell hl
  go_enter Tryz.func10, Tryz.ntmps10
  go_wp2_with fail
  go_region
  go_wp2_with fail
  refine hin.mono ?_
  rintro e w2 ⟨xo, xc, rfl, hx, b2⟩
  have B2 : Hid (Below w.heap.size w w2) := (Below.refl _ _).drew.trans (b2.mono (Nat.le_refl _))
  clear hx b2 hin
  go_wp2
  go_ret3
  exact ⟨rfl, B2.out⟩

theorem runpack_less {bs : List Int} {F : List Fd} (h : Dfl bs F) (hf : Ft F) (hb : ∀ x ∈ bs, 0 ≤ x ∧ x < 256) (hs : bs.length ≤ 65535) (ao : Option Addr) (n c m : Nat) (w : World) (hr : Rd w ao n c ((pkF F bs).take n)) (hn : n ≤ 1000000000) (h2 : 2 + (fb F + 7) / 8 ≤ n) (hnF : n < 2 + (fb F + 7) / 8 + 4) (hm : bs.length ≤ m) (hm2 : m ≤ 262144) :
    Calls Tryz.prog 10 #[.slice ao n c, .int .i64 m] w fun e w' => e = .returned (.tuple #[.slice none 0 0, .int .i64 0, .int .i64 3]) ∧ Below w.heap.size w w' := by
  have hF := byF_len F
  have e : (pkF F bs).take n = [120, 156] ++ (byF F ++ (su4 (adl bs)).take (n - (2 + (fb F + 7) / 8))) := by
    obtain ⟨k, rfl⟩ : ∃ k, n = k + 2 := ⟨n - 2, by omega⟩
    simp only [pkF, List.cons_append, List.nil_append, List.take_succ_cons]
    rw [List.take_append, List.take_of_length_le (by omega), hF, show k + 2 - (2 + (fb F + 7) / 8) = k - (fb F + 7) / 8 by omega]
  have h4 : (su4 (adl bs)).length = 4 := rfl
  have hlk : (byF F ++ (su4 (adl bs)).take (n - (2 + (fb F + 7) / 8))).length = n - 2 := by rw [List.length_append, List.length_take, hF, h4]; omega
  rw [e] at hr
  refine runpack_sum ao n c _ m bs ((fb F + 7) / 8) w hr hn (by omega) (by omega) (fun W a k hW hR => ?_)
  exact rinflate h hf hb hs _ a _ k m W hR (by omega) hm hm2

end Go.Proofs.YtiahbicodlgmhaaGreatDoor.D

/- Two frames side by side. -/
namespace Go.Proofs.YtiahbicodlgmhaaGreatDoor.D
open Go.RowKit
open Go.Proofs.YtiahbicodlgmhaaGreatDoor.Z

theorem none_bytes (w : World) (base : Nat) (hb : base ≤ w.heap.size) : (w.alloc (.cells #[] 5)).ownsRow base 5 1 (.slice (some ⟨w.heap.size, 0, none⟩) 0 0) 0 (([] : List Int).map (Value.int .u8)) :=
  World.ownsRow_lit (base := base) (e := 5) (size := 1) w #[] 0 hb (by unfold maxLen; omega) rfl

theorem bounds_skip (a0 : Option Addr) (A ca : Nat) (b0 : Option Addr) (Bn cb : Nat) (eff : Int) (w : World) (h0 : Tab w 0) (h1 : Tab w 1) (hA : 3000 < A ∨ 3000 < Bn) :
    Calls Tryz.prog 7 #[.slice a0 A ca, .slice b0 Bn cb, .int .i64 eff] w fun e w' => e = .returned (.bool true) ∧ Below w.heap.size w w' := by
  have hkn := known_yes w h0 h1
  by_cases c1 : 3000 < A
  · have d1 : decide ((3000 : Int) < A) = true := by simp; omega
    have d2 : decide (3000 < A) = true := by simp; omega
    clear hA
    go_enter Tryz.func7, Tryz.ntmps7
    go_wp2_with (go_at_call 8; refine hkn.mono ?_; rintro e w1 ⟨rfl, hb1⟩)
    go_ret
    exact ⟨rfl, hb1⟩
  · have c2 : 3000 < Bn := by omega
    have d1 : decide ((3000 : Int) < A) = false := by simp; omega
    have d2 : decide (3000 < A) = false := by simp; omega
    have d3 : decide ((3000 : Int) < Bn) = true := by simp; omega
    have d4 : decide (3000 < Bn) = true := by simp; omega
    clear hA
    go_enter Tryz.func7, Tryz.ntmps7
    go_wp2_with (go_at_call 8; refine hkn.mono ?_; rintro e w1 ⟨rfl, hb1⟩)
    go_ret
    exact ⟨rfl, hb1⟩

set_option maxRecDepth 100000 in
set_option maxHeartbeats 8000000 in
theorem bounds_go (a0 : Option Addr) (A ca : Nat) (xs : List Int) (b0 : Option Addr) (Bn cb : Nat) (ys : List Int) (eff : Int) (w : World) (hra : Rd w a0 A ca xs) (hrb : Rd w b0 Bn cb ys) (hA : A ≤ 3000) (hB : Bn ≤ 3000) (he : eff < 9223372036854775808) (h0 : Tab w 0) (h1 : Tab w 1) :
    Calls Tryz.prog 7 #[.slice a0 A ca, .slice b0 Bn cb, .int .i64 eff] w fun e w' => e = .returned (.bool true) ∧ Below w.heap.size w w' := by
  have hkn := known_yes w h0 h1
  have d1 : decide ((3000 : Int) < A) = false := by simp; omega
  have d2 : decide (3000 < A) = false := by simp; omega
  have d3 : decide ((3000 : Int) < Bn) = false := by simp; omega
  have d4 : decide (3000 < Bn) = false := by simp; omega
  have HT0 : Hid (Tab w 0) := h0
  have HT1 : Hid (Tab w 1) := h1
  have HRA : Hid (Rd w a0 A ca xs) := hra
  have HRB : Hid (Rd w b0 Bn cb ys) := hrb
  have hlx := hra.len
  have hly := hrb.len
  have HLX : Hid (xs.length = A ∧ ys.length = Bn) := ⟨hlx, hly⟩
  have HBX : Hid ((∀ x ∈ xs, 0 ≤ x ∧ x < 256) ∧ ∀ x ∈ ys, 0 ≤ x ∧ x < 256) := ⟨hra.byt, hrb.byt⟩
  clear h0 h1 hra hrb hlx hly
  go_enter Tryz.func7, Tryz.ntmps7
  go_wp2_with fail
  refine hkn.mono ?_
  rintro e w1 ⟨rfl, B1⟩
  clear hkn
  go_wp2_with fail
  refine (pack_any a0 A ca xs eff w1 (HRA.out.keep B1) (by omega) he (tab_keep HT1.out B1)).mono ?_
  rintro e w2 ⟨v, F, rfl, hd, ho, b2⟩
  obtain ⟨ao, c, rfl, hrd, _⟩ := Lzz.own_rd ho (pkF_byt _ _)
  have B2 := B1.trans (b2.mono B1.size)
  have HD1 : Hid (Dd xs eff A F) := hd
  have HR2 : Hid (Rd w2 ao (2 + (fb F + 7) / 8 + 4) c (pkF F xs)) := hrd
  have hle := hd.le
  clear hd ho hrd b2 B1
  go_wp2_with fail
  refine (pack_any b0 Bn cb ys eff w2 (HRB.out.keep B2) (by omega) he (tab_keep HT1.out B2)).mono ?_
  rintro e w3 ⟨v, F', rfl, hd, ho, b3⟩
  obtain ⟨ao', c', rfl, hrd, _⟩ := Lzz.own_rd ho (pkF_byt _ _)
  have B3 := B2.trans (b3.mono B2.size)
  have HD2 : Hid (Dd ys eff Bn F') := hd
  have HR3 : Hid (Rd w3 ao' (2 + (fb F' + 7) / 8 + 4) c' (pkF F' ys)) := hrd
  have HR2' : Hid (Rd w3 ao (2 + (fb F + 7) / 8 + 4) c (pkF F xs)) := HR2.out.keep b3
  have hle' := hd.le
  have hsA : ssz A ≤ 5000 := by unfold ssz nck; omega
  have hsB : ssz Bn ≤ 5000 := by unfold ssz nck; omega
  clear hd ho hrd b3 B2 HR2
  obtain ⟨l1, hl1⟩ : ∃ l1, l1 = 2 + (fb F + 7) / 8 + 4 := ⟨_, rfl⟩
  obtain ⟨l2, hl2⟩ : ∃ l2, l2 = 2 + (fb F' + 7) / 8 + 4 := ⟨_, rfl⟩
  rw [← hl1] at HR2' ⊢
  rw [← hl2] at HR3 ⊢
  have HL : Hid (l1 = 2 + (fb F + 7) / 8 + 4 ∧ l2 = 2 + (fb F' + 7) / 8 + 4) := ⟨hl1, hl2⟩
  have m1 : 6 ≤ l1 ∧ l1 ≤ 6000 := by omega
  have m2 : 6 ≤ l2 ∧ l2 ≤ 6000 := by omega
  have HB3 : Hid (Below w.heap.size w w3) := B3
  have bE : Below w3.heap.size w3 (w3.alloc (.cells #[] 5)) := (Below.refl _ _).alloc (Nat.le_refl _) _
  have HO0 : Hid ((w3.alloc (.cells #[] 5)).ownsRow w3.heap.size 5 1 (.slice (some ⟨w3.heap.size, 0, none⟩) 0 0) 0 (([] : List Int).map (Value.int .u8))) := none_bytes w3 w3.heap.size (Nat.le_refl _)
  have r20 := HR2'.out.keep bE
  clear hle hle' hsA hsB hl1 hl2 B3
  go_wp2_with (first
    | (refine Sum.wpList_append_v rfl _ _ rfl w3.heap.size (0 + l1) v4 ([] ++ pkF F xs) rfl o4 ao' l2 c' (pkF F' ys) rfl r31 (by omega) B4.size ?_; intro v5 w5 o5 g5; have o5' : w5.ownsRow w3.heap.size 5 1 v5 (l1 + l2) ((pkF F xs ++ pkF F' ys).map (Value.int .u8)) := (by simpa using o5); have hbb : ∀ x ∈ pkF F xs ++ pkF F' ys, 0 ≤ x ∧ x < 256 := (fun x hx => by rcases List.mem_append.1 hx with h | h; exact pkF_byt _ _ x h; exact pkF_byt _ _ x h); obtain ⟨vo, vc, rfl, hrd5, _⟩ := Lzz.own_rd o5' hbb; have B5 : Below w3.heap.size w3 w5 := B4.grown g5 B4.size (fun q hq => (o4.lt q hq).1))
    | (refine Sum.wpList_append_v rfl _ _ rfl w3.heap.size 0 (.slice (some ⟨w3.heap.size, 0, none⟩) 0 0) [] rfl HO0.out ao l1 c (pkF F xs) rfl r20 (by omega) (by simp) ?_; intro v4 w4 o4 g4; have B4 : Below w3.heap.size w3 w4 := bE.grown g4 (by simp) (fun q hq => by cases hq; exact Nat.le_refl _); have r31 := HR3.out.keep B4))
  obtain ⟨L, hL⟩ : ∃ L, L = l1 + l2 := ⟨_, rfl⟩
  rw [← hL] at hrd5 ⊢
  have HLL : Hid (L = l1 + l2) := hL
  have B5w : Below w.heap.size w w5 := HB3.out.trans (B5.mono HB3.out.size)
  have hlx := HLX.out.1
  have hly := HLX.out.2
  have hu1 := unpack_read HD1.out.dfl HD1.out.ft HBX.out.1 (pkF F' ys) vo L vc A w5 hrd5 (by omega) (tab_below HT0.out B5w) (by omega) (by omega)
  rw [show 2 + (((fb F + 7) / 8 : Nat) : Int) + 4 = (l1 : Int) by have := HL.out.1; omega, hlx] at hu1
  have HR5 : Hid (Rd w5 vo L vc (pkF F xs ++ pkF F' ys)) := hrd5
  have HB5 : Hid (Below w.heap.size w w5) := B5w
  clear hrd5 B5 B5w o5 o5' g5 o4 g4 B4 r31 r20 bE hbb hL hlx hly HO0
  have e11 : ∀ W, Rd W vo L vc (pkF F xs ++ pkF F' ys) → (Instr.slice 22 (.slice vo L vc) (some (.int .i64 (l1 : Int))) none none).run Tryz.prog W = .ok (.slice (if vc = l1 then vo else Option.map (fun x : Addr => x.add l1) vo) l2 (vc - l1)) W := fun W hW => Sum.run_sub (p := l1) (m := l2) hW (by have := HLL.out; omega) (some (.int .i64 (l1 : Int))) none (.inl rfl) (.inr ⟨rfl, HLL.out.symm⟩)
  have HS11 : Hid (∀ W, Rd W vo L vc (pkF F xs ++ pkF F' ys) → Rd W (if vc = l1 then vo else Option.map (fun x : Addr => x.add l1) vo) l2 (vc - l1) (pkF F' ys ++ [])) := fun W hW => by
    have := hW.sub l1 l2 (by have := HLL.out; omega)
    rw [show l1 = (pkF F xs).length by rw [pkF_len]; exact HL.out.1, List.drop_left, List.take_of_length_le (by rw [pkF_len]; exact Nat.le_of_eq HL.out.2.symm)] at this
    rw [List.append_nil, show l1 = (pkF F xs).length by rw [pkF_len]; exact HL.out.1]
    exact this
  obtain ⟨a11, ha11⟩ : ∃ a11, a11 = (if vc = l1 then vo else Option.map (fun x : Addr => x.add l1) vo) := ⟨_, rfl⟩
  rw [← ha11] at e11 HS11
  have HE11 : Hid (∀ W, Rd W vo L vc (pkF F xs ++ pkF F' ys) → (Instr.slice 22 (.slice vo L vc) (some (.int .i64 (l1 : Int))) none none).run Tryz.prog W = .ok (.slice a11 l2 (vc - l1)) W) := e11
  obtain ⟨p1, hp1⟩ : ∃ p1, p1 = l1 - 1 := ⟨_, rfl⟩
  have y1 : (l1 : Int) - 1 = p1 := by omega
  have y2 : IntKind.i64.wrap (p1 : Int) = p1 := wraps_i64 _ (by omega) (by omega)
  have e14 : ∀ W, Rd W vo L vc (pkF F xs ++ pkF F' ys) → (Instr.slice 22 (.slice vo L vc) none (some (.int .i64 (p1 : Int))) none).run Tryz.prog W = .ok (.slice (if vc = 0 then vo else Option.map (fun x : Addr => x.add 0) vo) p1 (vc - 0)) W := fun W hW => Sum.run_sub (p := 0) (m := p1) hW (by have := HLL.out; omega) none (some (.int .i64 (p1 : Int))) (.inr ⟨rfl, rfl⟩) (.inl (by rw [Nat.zero_add]))
  have HS14 : Hid (∀ W, Rd W vo L vc (pkF F xs ++ pkF F' ys) → Rd W (if vc = 0 then vo else Option.map (fun x : Addr => x.add 0) vo) p1 (vc - 0) ((pkF F xs).take p1)) := fun W hW => by
    have := hW.sub 0 p1 (by have := HLL.out; omega)
    rw [List.drop_zero, List.take_append_of_le_length (by rw [pkF_len]; have := HL.out.1; omega)] at this
    exact this
  obtain ⟨a14, ha14⟩ : ∃ a14, a14 = (if vc = 0 then vo else Option.map (fun x : Addr => x.add 0) vo) := ⟨_, rfl⟩
  rw [← ha14] at e14 HS14
  have HE14 : Hid (∀ W, Rd W vo L vc (pkF F xs ++ pkF F' ys) → (Instr.slice 22 (.slice vo L vc) none (some (.int .i64 (p1 : Int))) none).run Tryz.prog W = .ok (.slice a14 p1 (vc - 0)) W) := e14
  have HP1 : Hid (p1 = l1 - 1) := hp1
  clear e11 ha11 e14 ha14 hp1
  refine hu1.mono ?_
  rintro e w6 ⟨xo, xc, rfl, hx, b6⟩
  have B6 := HB5.out.trans (b6.mono HB5.out.size)
  have R6 := HR5.out.keep b6
  have q1 := str22 hx
  have q2 := str22 (HRA.out.keep B6)
  have q3 := HE11.out w6 R6
  have hu2 := unpack_read HD2.out.dfl HD2.out.ft HBX.out.2 [] a11 l2 (vc - l1) Bn w6 (HS11.out w6 R6) (by omega) (tab_below HT0.out B6) (by have := HLX.out.2; omega) (by omega)
  rw [show 2 + (((fb F' + 7) / 8 : Nat) : Int) + 4 = (l2 : Int) by have := HL.out.2; omega, HLX.out.2] at hu2
  have HB6 : Hid (Below w.heap.size w w6) := B6
  have HR6 : Hid (Rd w6 vo L vc (pkF F xs ++ pkF F' ys)) := R6
  obtain ⟨sx, hsx⟩ : ∃ sx, sx = strOfNums xs := ⟨_, rfl⟩
  rw [← hsx] at q1 q2
  clear hu1 hx b6 B6 R6 hsx HB5 HR5
  go_wp2_with fail
  refine hu2.mono ?_
  rintro e w7 ⟨xo2, xc2, rfl, hx2, b7⟩
  have B7 := HB6.out.trans (b7.mono HB6.out.size)
  have R7 := HR6.out.keep b7
  have q1 := str22 hx2
  have q2 := str22 (HRB.out.keep B7)
  have q3 := HE14.out w7 R7
  have hp := HP1.out
  have hu3 := unpack_less HD1.out.dfl HD1.out.ft HBX.out.1 a14 p1 (vc - 0) A w7 (HS14.out w7 R7) (by omega) (by have := HL.out.1; omega) (by have := HL.out.1; omega) (tab_below HT0.out B7) (by have := HLX.out.1; omega) (by omega)
  have HB7 : Hid (Below w.heap.size w w7) := B7
  have HR7 : Hid (Rd w7 vo L vc (pkF F xs ++ pkF F' ys)) := R7
  obtain ⟨sy, hsy⟩ : ∃ sy, sy = strOfNums ys := ⟨_, rfl⟩
  rw [← hsy] at q1 q2
  clear hu2 hx2 b7 B7 R7 hsy HB6 HR6 hp
  go_wp2_with fail
  refine hu3.mono ?_
  rintro e w8 ⟨rfl, b8⟩
  have B8 := HB7.out.trans (b8.mono HB7.out.size)
  have R8 := HR7.out.keep b8
  have q3 := HE14.out w8 R8
  have hp := HP1.out
  have hu4 := runpack_less HD1.out.dfl HD1.out.ft HBX.out.1 (by have := HLX.out.1; omega) a14 p1 (vc - 0) A w8 (HS14.out w8 R8) (by omega) (by have := HL.out.1; omega) (by have := HL.out.1; omega) (by have := HLX.out.1; omega) (by omega)
  have HB8 : Hid (Below w.heap.size w w8) := B8
  clear hu3 b8 B8 R8 HB7 HR7 hp
  go_wp2_with fail
  refine hu4.mono ?_
  rintro e w9 ⟨rfl, b9⟩
  have B9 : Hid (Below w.heap.size w w9) := HB8.out.trans (b9.mono HB8.out.size)
  clear hu4 b9 HB8
  go_wp2
  go_ret
  exact ⟨rfl, B9.out⟩

theorem bounds_any (a0 : Option Addr) (A ca : Nat) (xs : List Int) (b0 : Option Addr) (Bn cb : Nat) (ys : List Int) (eff : Int) (w : World) (hra : Rd w a0 A ca xs) (hrb : Rd w b0 Bn cb ys) (he : eff < 9223372036854775808) (h0 : Tab w 0) (h1 : Tab w 1) :
    Calls Tryz.prog 7 #[.slice a0 A ca, .slice b0 Bn cb, .int .i64 eff] w fun e w' => e = .returned (.bool true) ∧ Below w.heap.size w w' := by
  by_cases hA : A ≤ 3000
  · by_cases hB : Bn ≤ 3000
    · exact bounds_go a0 A ca xs b0 Bn cb ys eff w hra hrb hA hB he h0 h1
    · exact bounds_skip a0 A ca b0 Bn cb eff w h0 h1 (.inr (by omega))
  · exact bounds_skip a0 A ca b0 Bn cb eff w h0 h1 (.inl (by omega))

end Go.Proofs.YtiahbicodlgmhaaGreatDoor.D
