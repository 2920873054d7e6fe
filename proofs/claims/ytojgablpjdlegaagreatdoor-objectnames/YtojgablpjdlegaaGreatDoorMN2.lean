/- ObY, ObZ, NmA, NmB, NmC, NmD. -/
import Derived.Test.YtojgablpjdlegaaGreatDoorM19
import Derived.Test.YtojgablpjdlegaaGreatDoorMN1
/- Open of what Canon wrote. -/
namespace Go.Proofs.YtojgablpjdlegaaGreatDoor
open Go.RowKit Go.Shelf

theorem index_first (z : UInt8) (r : List UInt8) : ∀ h : List UInt8, (∀ b ∈ h, b ≠ z) → Lib.index (h ++ z :: r) [z] = h.length
  | [], _ => by simp [Lib.index]
  | b :: h, hz => by
    have ih := index_first z r h (fun x hx => hz x (by simp [hx]))
    have hb : b ≠ z := hz b (by simp)
    rw [List.cons_append]
    unfold Lib.index
    rw [ih]
    have : ((h.length : Int) == -1) = false := by simp
    simp [this]
    exact fun e => absurd e.symm hb

theorem cut_first (z : UInt8) (h r : List UInt8) (hz : ∀ b ∈ h, b ≠ z) : Lib.cut (h ++ z :: r) [z] = (h, r, true) := by
  unfold Lib.cut
  rw [index_first z r h hz, if_pos (by omega)]
  simp

theorem dec_ge (n : Nat) : ∀ b ∈ Lib.decDigits n, 48 ≤ b.toNat := by
  intro b hb
  rw [Lib.decDigits_eq] at hb
  obtain ⟨t, _, rfl⟩ := List.mem_map.1 hb
  unfold Lib.dg
  have : n / 10 ^ (Lib.nDigits n - 1 - t) % 10 < 10 := Nat.mod_lt _ (by omega)
  simp
  omega

theorem wl_ge (k : Int) : ∀ b ∈ wl k, 48 ≤ b.toNat := by
  unfold wl wrd
  split
  · decide
  · split
    · decide
    · split
      · decide
      · split <;> decide

theorem kof_wl (k : Int) (hk : isK k = true) : kof (wl k) = (k, true) := by
  have h : k = 1 ∨ k = 2 ∨ k = 3 ∨ k = 4 := by
    unfold isK at hk
    simp at hk
    omega
  rcases h with rfl | rfl | rfl | rfl <;> decide +kernel

theorem ne_of_ge {b z : UInt8} (h : 48 ≤ b.toNat) (hz : z.toNat < 48) : b ≠ z := fun e => by subst e; omega

/-- What stands ahead of the nought. -/
def cnh (k : Int) (n : Nat) : List UInt8 := wl k ++ 32 :: Lib.decDigits n

theorem cnl_eq (k : Int) (n : Nat) : cnl k n = cnh k n ++ [0] := by simp [cnl, cnh]

theorem cnh_cut (k : Int) (n : Nat) : Lib.cut (cnh k n) [32] = (wl k, Lib.decDigits n, true) :=
  cut_first 32 _ _ (fun b hb => ne_of_ge (wl_ge k b hb) (by decide))

theorem cnh_nz (k : Int) (n : Nat) : ∀ b ∈ cnh k n, b ≠ 0 := by
  intro b hb
  simp [cnh] at hb
  rcases hb with h | rfl | h
  · exact ne_of_ge (wl_ge k b h) (by decide)
  · decide
  · exact ne_of_ge (dec_ge n b h) (by decide)

theorem cn_index (k : Int) (n : Nat) (xs : List Int) : Lib.index (Lib.bytesOf (tn (cnl k n) ++ xs)) (Lib.bytesOf [0]) = ((cnh k n).length : Int) := by
  have h : Lib.bytesOf (tn (cnl k n) ++ xs) = cnh k n ++ 0 :: tb xs := by
    show tb (tn (cnl k n) ++ xs) = _
    have : tb (tn (cnl k n) ++ xs) = tb (tn (cnl k n)) ++ tb xs := by simp [tb]
    rw [this, tb_tn, cnl_eq]
    simp
  rw [h]
  exact index_first 0 _ _ (cnh_nz k n)

theorem open_canon (k : Int) (hk : isK k = true) (ao : Option Addr) (L c m : Nat) (xs : List Int) (w : World) (hg : Gs w) (hr : Rd w ao L c (tn (cnl k m) ++ xs)) (hL : L ≤ 1000000) (hx : xs.length = m) (hm : m ≤ 16384) :
    Calls Tryz.prog 17 #[.slice ao L c] w fun e w' => ∃ v, e = .returned (.tuple #[.int .i64 k, v, .int .i64 0]) ∧ w'.ownsRow w.heap.size 5 1 v m (xs.map (Value.int .u8)) ∧ Below w.heap.size w w' := by
  have hl : (tn (cnl k m)).length = (cnh k m).length + 1 := by rw [tn_len, cnl_eq]; simp
  have hL2 : L = (cnh k m).length + 1 + m := by
    have := hr.len
    rw [List.length_append, hl, hx] at this
    exact this.symm
  have ht : tb ((tn (cnl k m) ++ xs).take (cnh k m).length) = cnh k m := by
    rw [List.take_append_of_le_length (by omega)]
    have : tb ((tn (cnl k m)).take (cnh k m).length) = (tb (tn (cnl k m))).take (cnh k m).length := by simp [tb]
    rw [this, tb_tn, cnl_eq]
    simp
  have h := open_ok ao L c (tn (cnl k m) ++ xs) (cnh k m).length m (wl k) (Lib.decDigits m) true k w hg hr hL (cn_index k m xs) hL2 (by rw [ht]; exact cnh_cut k m) (kof_wl k hk) rfl hm
  rw [show (tn (cnl k m) ++ xs).drop ((cnh k m).length + 1) = xs by rw [← hl]; simp] at h
  exact h

end Go.Proofs.YtojgablpjdlegaaGreatDoor

/- Open of what is too long. -/
namespace Go.Proofs.YtojgablpjdlegaaGreatDoor
open Go.RowKit Go.Shelf

set_option maxRecDepth 100000 in
set_option maxHeartbeats 1000000 in
theorem open_long (ao : Option Addr) (n c : Nat) (xs : List Int) (i m : Nat) (wd sz : List UInt8) (bb : Bool) (k : Int) (w : World) (hg : Gs w) (hr : Rd w ao n c xs) (hn : n ≤ 1000000) (hi : Lib.index (Lib.bytesOf xs) (Lib.bytesOf [0]) = (i : Int)) (him : n = i + 1 + m) (hcu : Lib.cut (tb (xs.take i)) [32] = (wd, sz, bb)) (hk : kof wd = (k, true)) (hsz : sz = Lib.decDigits m) (hm : 16384 < m) :
    Calls Tryz.prog 17 #[.slice ao n c] w fun e w' => e = .returned (.tuple #[.int .i64 0, .slice none 0 0, .int .i64 5]) ∧ Below w.heap.size w w' := by
  have b0 := new_below w (Obj.cells #[.int .u8 0] 5)
  have r0 := hr.keep b0
  obtain ⟨mm, hmm⟩ := (hg.keep b0).most
  obtain ⟨a2, ha2⟩ : ∃ a2, a2 = (if c = i + 1 then ao else Option.map (fun x : Addr => x.add (i + 1)) ao) := ⟨_, rfl⟩
  have hbc : Calls Tryz.prog 53 #[.slice ao n c, .slice (some ⟨w.heap.size, 0, none⟩) 1 1] (w.alloc (Obj.cells #[.int .u8 0] 5)) fun e w' => e = .returned (.tuple #[.slice ao i c, .slice a2 m (c - (i + 1)), .bool true]) ∧ ∃ q, w' = (w.alloc (Obj.cells #[.int .u8 0] 5)).drewN q := by
    refine (Any.bytes_Cut_all Tryz.bcut ao (some ⟨w.heap.size, 0, none⟩) n c 1 1 xs [0] mm (w.alloc (Obj.cells #[.int .u8 0] 5)) r0.len rfl r0.byt (by simp) r0.bytesIn (one_rd w 0 (by omega)).bytesIn (fun e => (r0.nul e).2) r0.le (by omega) (by omega) hmm).mono ?_
    rintro e w' ⟨rfl, h2⟩
    refine ⟨?_, h2⟩
    rw [hi]
    unfold Lib.cutV Lib.fromV
    rw [if_pos (by omega), Int.toNat_natCast, ← ha2, show n - (i + 1) = m by omega]
  have HHD : Hid (∀ W, Below w.heap.size w W → (convert 22 9 (.slice ao i c)).run Tryz.prog W = .ok (sv (tb (xs.take i))) W) := fun W hW => by
    have := ((hr.keep hW).front i (by omega)).str
    rw [tb_sv] at this
    exact this
  have HDA : Hid (∀ W, Below w.heap.size w W → Rd W a2 m (c - (i + 1)) (xs.drop (i + 1))) := fun W hW => by
    have := (hr.keep hW).sub (i + 1) m (by omega)
    rw [List.take_of_length_le (by rw [List.length_drop, hr.len]; omega), ← ha2] at this
    exact this
  have hao : ∃ ad, a2 = some ad := by
    cases ao with
    | none => have := (hr.nul rfl).1; omega
    | some x => rw [ha2]; split <;> exact ⟨_, rfl⟩
  obtain ⟨ad, rfl⟩ := hao
  have HB0 : Hid (Below w.heap.size w (w.alloc (Obj.cells #[.int .u8 0] 5))) := b0
  have HG : Hid (∀ W, Below w.heap.size w W → Gs W) := fun W hW => hg.keep hW
  have HK : Hid (kof wd = (k, true)) := hk
  have hil : (tb (xs.take i)).length ≤ 1000000 := by rw [tb_len, List.length_take, hr.len]; omega
  have HCU : Hid (∀ W, Gs W → Calls Tryz.prog 54 #[sv (tb (xs.take i)), sv [32]] W fun e w' => e = .returned (.tuple #[sv wd, sv sz, .bool bb]) ∧ ∃ q, w' = W.drewN q) := fun W hW => by
    obtain ⟨m1, hm1⟩ := hW.most
    have h : Calls Tryz.prog 54 #[sv (tb (xs.take i)), sv [32]] W fun e w' => e = .returned (.tuple #[sv (Lib.cut (tb (xs.take i)) [32]).1, sv (Lib.cut (tb (xs.take i)) [32]).2.1, .bool (Lib.cut (tb (xs.take i)) [32]).2.2]) ∧ ∃ n, w' = W.drewN n := Any.strings_Cut Tryz.scut ⟨(tb (xs.take i)).toArray⟩ ⟨[32].toArray⟩ m1 W (by rw [size_sv]; omega) hm1
    rw [hcu] at h
    exact h
  have HIT : Hid (∀ W, Gs W → Calls Tryz.prog 49 #[.int .i64 m] W fun e w' => e = .returned (sv sz) ∧ Below W.heap.size W w') := fun W hW => by
    rw [hsz]
    exact itoa_any m W hW (by omega)
  have d1 : decide ((16384 : Int) < m) = true := by simp; omega
  have d2 : decide (16384 < m) = true := by simp [hm]
  generalize tb (xs.take i) = hd at *
  clear hg hr r0 b0 hmm hi him hcu hk hsz hm ha2 hn hil HDA
  go_enter Tryz.func17, Tryz.ntmps17
  go_wp2_with fail
  refine hbc.mono ?_
  rintro e w1 ⟨rfl, q1, hw1⟩
  have B1 : Below w.heap.size w w1 := by rw [hw1]; exact HB0.out.trans ((drewN_b _ _).mono HB0.out.size)
  have cv := HHD.out w1 B1
  have hcu := HCU.out w1 (HG.out w1 B1)
  have HB1 : Hid (Below w.heap.size w w1) := B1
  clear hbc hw1 B1
  go_wp2_with fail
  refine hcu.mono ?_
  rintro e w2 ⟨rfl, q2, hw2⟩
  have B2 : Below w.heap.size w w2 := by rw [hw2]; exact HB1.out.trans ((drewN_b _ _).mono HB1.out.size)
  have hko := kindOf_any wd w2 (HG.out w2 B2)
  rw [HK.out] at hko
  have HB2 : Hid (Below w.heap.size w w2) := B2
  have hit := HIT.out w2 (HG.out w2 B2)
  clear hcu hw2 B2 cv
  go_wp2_with fail
  refine hko.mono ?_
  rintro e wz ⟨rfl, hwz⟩
  subst wz
  clear hko
  go_wp2_with fail
  refine hit.mono ?_
  rintro e w3 ⟨rfl, b3⟩
  have B3 : Below w.heap.size w w3 := HB2.out.trans (b3.mono HB2.out.size)
  have HB3 : Hid (Below w.heap.size w w3) := B3
  clear hit b3 B3
  go_wp2
  go_ret3
  exact ⟨rfl, HB3.out⟩

theorem canon_long (k : Int) (hk : isK k = true) (ao : Option Addr) (L c m : Nat) (xs : List Int) (w : World) (hg : Gs w) (hr : Rd w ao L c (tn (cnl k m) ++ xs)) (hL : L ≤ 1000000) (hx : xs.length = m) (hm : 16384 < m) :
    Calls Tryz.prog 17 #[.slice ao L c] w fun e w' => e = .returned (.tuple #[.int .i64 0, .slice none 0 0, .int .i64 5]) ∧ Below w.heap.size w w' := by
  have hl : (tn (cnl k m)).length = (cnh k m).length + 1 := by rw [tn_len, cnl_eq]; simp
  have hL2 : L = (cnh k m).length + 1 + m := by
    have := hr.len
    rw [List.length_append, hl, hx] at this
    exact this.symm
  have ht : tb ((tn (cnl k m) ++ xs).take (cnh k m).length) = cnh k m := by
    rw [List.take_append_of_le_length (by omega)]
    have : tb ((tn (cnl k m)).take (cnh k m).length) = (tb (tn (cnl k m))).take (cnh k m).length := by simp [tb]
    rw [this, tb_tn, cnl_eq]
    simp
  exact open_long ao L c (tn (cnl k m) ++ xs) (cnh k m).length m (wl k) (Lib.decDigits m) true k w hg hr hL (cn_index k m xs) hL2 (by rw [ht]; exact cnh_cut k m) (kof_wl k hk) rfl hm

end Go.Proofs.YtojgablpjdlegaaGreatDoor

/- The document's words and numbers. -/
namespace Go.Proofs.YtojgablpjdlegaaGreatDoor
open Go.RowKit

set_option maxRecDepth 100000 in
theorem rword_any (k : Int) (w : World) : Calls Tryz.prog 16 #[.int .i64 k] w fun e w' => e = .returned (sv (wl k)) ∧ w' = w := by
  show Calls Tryz.prog 16 #[.int .i64 k] w fun e w' => e = .returned (.string (wrd k)) ∧ w' = w
  by_cases h1 : k = 1
  · subst h1
    go_enter Tryz.func16, Tryz.ntmps16
    go_wp2
    go_ret
    exact ⟨rfl, rfl⟩
  have d1 : (k == 1) = false := by simp [h1]
  by_cases h2 : k = 2
  · subst h2
    go_enter Tryz.func16, Tryz.ntmps16
    go_wp2
    go_ret
    exact ⟨rfl, rfl⟩
  have d2 : (k == 2) = false := by simp [h2]
  by_cases h3 : k = 3
  · subst h3
    go_enter Tryz.func16, Tryz.ntmps16
    go_wp2
    go_ret
    exact ⟨rfl, rfl⟩
  have d3 : (k == 3) = false := by simp [h3]
  by_cases h4 : k = 4
  · subst h4
    go_enter Tryz.func16, Tryz.ntmps16
    go_wp2
    go_ret
    exact ⟨rfl, rfl⟩
  have d4 : (k == 4) = false := by simp [h4]
  have e : wrd k = ⟨#[]⟩ := by unfold wrd; rw [if_neg h1, if_neg h2, if_neg h3, if_neg h4]
  rw [e]
  clear e h1 h2 h3 h4
  go_enter Tryz.func16, Tryz.ntmps16
  go_wp2
  go_ret
  exact ⟨rfl, rfl⟩

set_option maxRecDepth 100000 in
theorem rkindOf_any (l : List UInt8) (w : World) : Calls Tryz.prog 20 #[sv l] w fun e w' => e = .returned (.tuple #[.int .i64 (kof l).1, .bool (kof l).2]) ∧ w' = w := by
  have c1 := rword_any 1 w
  have c2 := rword_any 2 w
  have c3 := rword_any 3 w
  have c4 := rword_any 4 w
  obtain ⟨r, hr⟩ : ∃ r, r = kof l := ⟨_, rfl⟩
  rw [← hr]
  unfold kof at hr
  generalize wl 1 = a1 at *
  generalize wl 2 = a2 at *
  generalize wl 3 = a3 at *
  generalize wl 4 = a4 at *
  have HR : Hid (r = if a1 = l then (1, true) else if a2 = l then (2, true) else if a3 = l then (3, true) else if a4 = l then (4, true) else (0, false)) := hr
  clear hr
  go_enter Tryz.func20, Tryz.ntmps20
  go_wp2_with fail
  go_loopw [4] (fun kv wr => wr = w ∧ ((kv = .int .i64 1) ∨ (kv = .int .i64 2 ∧ Hid (¬ a1 = l)) ∨ (kv = .int .i64 3 ∧ Hid (¬ a1 = l) ∧ Hid (¬ a2 = l)) ∨ (kv = .int .i64 4 ∧ Hid (¬ a1 = l) ∧ Hid (¬ a2 = l) ∧ Hid (¬ a3 = l)) ∨ (kv = .int .i64 5 ∧ Hid (¬ a1 = l) ∧ Hid (¬ a2 = l) ∧ Hid (¬ a3 = l) ∧ Hid (¬ a4 = l)))) (fun kv _ => 5 - (intOf kv).toNat)
  case atStart => exact ⟨rfl, .inl rfl⟩
  case round =>
    obtain ⟨hwr, rfl | ⟨rfl, N1⟩ | ⟨rfl, N1, N2⟩ | ⟨rfl, N1, N2, N3⟩ | ⟨rfl, N1, N2, N3, N4⟩⟩ := hrel
    all_goals subst wr
    · by_cases h : a1 = l
      · have b : (a1 == l) = true := by simp [h]
        have HK : Hid (r = (1, true)) := by show _ = _; rw [HR.out, if_pos h]
        clear h
        go_wp2_with (go_at_call 16; refine c1.mono ?_; rintro e w1 ⟨rfl, hw1⟩; subst w1)
        go_ret2
        exact ⟨by rw [HK.out]; rfl, rfl⟩
      · have b : (a1 == l) = false := by simp [h]
        have HN : Hid (¬ a1 = l) := h
        clear h
        go_wp2_with (go_at_call 16; refine c1.mono ?_; rintro e w1 ⟨rfl, hw1⟩; subst w1)
        go_roundw
        case measure => simp [intOf]
        case rel => exact ⟨trivial, .inr (.inl ⟨rfl, HN⟩)⟩
    · by_cases h : a2 = l
      · have b : (a2 == l) = true := by simp [h]
        have HK : Hid (r = (2, true)) := by show _ = _; rw [HR.out, if_neg N1.out, if_pos h]
        clear h
        go_wp2_with (go_at_call 16; refine c2.mono ?_; rintro e w1 ⟨rfl, hw1⟩; subst w1)
        go_ret2
        exact ⟨by rw [HK.out]; rfl, rfl⟩
      · have b : (a2 == l) = false := by simp [h]
        have HN : Hid (¬ a2 = l) := h
        clear h
        go_wp2_with (go_at_call 16; refine c2.mono ?_; rintro e w1 ⟨rfl, hw1⟩; subst w1)
        go_roundw
        case measure => simp [intOf]
        case rel => exact ⟨trivial, .inr (.inr (.inl ⟨rfl, N1, HN⟩))⟩
    · by_cases h : a3 = l
      · have b : (a3 == l) = true := by simp [h]
        have HK : Hid (r = (3, true)) := by show _ = _; rw [HR.out, if_neg N1.out, if_neg N2.out, if_pos h]
        clear h
        go_wp2_with (go_at_call 16; refine c3.mono ?_; rintro e w1 ⟨rfl, hw1⟩; subst w1)
        go_ret2
        exact ⟨by rw [HK.out]; rfl, rfl⟩
      · have b : (a3 == l) = false := by simp [h]
        have HN : Hid (¬ a3 = l) := h
        clear h
        go_wp2_with (go_at_call 16; refine c3.mono ?_; rintro e w1 ⟨rfl, hw1⟩; subst w1)
        go_roundw
        case measure => simp [intOf]
        case rel => exact ⟨trivial, .inr (.inr (.inr (.inl ⟨rfl, N1, N2, HN⟩)))⟩
    · by_cases h : a4 = l
      · have b : (a4 == l) = true := by simp [h]
        have HK : Hid (r = (4, true)) := by show _ = _; rw [HR.out, if_neg N1.out, if_neg N2.out, if_neg N3.out, if_pos h]
        clear h
        go_wp2_with (go_at_call 16; refine c4.mono ?_; rintro e w1 ⟨rfl, hw1⟩; subst w1)
        go_ret2
        exact ⟨by rw [HK.out]; rfl, rfl⟩
      · have b : (a4 == l) = false := by simp [h]
        have HN : Hid (¬ a4 = l) := h
        clear h
        go_wp2_with (go_at_call 16; refine c4.mono ?_; rintro e w1 ⟨rfl, hw1⟩; subst w1)
        go_roundw
        case measure => simp [intOf]
        case rel => exact ⟨trivial, .inr (.inr (.inr (.inr (⟨rfl, N1, N2, N3, HN⟩))))⟩
    · have HK : Hid (r = (0, false)) := by show _ = _; rw [HR.out, if_neg N1.out, if_neg N2.out, if_neg N3.out, if_neg N4.out]
      go_wp2
      go_ret2
      exact ⟨by rw [HK.out]; rfl, rfl⟩

/-- What stands ahead of a number's last digit. -/
def frd (m : Nat) : List UInt8 := if m < 10 then [] else Lib.decDigits (m / 10)

theorem dec_frd (m : Nat) : Lib.decDigits m = frd m ++ [UInt8.ofNat (48 + m % 10)] := by
  unfold frd
  by_cases h : m < 10
  · rw [Lib.decDigits_one h, if_pos h, Nat.mod_eq_of_lt h]
    rfl
  · rw [if_neg h]
    conv => lhs; unfold Lib.decDigits
    rw [dif_neg h]

theorem dig_byte (d : Nat) (h : d < 10) : (strOfNums [48 + (d : Int)]) = ⟨[UInt8.ofNat (48 + d)].toArray⟩ := by
  rcases (by omega : d = 0 ∨ d = 1 ∨ d = 2 ∨ d = 3 ∨ d = 4 ∨ d = 5 ∨ d = 6 ∨ d = 7 ∨ d = 8 ∨ d = 9) with rfl | rfl | rfl | rfl | rfl | rfl | rfl | rfl | rfl | rfl <;> rfl

theorem dig_str (d : Nat) (h : d < 10) (w : World) : (convert 22 9 (.slice (some ⟨w.heap.size, 0, none⟩) 1 1)).run Tryz.prog (w.alloc (Obj.cells #[.int .u8 (48 + (d : Int))] 5)) = .ok (sv [UInt8.ofNat (48 + d)]) (w.alloc (Obj.cells #[.int .u8 (48 + (d : Int))] 5)) := by
  have h := (one_rd w (48 + (d : Int)) (by omega)).str
  rw [dig_byte d (by omega)] at h
  exact h

theorem dec_le9 : ∀ k n : Nat, n < 10 ^ (k + 1) → (Lib.decDigits n).length ≤ k + 1 := by
  intro k
  induction k with
  | zero => intro n h; rw [Lib.decDigits_one (by simpa using h)]; simp
  | succ k ih =>
    intro n h
    unfold Lib.decDigits
    split
    · simp
    · have := ih (n / 10) (Nat.div_lt_of_lt_mul (by rw [Nat.pow_succ] at h; omega))
      simp
      exact this

set_option maxRecDepth 100000 in
theorem rdec_any (N : Nat) (w : World) (hN : N ≤ 1000000000) : Calls Tryz.prog 50 #[.int .i64 N] w fun e w' => e = .returned (sv (Lib.decDigits N)) ∧ Below w.heap.size w w' := by
  obtain ⟨D, hD⟩ : ∃ D, D = Lib.decDigits N := ⟨_, rfl⟩
  rw [← hD]
  obtain ⟨d, hd⟩ : ∃ d : Nat, d = N % 10 := ⟨_, rfl⟩
  have hd10 : d < 10 := by omega
  have hm : (N : Int) % 10 = d := by omega
  obtain ⟨cc, hcc⟩ : ∃ c, c = UInt8.ofNat (48 + d) := ⟨_, rfl⟩
  have HD : Hid (N ≤ N ∧ frd N ++ [cc] = D) := ⟨Nat.le_refl _, by rw [hD, dec_frd, hcc, hd]⟩
  have HL : Hid (D.length ≤ 100) := by have := dec_le9 9 N (by omega); show D.length ≤ 100; rw [hD]; omega
  have hs := dig_str d hd10 w
  have HB : Hid (Below w.heap.size w (w.alloc (Obj.cells #[.int .u8 (48 + (d : Int))] 5))) := new_below w _
  have y1 : IntKind.i64.wrap (48 + (d : Int)) = 48 + (d : Int) := by rw [IntKind.wrap_i64]; omega
  have y2 : IntKind.u8.wrap (48 + (d : Int)) = 48 + (d : Int) := wraps_u8 _ (by omega) (by omega)
  rw [← hcc] at hs
  clear hcc hd hd10 hD
  have HN : Hid (N ≤ 1000000000) := hN
  clear hN
  go_enter Tryz.func50, Tryz.ntmps50
  go_wp2_with fail
  clear hs hm y1 y2
  go_loopw [0, 3] (fun nv s wr => ∃ (m : Nat) (t : List UInt8), nv = .int .i64 m ∧ s = sv t ∧ Hid (m ≤ N ∧ frd m ++ t = D) ∧ Below w.heap.size w wr) (fun nv _ _ => (intOf nv).toNat)
  case atStart => exact ⟨N, [cc], rfl, rfl, HD, HB.out⟩
  case round =>
    clear HD HB
    obtain ⟨m, t, rfl, rfl, HM, hb⟩ := hrel
    by_cases h10 : 10 ≤ m
    · have e1 : decide ((10 : Int) ≤ m) = true := by simp; omega
      have e2 : decide (10 ≤ m) = true := by simp [h10]
      obtain ⟨q, hq⟩ : ∃ q : Nat, q = m / 10 := ⟨_, rfl⟩
      have hqi : (m : Int) / 10 = q := by omega
      obtain ⟨d, hd⟩ : ∃ d : Nat, d = q % 10 := ⟨_, rfl⟩
      have hd10 : d < 10 := by omega
      have hdi : (q : Int) % 10 = d := by omega
      obtain ⟨c2, hc2⟩ : ∃ c, c = UInt8.ofNat (48 + d) := ⟨_, rfl⟩
      have hs := dig_str d hd10 wr
      rw [← hc2] at hs
      have HB : Hid (Below w.heap.size w (wr.alloc (Obj.cells #[.int .u8 (48 + (d : Int))] 5))) := hb.trans ((new_below wr _).mono hb.size)
      have y1 : IntKind.i64.wrap (48 + (d : Int)) = 48 + (d : Int) := by rw [IntKind.wrap_i64]; omega
      have y2 : IntKind.u8.wrap (48 + (d : Int)) = 48 + (d : Int) := wraps_u8 _ (by omega) (by omega)
      have y3 : IntKind.i64.wrap (q : Int) = q := by rw [IntKind.wrap_i64]; have := HM.out.1; have := HN.out; omega
      have HQ : Hid (q ≤ N ∧ frd q ++ (c2 :: t) = D) := ⟨by have := HM.out.1; omega, by
        have hf : frd m = Lib.decDigits q := by unfold frd; rw [if_neg (by omega), hq]
        rw [← HM.out.2, hf, dec_frd q, ← hd, hc2]; simp⟩
      have hcat : (⟨#[c2]⟩ ++ ⟨t.toArray⟩ : ByteArray) = ⟨(c2 :: t).toArray⟩ := cat_sv [c2] t
      have ht : t.length ≤ 100 := by have := HL.out; rw [← HM.out.2, List.length_append] at this; omega
      have hsz : (9223372036854775807 < 1 + t.length) = False := by simp; omega
      have HQM : Hid (q < m) := by show q < m; omega
      clear hc2 hd hd10 hq ht h10 hb
      go_wp2
      go_roundw
      case measure => have := HQM.out; simp [intOf]; omega
      case rel => exact ⟨q, _, rfl, rfl, HQ, HB.out⟩
    · have e1 : decide ((10 : Int) ≤ m) = false := by simp; omega
      have e2 : decide (10 ≤ m) = false := by simp; omega
      have HT : Hid (t = D) := by
        have := HM.out.2
        unfold frd at this
        rw [if_pos (by omega)] at this
        exact this
      have HB : Hid (Below w.heap.size w wr) := hb
      clear h10 hb
      go_wp2
      go_ret
      exact ⟨by rw [HT.out]; rfl, HB.out⟩

end Go.Proofs.YtojgablpjdlegaaGreatDoor

/- A row of bytes of one's own that was a text: appended to, twice and more. -/
namespace Go.Proofs.YtojgablpjdlegaaGreatDoor
open Go.RowKit

structure Ob (B : Nat) (W : World) (g n cap : Nat) (xs : List Int) : Prop where
  low : B ≤ g
  rd : Rd W (some ⟨g, 0, none⟩) n cap xs
  fre : ∀ j, j < cap → (∃ u, W.cell? ⟨g, j, none⟩ = some u) ∧ W.frozen? ⟨g, j, none⟩ = false

theorem Ob.keep {B g n cap : Nat} {W W' : World} {xs : List Int} (h : Ob B W g n cap xs) (hb : Below W.heap.size W W') : Ob B W' g n cap xs := by
  refine ⟨h.low, h.rd.keep hb, fun j hj => ?_⟩
  obtain ⟨⟨u, hu⟩, hf⟩ := h.fre j hj
  have hg : g < W.heap.size := World.block_lt_of_cell? W _ hu
  have hbk := hb.block g hg
  refine ⟨⟨u, by rw [← hu]; unfold World.cell?; rw [hbk]⟩, by rw [← hf]; unfold World.frozen?; rw [hbk]⟩

theorem Ob.text (w : World) (l : List UInt8) : Ob w.heap.size (Lib.bytesWorld w 5 ⟨l.toArray⟩) w.heap.size l.length (grownCap w l.length 0 5) (tn l) :=
  ⟨Nat.le_refl _, bw_rd w l, fun j hj => by obtain ⟨u, h1, h2⟩ := bw_cell w l j hj; exact ⟨⟨u, h1⟩, h2⟩⟩

theorem run_appO (ty : TypeId) (B : Nat) (W : World) (g n cap : Nat) (xs : List Int) (h : Ob B W g n cap xs) (hB : B ≤ W.heap.size) (ao : Option Addr) (m c : Nat) (ys : List Int) (hr : Rd W ao m c ys) (hn : n + m ≤ 100000000) :
    ∃ g' cap' W', (Builtin.append_ #[22, 22] ty #[.slice (some ⟨g, 0, none⟩) n cap, .slice ao m c]).run Tryz.prog W = .ok (.slice (some ⟨g', 0, none⟩) (n + m) cap') W' ∧ Ob B W' g' (n + m) cap' (xs ++ ys) ∧ Fr (fun k => k = g) W W' := by
  obtain ⟨i0, hi, hz0, hz1, hz2⟩ := info_parts Tryz.info5
  have hd := h.rd
  have hbc := h.fre
  have hcl : n ≤ cap := hd.le
  have hxl := hd.len
  cases ao with
  | none =>
    obtain ⟨rfl, rfl⟩ := hr.nul rfl
    have hy : ys = [] := List.eq_nil_of_length_eq_zero hr.len
    subst hy
    refine ⟨g, cap, W, ?_, by simpa using h, Fr.refl _ _⟩
    simp [Builtin.append_, run_underlying Tryz.underlying22, sizeOf, typeInfo, hi, Builtin.lenOf, Builtin.firstCells, hcl, loadCells, storeCells]
  | some ad =>
    have hl : (ys.map (Value.int .u8)).length = m * i0.size := by rw [hz1, List.length_map, hr.len, Nat.mul_one]
    have hf := run_firstCells_some (P := Tryz.prog) W i0.size m ad m c (ys.map (Value.int .u8)) hl (hr.cellsOf ad rfl)
    by_cases hroom : n + m ≤ cap
    · have hst := run_storeCells_cells (P := Tryz.prog) g n (ys.map (Value.int .u8)) 0 W (fun j hj => by
        have hj' : j < m := by rw [List.length_map, hr.len] at hj; exact hj
        obtain ⟨⟨u, h1⟩, _⟩ := hbc (n + 0 + j) (by omega)
        rw [h1]; rfl) (fun j hj => by
        have hj' : j < m := by rw [List.length_map, hr.len] at hj; exact hj
        exact (hbc (n + 0 + j) (by omega)).2) (ints_oneCell _ _)
      rw [Nat.add_zero] at hst
      have hin := World.cell?_setCells_in g (ys.map (Value.int .u8)) n W (fun j hj => by
        have hj' : j < m := by rw [List.length_map, hr.len] at hj; exact hj
        obtain ⟨⟨u, h1⟩, _⟩ := hbc (n + j) (by omega)
        rw [h1]; rfl)
      refine ⟨g, cap, W.setCells g n (ys.map (Value.int .u8)), ?_, ⟨h.low, ⟨by simp [hxl, hr.len], hroom, (fun e => by cases e), fun a ha j hj => ?_, fun x hx => ?_⟩, fun j hj => ⟨?_, by rw [World.frozen?_setCells]; exact (hbc j hj).2⟩⟩, Fr.setCells (P := fun k => k = g) rfl _ _ _ _ (Fr.refl _ _)⟩
      · rw [hz1] at hf
        simp [Builtin.append_, run_underlying Tryz.underlying22, sizeOf, typeInfo, hi, Builtin.lenOf, hroom, hf, Addr.add_lit, hz1]
        rw [hst]
        simp
      · cases ha
        rw [Addr.add_lit, Nat.zero_add]
        by_cases hj2 : j < n
        · rw [World.cell?_setCells_out _ _ _ _ _ (fun _ _ => .inl hj2)]
          have := hd.cells _ rfl j hj2
          rw [Addr.add_lit, Nat.zero_add] at this
          rw [this, getD_left _ _ _ (by rw [hxl]; exact hj2)]
        · have hin := hin (j - n) (by rw [List.length_map, hr.len]; omega)
          rw [show n + (j - n) = j by omega] at hin
          rw [hin, List.getElem_map, getD_right _ _ _ (by rw [hxl]; omega), hxl, List.getD, List.getElem?_eq_getElem (by rw [hr.len]; omega)]
          rfl
      · rcases List.mem_append.1 hx with h | h
        · exact hd.byt x h
        · exact hr.byt x h
      · by_cases hj2 : n ≤ j ∧ j < n + m
        · have hin := hin (j - n) (by rw [List.length_map, hr.len]; omega)
          rw [show n + (j - n) = j by omega] at hin
          exact ⟨_, hin⟩
        · rw [World.cell?_setCells_out _ _ _ _ _ (fun _ _ => by
            rw [List.length_map, hr.len]
            show j < n ∨ n + m ≤ j
            omega)]
          exact (hbc j hj).1
    · have hg := run_append_grow (P := Tryz.prog) W 22 ty 5 i0 (.int .u8 0) Tryz.underlying22 hi hz0 ⟨g, 0, none⟩ n cap (xs.map (Value.int .u8)) (by rw [hz1, List.length_map, hxl, Nat.mul_one]) (hd.cellsOf _ rfl) ad m c (ys.map (Value.int .u8)) hl (hr.cellsOf ad rfl) (by omega) (by omega) (by rw [hz2]; exact growslice_fits (bytes := 1) (by omega) (by omega))
      have hge := grownCap_ge W (n + m) cap 5
      have hcx : ∀ j, (W.drew.alloc (.cells ((xs.map (Value.int .u8)).toArray ++ (ys.map (Value.int .u8)).toArray ++ Builtin.zeroCells (Value.cells (.int .u8 0)) (grownCap W (n + m) cap 5 - (n + m))) 5)).cell? ⟨W.heap.size, j, none⟩ = ((xs.map (Value.int .u8)).toArray ++ (ys.map (Value.int .u8)).toArray ++ Builtin.zeroCells (Value.cells (.int .u8 0)) (grownCap W (n + m) cap 5 - (n + m)))[j]? := fun j => by
        simp [go_sem]
      refine ⟨W.heap.size, _, _, hg, ⟨hB, ⟨by simp [hxl, hr.len], hge, (fun e => by cases e), fun a ha j hj => ?_, fun x hx => ?_⟩, fun j hj => ⟨?_, ?_⟩⟩, (((Fr.refl (fun k => k = g) W).drew).alloc _)⟩
      · cases ha
        rw [Addr.add_lit, Nat.zero_add, hcx]
        generalize Builtin.zeroCells (Value.cells (.int .u8 0)) (grownCap W (n + m) cap 5 - (n + m)) = Z
        have hsz : j < ((xs.map (Value.int .u8)).toArray ++ (ys.map (Value.int .u8)).toArray).size := by simp [hxl, hr.len]; omega
        rw [Array.getElem?_append_left hsz]
        have hx : ((xs.map (Value.int .u8)).toArray ++ (ys.map (Value.int .u8)).toArray)[j]? = ((xs ++ ys).map (Value.int .u8))[j]? := by simp
        rw [hx, List.getElem?_map, List.getD, List.getElem?_eq_getElem (by simp [hxl, hr.len]; omega)]
        rfl
      · rcases List.mem_append.1 hx with h | h
        · exact hd.byt x h
        · exact hr.byt x h
      · rw [hcx]
        have : j < ((xs.map (Value.int .u8)).toArray ++ (ys.map (Value.int .u8)).toArray ++ Builtin.zeroCells (Value.cells (.int .u8 0)) (grownCap W (n + m) cap 5 - (n + m))).size := by
          have hz : (Builtin.zeroCells (Value.cells (.int .u8 0)) (grownCap W (n + m) cap 5 - (n + m))).size = grownCap W (n + m) cap 5 - (n + m) := by rw [size_zeroCells]; simp [Value.cells]
          rw [Array.size_append, Array.size_append, hz]
          simp only [List.size_toArray, List.length_map, hxl, hr.len]
          omega
        exact ⟨_, Array.getElem?_eq_getElem this⟩
      · unfold World.frozen?
        show (match (W.drew.alloc (Obj.cells _ 5)).heap[W.drew.heap.size]? with | some (.cells _ _ (lo, hi)) => decide (lo ≤ j) && decide (j < hi) | _ => false) = false
        rw [heap_alloc_new W.drew _]
        simp

theorem wpList_appO {W : World} {ops : Array Oper} {rest : List Oper} {o : Oper} {a : Act} {Q : Exit → Act → World → Prop} (hgd : o.guard = none) (s x : Operand)
    (ho : o.op = .call { callee := .builtin .append, args := #[s, x], argTypes := #[22, 22] }) (B g n cap : Nat) (xs : List Int) (hs : a.eval s = .slice (some ⟨g, 0, none⟩) n cap) (h : Ob B W g n cap xs) (hB : B ≤ W.heap.size)
    (ao : Option Addr) (m c : Nat) (ys : List Int) (hx : a.eval x = .slice ao m c) (hr : Rd W ao m c ys) (hn : n + m ≤ 100000000)
    (hk : ∀ g' cap' W', Ob B W' g' (n + m) cap' (xs ++ ys) → Fr (fun k => k = g) W W' → wpList Tryz.prog ops Q rest (a.put o.dst (.slice (some ⟨g', 0, none⟩) (n + m) cap')) W') :
    wpList Tryz.prog ops Q (o :: rest) a W := by
  obtain ⟨g', cap', w', hrun, h1, h2⟩ := run_appO o.type B W g n cap xs h hB ao m c ys hr hn
  refine wpList_plain hgd fun K hK => ?_
  unfold Oper.wp
  simp [execOp, ho, resolve, invoke, builtin, hs, hx, hrun, Result.andThen]
  exact hK _ _ (hk g' cap' w' h1 h2)

end Go.Proofs.YtojgablpjdlegaaGreatDoor

/- The document's sum. -/
namespace Go.Proofs.YtojgablpjdlegaaGreatDoor
open Go.RowKit

theorem rsum_any (ao : Option Addr) (n c : Nat) (ys : List Int) (w : World) (hr : Rd w ao n c ys) (hl : n ≤ 900000000) : Calls Tryz.prog 52 #[.slice ao n c] w fun e w' => e = .returned (Sha.sv ys) ∧ Below w.heap.size w w' :=
  Sha.rsum_gen Sha.block_any ao n c ys w hr hl

end Go.Proofs.YtojgablpjdlegaaGreatDoor

/- Canonical bytes and names, as the document's and the program's, of any kind. -/
namespace Go.Proofs.YtojgablpjdlegaaGreatDoor
open Go.RowKit

/-- The canonical bytes of any kind. -/
def cnx (k : Int) (xs : List Int) : List Int := if isK k = true then tn (cnl k xs.length) ++ xs else []

theorem dec_len7 (n : Nat) (hn : n ≤ 1000000) : (Lib.decDigits n).length ≤ 100 := by have := dec_le9 6 n (by omega); omega

theorem cnl_len7 (k : Int) (n : Nat) (hn : n ≤ 1000000) : (cnl k n).length ≤ 200 := by
  have := wl_len k
  have := dec_len7 n hn
  unfold cnl
  simp only [List.length_append, List.length_cons, List.length_nil]
  omega

theorem wl_none (k : Int) (hk : ¬ isK k = true) : wl k = [] := by
  have := wl_emp k
  have h2 : isK k = false := by simpa using hk
  rw [h2] at this
  simpa using this

theorem wl_some (k : Int) (hk : isK k = true) : (wl k == []) = false := by
  have := wl_emp k
  rw [hk] at this
  cases h : wl k with
  | nil => rw [h] at this; simp at this
  | cons a l => rfl

set_option maxRecDepth 100000 in
set_option maxHeartbeats 1000000 in
/-- The program's, of any kind. -/
theorem canonx_any (k : Int) (ao : Option Addr) (n c : Nat) (xs : List Int) (w : World) (hg : Gs w) (hr : Rd w ao n c xs) (hn : n ≤ 1000000) :
    Calls Tryz.prog 11 #[.int .i64 k, .slice ao n c] w fun e w' => ∃ ao' N cap, e = .returned (.slice ao' N cap) ∧ Rd w' ao' N cap (cnx k xs) ∧ N ≤ n + 200 ∧ Below w.heap.size w w' := by
  by_cases hk : isK k = true
  · refine (canon_any k hk ao n c xs w hg hr hn (dec_len7 n hn)).mono ?_
    rintro e w1 ⟨g, cap, rfl, r1, _, b1⟩
    refine ⟨_, _, _, rfl, ?_, ?_, b1⟩
    · unfold cnx
      rw [if_pos hk, hr.len]
      exact r1
    · have := cnl_len7 k n hn
      omega
  · have hik := isKind_any k w hg
    have h2 : isK k = false := by simpa using hk
    rw [h2] at hik
    have hc : cnx k xs = [] := if_neg hk
    rw [hc]
    clear hc h2 hk hg hr
    go_enter Tryz.func11, Tryz.ntmps11
    go_wp2_with fail
    refine hik.mono ?_
    rintro e wz ⟨rfl, hwz⟩
    subst wz
    go_wp2
    go_ret
    exact ⟨none, 0, 0, rfl, Rd.nil _, by omega, Below.refl _ _⟩

set_option maxRecDepth 100000 in
set_option maxHeartbeats 1000000 in
theorem objIDx_any (k : Int) (ao : Option Addr) (n c : Nat) (xs : List Int) (w : World) (hg : Gs w) (hr : Rd w ao n c xs) (hn : n ≤ 1000000) :
    Calls Tryz.prog 13 #[.int .i64 k, .slice ao n c] w fun e w' => e = .returned (Sha.sv (cnx k xs)) ∧ Below w.heap.size w w' := by
  have b0 := new_below w (Obj.cells zcs 27)
  have hca := canonx_any k ao n c xs (w.alloc (Obj.cells zcs 27)) (hg.keep b0) (hr.keep b0) hn
  have HZ : Hid ((w.alloc (Obj.cells zcs 27)).rowIs w.heap.size 27 20 (cl z20)) := z_row w 27
  have HB : Hid (Below w.heap.size w (w.alloc (Obj.cells zcs 27))) := b0
  generalize cnx k xs = ys at *
  clear hg hr b0
  go_enter Tryz.func13, Tryz.ntmps13
  go_wp2_with fail
  refine hca.mono ?_
  rintro e w1 ⟨a1, L, cap, rfl, r1, hL, b1⟩
  have hsu := Sha.sum_any a1 L cap ys w1 r1 (by have := r1.len; omega)
  have HZ1 : Hid (w1.rowIs w.heap.size 27 20 (cl z20)) := rowIs_fr (P := fun _ => False) HZ.out (Fr.ofBelow b1) (fun h => h)
  have HB1 : Hid (Below w.heap.size w w1) := HB.out.trans (b1.mono HB.out.size)
  clear hca r1 b1 HZ
  go_wp2_with fail
  refine hsu.mono ?_
  rintro e w2 ⟨rfl, b2⟩
  have z2 : w2.rowIs w.heap.size 27 20 (cl z20) := rowIs_fr (P := fun _ => False) HZ1.out (Fr.ofBelow b2) (fun h => h)
  have HB2 : Hid (Below w.heap.size w w2) := HB1.out.trans (b2.mono HB1.out.size)
  clear hsu b2 HZ1
  go_wp2_with ((refine wpList_st rfl 27 _ _ rfl w.heap.size rfl (fun j => .int .u8 ((Sha.dig ys).getD j 0)) rfl z2 (by kernel_rfl) (fun _ => rfl) ?_; intro w3 r3 f3))
  exact bodyPost_ret (results_row (fn := Tryz.f13) (p := 4) (ty := 27) (by kernel_rfl) _ (by rfl) r3 Tryz.underlying27 rfl (by kernel_rfl)) rfl ⟨rfl, st_below HB2.out f3⟩

set_option maxRecDepth 100000 in
set_option maxHeartbeats 1000000 in
/-- The document's, of any kind. -/
theorem rcanon_any (k : Int) (ao : Option Addr) (n c : Nat) (xs : List Int) (w : World) (hr : Rd w ao n c xs) (hn : n ≤ 1000000) :
    Calls Tryz.prog 12 #[.int .i64 k, .slice ao n c] w fun e w' => ∃ ao' N cap, e = .returned (.slice ao' N cap) ∧ Rd w' ao' N cap (cnx k xs) ∧ N ≤ n + 200 ∧ Below w.heap.size w w' := by
  have hwd := rword_any k w
  by_cases hk : isK k = true
  · have hemp := wl_some k hk
    have hwl := wl_len k
    have hcn : cnx k xs = tn (cnl k n) ++ xs := by unfold cnx; rw [if_pos hk, hr.len]
    have hwe : wl k ≠ [] := fun e => by rw [e] at hemp; cases hemp
    have hde := rdec_any n w (by omega)
    have hd := dec_len7 n hn
    obtain ⟨y0, hy0⟩ : ∃ y, y = wl k := ⟨_, rfl⟩
    obtain ⟨dd, hdd⟩ : ∃ y, y = Lib.decDigits n := ⟨_, rfl⟩
    obtain ⟨y1, hy1⟩ : ∃ y, y = y0 ++ [32] := ⟨_, rfl⟩
    obtain ⟨y2, hy2⟩ : ∃ y, y = y1 ++ dd := ⟨_, rfl⟩
    have HC : Hid ((tn y2 ++ [0]) ++ xs = cnx k xs) := by show _ = _; rw [hcn, hy2, hy1, hy0, hdd]; unfold cnl; rw [tn_app _ [0]]; rfl
    rw [← hy0] at hwd hwl hwe
    rw [← hdd] at hde hd
    have he0 : (y0 == []) = false := by cases y0 with | nil => exact absurd rfl hwe | cons a l => rfl
    have l1 : y1.length = y0.length + 1 := by rw [hy1]; simp
    have l2 : y2.length = y1.length + dd.length := by rw [hy2]; simp
    have q1 : (9223372036854775807 < y0.length + 1) = False := by simp; omega
    have q2 : (9223372036854775807 < y1.length + dd.length) = False := by simp; omega
    have hyb : y2.length ≤ 150 := by omega
    have e1 : (⟨y0.toArray⟩ ++ ⟨#[32]⟩ : ByteArray) = ⟨y1.toArray⟩ := by rw [hy1]; exact cat_sv y0 [32]
    have e2 : (⟨y1.toArray⟩ ++ ⟨dd.toArray⟩ : ByteArray) = ⟨y2.toArray⟩ := by rw [hy2]; exact cat_sv y1 dd
    have HR : Hid (Rd w ao n c xs) := hr
    clear hr hcn hy0 hdd hy1 hy2 l1 l2 hk hd hwl hemp
    have hb0 : y0.isEmpty = false := by cases y0 with | nil => exact absurd rfl hwe | cons a l => rfl
    clear hwe he0
    go_enter Tryz.func12, Tryz.ntmps12
    go_wp2_with fail
    refine hwd.mono ?_
    rintro e wz ⟨rfl, hwz⟩
    subst wz
    go_wp2_with fail
    refine hwd.mono ?_
    rintro e wz ⟨rfl, hwz⟩
    subst wz
    clear hwd
    go_wp2_with fail
    refine hde.mono ?_
    rintro e w1 ⟨rfl, b1⟩
    have HB1 : Hid (Below w.heap.size w w1) := b1
    obtain ⟨W1, hW1⟩ : ∃ W, W = Lib.bytesWorld w1 5 ⟨y2.toArray⟩ := ⟨_, rfl⟩
    obtain ⟨cp, hcp⟩ : ∃ x, x = grownCap w1 y2.length 0 5 := ⟨_, rfl⟩
    have HO1 : Hid (Ob w1.heap.size (W1.alloc (Obj.cells #[.int .u8 0] 5)) w1.heap.size y2.length cp (tn y2)) := by
      have := Ob.text w1 y2
      rw [← hW1, ← hcp] at this
      exact this.keep (new_below _ _)
    have HBW : Hid (Below w1.heap.size w1 W1) := by have := bytes_b w1 5 ⟨y2.toArray⟩; rw [← hW1] at this; exact this
    have HZ : Hid (Rd (W1.alloc (Obj.cells #[.int .u8 0] 5)) (some ⟨W1.heap.size, 0, none⟩) 1 1 [0]) := one_rd W1 0 (by omega)
    have HSZ : Hid (w1.heap.size ≤ (W1.alloc (Obj.cells #[.int .u8 0] 5)).heap.size) := by have := HBW.out.size; show _ ≤ _; simp; omega
    have HWW : Hid (W1 = Lib.bytesWorld w1 5 ⟨y2.toArray⟩ ∧ cp = grownCap w1 y2.length 0 5) := ⟨hW1, hcp⟩
    clear hde b1 hW1 hcp
    go_wp2_with (first
      | (refine wpList_appO rfl _ _ rfl w1.heap.size g2 (y2.length + 1) cp2 (tn y2 ++ [0]) rfl HO2.out HL2.out ao n c xs rfl HR2.out (by omega) ?_; intro g3 cp3 W3 o3 f3)
      | (refine wpList_appO rfl _ _ rfl w1.heap.size w1.heap.size y2.length cp (tn y2) rfl HO1.out HSZ.out (some ⟨W1'.heap.size, 0, none⟩) 1 1 [0] rfl HZ.out (by omega) ?_; intro g2 cp2 W2 o2 f2; have HO2 : Hid (Ob w1.heap.size W2 g2 (y2.length + 1) cp2 (tn y2 ++ [0])) := o2; have HF2 : Hid (Below w1.heap.size w1 W2) := (HBW.out.trans ((new_below W1' _).mono HBW.out.size)).trans (f2.below _ HSZ.out (fun i hi e => by omega)); have HL2 : Hid (w1.heap.size ≤ W2.heap.size) := HF2.out.size; have HR2 : Hid (Rd W2 ao n c xs) := HR.out.keep (HB1.out.trans (HF2.out.mono HB1.out.size)); clear o2 f2)
      | (refine wpList_cv rfl _ rfl y2 rfl ?_; rw [← HWW.out.1, ← HWW.out.2]; intro W1' hW1'; subst hW1'))
    go_ret
    refine ⟨_, _, _, rfl, ?_, by omega, HB1.out.trans ((HF2.out.trans (f3.below _ HL2.out (fun i hi e => ?_))).mono HB1.out.size)⟩
    · rw [← HC.out]; exact o3.rd
    · have := HO2.out.low
      omega
  · have hw0 := wl_none k hk
    rw [hw0] at hwd
    have hc : cnx k xs = [] := if_neg hk
    rw [hc]
    clear hc hw0 hk hr
    go_enter Tryz.func12, Tryz.ntmps12
    go_wp2_with fail
    refine hwd.mono ?_
    rintro e wz ⟨rfl, hwz⟩
    subst wz
    go_wp2
    go_ret
    exact ⟨none, 0, 0, rfl, Rd.nil _, by omega, Below.refl _ _⟩

set_option maxRecDepth 100000 in
set_option maxHeartbeats 1000000 in
theorem rID_any (k : Int) (ao : Option Addr) (n c : Nat) (xs : List Int) (w : World) (hr : Rd w ao n c xs) (hn : n ≤ 1000000) :
    Calls Tryz.prog 14 #[.int .i64 k, .slice ao n c] w fun e w' => e = .returned (Sha.sv (cnx k xs)) ∧ Below w.heap.size w w' := by
  have b0 := new_below w (Obj.cells zcs 26)
  have hca := rcanon_any k ao n c xs (w.alloc (Obj.cells zcs 26)) (hr.keep b0) hn
  have HZ : Hid ((w.alloc (Obj.cells zcs 26)).rowIs w.heap.size 26 20 (cl z20)) := z_row w 26
  have HB : Hid (Below w.heap.size w (w.alloc (Obj.cells zcs 26))) := b0
  generalize cnx k xs = ys at *
  clear hr b0
  go_enter Tryz.func14, Tryz.ntmps14
  go_wp2_with fail
  refine hca.mono ?_
  rintro e w1 ⟨a1, L, cap, rfl, r1, hL, b1⟩
  have hsu := rsum_any a1 L cap ys w1 r1 (by omega)
  have HZ1 : Hid (w1.rowIs w.heap.size 26 20 (cl z20)) := rowIs_fr (P := fun _ => False) HZ.out (Fr.ofBelow b1) (fun h => h)
  have HB1 : Hid (Below w.heap.size w w1) := HB.out.trans (b1.mono HB.out.size)
  clear hca r1 b1 HZ
  go_wp2_with fail
  refine hsu.mono ?_
  rintro e w2 ⟨rfl, b2⟩
  have z2 : w2.rowIs w.heap.size 26 20 (cl z20) := rowIs_fr (P := fun _ => False) HZ1.out (Fr.ofBelow b2) (fun h => h)
  have HB2 : Hid (Below w.heap.size w w2) := HB1.out.trans (b2.mono HB1.out.size)
  clear hsu b2 HZ1
  go_wp2_with ((refine wpList_st rfl 26 _ _ rfl w.heap.size rfl (fun j => .int .u8 ((Sha.dig ys).getD j 0)) rfl z2 (by kernel_rfl) (fun _ => rfl) ?_; intro w3 r3 f3))
  exact bodyPost_ret (results_row (fn := Tryz.f14) (p := 4) (ty := 26) (by kernel_rfl) _ (by rfl) r3 Tryz.underlying26 rfl (by kernel_rfl)) rfl ⟨rfl, st_below HB2.out f3⟩

end Go.Proofs.YtojgablpjdlegaaGreatDoor
