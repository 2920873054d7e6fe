/- CnA, PRow, CmS. -/
import Derived.Test.YtojgablpjdlegaaGreatDoorM09
import Derived.Laws.RangeAny
import Derived.Lib.OthersKept
import Derived.WalkMore
import Derived.Shelf.Strings.Runes
import Derived.Test.YtojgablpjdlegaaGreatDoorM10
import Derived.Test.YtojgablpjdlegaaGreatDoorM14
import Derived.Test.YtojgablpjdlegaaGreatDoorM19
/- strings.ContainsAny of any bytes, for two signs below 128. -/
namespace Go.Proofs.YtojgablpjdlegaaGreatDoor
open Go.RowKit Go.Shelf

set_option maxRecDepth 100000 in
theorem validRune_any (r : Int) (w : World) (h0 : 128 ≤ r) : Calls Tryz.prog 212 #[.int .i32 r] w fun e w' => e = .returned (.bool (Utf8.valid r)) ∧ w' = w := by
  have d0 : decide ((0 : Int) ≤ r) = true := by simp; omega
  by_cases h1 : r < 55296
  · have d1 : decide (r < 55296) = true := by simp [h1]
    have e : Utf8.valid r = true := by unfold Utf8.valid; simp; omega
    rw [e]
    clear e h0 h1
    go_enter Tryz.func212, Tryz.ntmps212
    go_wp2
    go_ret
    exact ⟨rfl, rfl⟩
  have d1 : decide (r < 55296) = false := by simp; omega
  by_cases h2 : 57343 < r
  · have d2 : decide ((57343 : Int) < r) = true := by simp [h2]
    by_cases h3 : r ≤ 1114111
    · have d3 : decide (r ≤ 1114111) = true := by simp [h3]
      have e : Utf8.valid r = true := by unfold Utf8.valid; simp; omega
      rw [e]
      clear e h0 h1 h2 h3
      go_enter Tryz.func212, Tryz.ntmps212
      go_wp2
      go_ret
      exact ⟨rfl, rfl⟩
    · have d3 : decide (r ≤ 1114111) = false := by simp; omega
      have e : Utf8.valid r = false := by unfold Utf8.valid; simp; omega
      rw [e]
      clear e h0 h1 h2 h3
      go_enter Tryz.func212, Tryz.ntmps212
      go_wp2
      go_ret
      exact ⟨rfl, rfl⟩
  · have d2 : decide ((57343 : Int) < r) = false := by simp; omega
    have e : Utf8.valid r = false := by unfold Utf8.valid; simp; omega
    rw [e]
    clear e h0 h1 h2
    go_enter Tryz.func212, Tryz.ntmps212
    go_wp2
    go_ret
    exact ⟨rfl, rfl⟩

theorem enc_ba (a : ByteArray) : a = ⟨a.data.toList.toArray⟩ := by cases a; simp

/-- How a sign from 128 on is written: two bytes or more, and of two the last is not below 128. -/
theorem enc_high (r : Int) (h0 : 128 ≤ r) (hv : Utf8.valid r = true) : ∃ bs : List UInt8, Utf8.encode r = ⟨bs.toArray⟩ ∧ 2 ≤ bs.length ∧ bs.length ≤ 4 ∧ (bs.length = 2 → ∃ x y, bs = [x, y] ∧ 128 ≤ y.toNat) := by
  unfold Utf8.encode
  rw [if_pos hv]
  simp only
  have hc : 128 ≤ r.toNat := by omega
  generalize r.toNat = c at *
  rw [if_neg (by omega)]
  split
  · refine ⟨_, rfl, by simp, by simp, fun _ => ⟨_, _, rfl, ?_⟩⟩
    simp
    omega
  · split
    · exact ⟨_, rfl, by simp, by simp, fun h => by simp at h⟩
    · exact ⟨_, rfl, by simp, by simp, fun h => by simp at h⟩

theorem indexB_nil (w : World) (x : Int) : Calls Tryz.prog 211 #[sv [], .int .u8 x] w fun e w' => e = .returned (.int .i64 (-1)) ∧ w' = w :=
  Any.strings_IndexByte Tryz.idxb ⟨#[]⟩ x w

set_option maxRecDepth 100000 in
set_option maxHeartbeats 1000000 in
theorem irune_high (p q : UInt8) (hp : p.toNat < 128) (hq : q.toNat < 128) (r : Int) (h0 : 128 ≤ r) (w : World) :
    Calls Tryz.prog 191 #[sv [p, q], .int .i32 r] w fun e w' => e = .returned (.int .i64 (-1)) ∧ Below w.heap.size w w' := by
  have d0 : decide ((0 : Int) ≤ r) = true := by simp; omega
  have d1 : decide (r < 128) = false := by simp; omega
  by_cases hr : r = 65533
  · subst hr
    clear h0
    obtain ⟨s, hs⟩ : ∃ s : ByteArray, s = ⟨[p, q].toArray⟩ := ⟨_, rfl⟩
    have n0 : ∀ ty, (Instr.next (.pointer (some ⟨w.heap.size, 0, none⟩)) true ty).run Tryz.prog (w.iter s 0) = .ok (.tuple #[.bool true, .int .i64 0, .int .i32 p.toNat]) (w.iter s 1) := fun ty => by
      rw [hs]; exact run_next_ascii (P := Tryz.prog) w ⟨[p, q].toArray⟩ 0 ty (by simp [ByteArray.size]) (by exact hp)
    have n1 : ∀ ty, (Instr.next (.pointer (some ⟨w.heap.size, 0, none⟩)) true ty).run Tryz.prog (w.iter s 1) = .ok (.tuple #[.bool true, .int .i64 1, .int .i32 q.toNat]) (w.iter s 2) := fun ty => by
      rw [hs]; exact run_next_ascii (P := Tryz.prog) w ⟨[p, q].toArray⟩ 1 ty (by simp [ByteArray.size]) (by exact hq)
    have n2 : ∀ ty, (Instr.next (.pointer (some ⟨w.heap.size, 0, none⟩)) true ty).run Tryz.prog (w.iter s 2) = .ok (.tuple #[.bool false]) (w.iter s 2) := fun ty => by
      rw [hs]; exact run_next_end (P := Tryz.prog) w ⟨[p, q].toArray⟩ 2 ty (by simp [ByteArray.size])
    have x0 : ((p.toNat : Int) == 65533) = false := by simp; omega
    have x1 : ((q.toNat : Int) == 65533) = false := by simp; omega
    have hb : ∀ i, Below w.heap.size w (w.iter s i) := fun i => (Below.refl _ _).alloc (Nat.le_refl _) _
    have hsv : sv [p, q] = .string s := by rw [hs]
    rw [hsv]
    clear hs hsv hp hq
    go_enter Tryz.func191, Tryz.ntmps191
    go_wp2_with fail
    go_loopg [5, 6] 2 (fun g _ _ wx => (g = 2 ∧ wx = w.iter s 0) ∨ (g = 1 ∧ wx = w.iter s 1) ∨ (g = 0 ∧ wx = w.iter s 2))
    case atStart => exact .inl ⟨rfl, rfl⟩
    case round =>
      rcases hrel with ⟨rfl, rfl⟩ | ⟨rfl, rfl⟩ | ⟨rfl, rfl⟩
      · go_wp2
        go_roundg 1
        case measure => omega
        case rel => exact .inr (.inl ⟨rfl, rfl⟩)
      · go_wp2
        go_roundg 0
        case measure => omega
        case rel => exact .inr (.inr ⟨rfl, rfl⟩)
      · go_wp2
        go_ret
        exact ⟨rfl, hb 2⟩
  · have d2 : (r == 65533) = false := by simp [hr]
    have hva := validRune_any r w h0
    cases hv : Utf8.valid r with
    | false =>
      rw [hv] at hva
      clear hv hr h0
      go_enter Tryz.func191, Tryz.ntmps191
      go_wp2_with fail
      refine hva.mono ?_
      rintro e wz ⟨rfl, hwz⟩
      subst wz
      go_wp2
      go_ret
      exact ⟨rfl, Below.refl _ _⟩
    | true =>
      rw [hv] at hva
      obtain ⟨bs, hbs, hl2, hl4, hlt⟩ := enc_high r h0 hv
      have hcv : ∀ W, (convert 21 9 (.int .i32 r)).run Tryz.prog W = .ok (sv bs) W := fun W => by
        simp [convert, run_underlying Tryz.underlying9, run_underlying (P := Tryz.prog) (show Tryz.prog.underlying 21 = some (.int .i32) by kernel_rfl), Conv.intToString, hbs]
      obtain ⟨L, hL⟩ : ∃ L, L = bs.length := ⟨_, rfl⟩
      have hL1 : IntKind.i64.wrap ((L : Int) - 1) = (L : Int) - 1 := by rw [IntKind.wrap_i64]; omega
      by_cases h2 : L = 2
      · obtain ⟨x, y, rfl, hy⟩ := hlt (by omega)
        have hne : (q == y) = false := by
          simp
          intro e
          rw [e] at hq
          omega
        have hni : ((q.toNat : Int) == (y.toNat : Int)) = false := by simp; omega
        have hin := fun W => indexB_nil W (y.toNat : Int)
        clear hlt hL hL1 h2 hl2 hl4 hbs hv hr h0 hp hq
        go_enter Tryz.func191, Tryz.ntmps191
        go_wp2_with fail
        refine hva.mono ?_
        rintro e wz ⟨rfl, hwz⟩
        subst wz
        have hi1 : ∀ W, (Instr.index 9 (sv [p, q]) (.int .i64 1)).run Tryz.prog W = .ok (.int .u8 (q.toNat : Int)) W := fun W => str_at ⟨#[p, q]⟩ 1 (by simp [ByteArray.size]) W
        have hi2 : ∀ W, (Instr.index 9 (sv [x, y]) (.int .i64 1)).run Tryz.prog W = .ok (.int .u8 (y.toNat : Int)) W := fun W => str_at ⟨#[x, y]⟩ 1 (by simp [ByteArray.size]) W
        have hsb : ∀ W, (Instr.slice 9 (sv [p, q]) (some (.int .i64 2)) none none).run Tryz.prog W = .ok (sv []) W := fun W => str_back [p, q] 2 (by simp) W
        go_wp2_with fail
        go_step3
        go_wp2_with fail
        go_loopw [9, 10, 11, 12] (fun i f o j wr => i = .int .i64 1 ∧ f = .int .i64 0 ∧ o = undef ∧ j = undef ∧ wr = w) (fun _ _ _ _ _ => 0)
        case atStart => exact ⟨rfl, rfl, rfl, rfl, rfl⟩
        case round =>
          obtain ⟨rfl, rfl, rfl, rfl, hwr⟩ := hrel
          subst wr
          go_wp2_with fail
          go_step3
          go_wp2_with fail
          go_quiet (fail)
          go_wp2_with fail
          go_region_with (go_at_call 211; refine (hin _).mono ?_; rintro e w5 ⟨rfl, hw5⟩; subst w5)
          all_goals go_wp2_with fail
          all_goals (change bodyPost Tryz.prog Tryz.f191 (fun e w' => e = Ending.returned (Value.int IntKind.i64 (-1)) ∧ Below w.heap.size w w') .ret _ _)
          all_goals go_ret
          all_goals exact ⟨rfl, drewN_b _ _⟩
      · have hbl : bs.length = L := hL.symm
        obtain ⟨z, hz⟩ : ∃ z : Nat, (L : Int) - 1 = (z : Int) := ⟨L - 1, by omega⟩
        have hwz : IntKind.i64.wrap (z : Int) = (z : Int) := by rw [← hz]; exact hL1
        have e1 : decide ((z : Int) < 2) = false := by simp; omega
        have e2 : decide (z < 2) = false := by simp; omega
        clear hlt hL hL1 h2 hl2 hl4 hbs hv hr h0 hp hq
        go_enter Tryz.func191, Tryz.ntmps191
        go_wp2_with fail
        refine hva.mono ?_
        rintro e wz ⟨rfl, hwz⟩
        subst wz
        go_wp2_with fail
        go_step3
        go_wp2_with fail
        go_loopw [9, 10, 11, 12] (fun i f o j wr => i = .int .i64 (z : Int) ∧ f = .int .i64 0 ∧ o = undef ∧ j = undef ∧ wr = w) (fun _ _ _ _ _ => 0)
        case atStart => exact ⟨rfl, rfl, rfl, rfl, rfl⟩
        case round =>
          obtain ⟨rfl, rfl, rfl, rfl, hwr⟩ := hrel
          subst wr
          go_wp2_with fail
          rw [Exit.noGoto_ret]
          go_ret
          exact ⟨rfl, Below.refl _ _⟩

theorem get_off (s : ByteArray) (j : Nat) (h : j < s.size) : s.get! j = s[j]'h := by
  simp [ByteArray.get!, getElem!_pos, h]
  rfl

/-- What a sign from 128 on is read of: no byte below 128. -/
theorem decode_step (s : ByteArray) (i : Nat) (h : i < s.size) (h8 : 128 ≤ (s[i]'h).toNat) (k : Nat) (hk : k < (Utf8.decode s i).2) (hs : i + k < s.size) : 128 ≤ (s[i + k]'hs).toNat := by
  rw [← get_off s (i + k) hs]
  rw [← get_off s i h] at h8
  simp only [Utf8.decode, Nat.add_zero] at hk
  have k0 : ∀ {m}, k < m → m = 1 → 128 ≤ (s.get! (i + k)).toNat := fun h1 h2 => by
    obtain rfl : k = 0 := by omega
    simpa using h8
  split at hk
  · exact k0 hk rfl
  · split at hk
    · next hc =>
      simp at hc
      split at hk
      · rcases (by have : k < 2 := hk; omega : k = 0 ∨ k = 1) with rfl | rfl
        · simpa using h8
        · omega
      · exact k0 hk rfl
    · split at hk
      · next hc =>
        simp at hc
        split at hk
        · rcases (by have : k < 3 := hk; omega : k = 0 ∨ k = 1 ∨ k = 2) with rfl | rfl | rfl
          · simpa using h8
          · omega
          · omega
        · exact k0 hk rfl
      · split at hk
        · next hc =>
          simp at hc
          split at hk
          · rcases (by have : k < 4 := hk; omega : k = 0 ∨ k = 1 ∨ k = 2 ∨ k = 3) with rfl | rfl | rfl | rfl
            · simpa using h8
            · omega
            · omega
            · omega
          · exact k0 hk rfl
        · exact k0 hk rfl

theorem contains_high (p q x : UInt8) (hp : p.toNat < 128) (hq : q.toNat < 128) (hx : 128 ≤ x.toNat) : [p, q].contains x = false := by
  have h1 : x ≠ p := fun e => by subst e; omega
  have h2 : x ≠ q := fun e => by subst e; omega
  simp [h1, h2]

theorem noAny_far {l : List UInt8} {p q : UInt8} {i : Nat} (k : Nat) (h : Lib.NoAny l [p, q] i) (hh : ∀ j x, j < k → l[i + j]? = some x → [p, q].contains x = false) : Lib.NoAny l [p, q] (i + k) := by
  intro j b hj hb
  rcases Nat.lt_or_ge j i with h1 | h1
  · exact h j b h1 hb
  · exact hh (j - i) b (by omega) (by rw [show i + (j - i) = j by omega]; exact hb)

theorem below_iterAt {B : Nat} {w w' : World} (h : Below B w w') (k : Nat) (hk : B ≤ k) (s : ByteArray) (pos : Nat) : Below B w (w'.iterAt k s pos) :=
  ⟨h.os, h.tape, h.output, by show w.heap.size ≤ (w'.heap.setIfInBounds k _).size; simpa using h.size, fun j hj => by
    show (w'.heap.setIfInBounds k _)[j]? = w.heap[j]?
    rw [Array.getElem?_setIfInBounds_ne (by omega)]
    exact h.block j hj⟩

set_option maxRecDepth 100000 in
set_option maxHeartbeats 2000000 in
theorem indexAny_short (p q : UInt8) (hp : p.toNat < 128) (hq : q.toNat < 128) (s : ByteArray) (w : World) (h8 : s.size ≤ 8) :
    Calls Tryz.prog 158 #[.string s, sv [p, q]] w fun e w' => e = .returned (.int .i64 (Lib.indexAny s.data.toList [p, q])) ∧ Below w.heap.size w w' := by
  have h8z : decide ((8 : Int) < (s.size : Int)) = false := decide_eq_false (by omega)
  have hsh : ∀ n W, Calls Tryz.prog 192 #[.int .i64 n] W fun e w' => e = .returned (.bool (decide (8 < n))) ∧ w' = W := fun n W => by
    go_enter Tryz.func192, Tryz.ntmps192
    go_wp2
    go_ret
    exact ⟨rfl, rfl⟩
  have hpq : ([p, q].isEmpty) = false := rfl
  have HP : Hid (p.toNat < 128 ∧ q.toNat < 128) := ⟨hp, hq⟩
  have h8w := hsh (s.size : Int) w
  rw [h8z] at h8w
  clear hp hq hsh h8z
  go_enter Tryz.func158, Tryz.ntmps158
  go_wp2_with fail
  refine h8w.mono ?_
  rintro e wz ⟨rfl, hwz⟩
  subst wz
  clear h8w
  go_wp2_with fail
  obtain ⟨R, hR⟩ : ∃ R, R = w.heap.size := ⟨_, rfl⟩
  have h0 : (w.iter s 0).heap[R]? = some (.stringIter s 0) := by rw [hR]; simp [World.iter_heap]
  have hb0 : Below w.heap.size w (w.iter s 0) := (Below.refl _ _).alloc (Nat.le_refl _) _
  have HR : Hid (w.heap.size = R) := hR.symm
  rw [← hR]
  clear hR
  go_loopg [9, 10] s.size (fun g _ _ wx => ∃ i : Nat, g = s.size - i ∧ wx.heap[R]? = some (.stringIter s i) ∧ Below w.heap.size w wx ∧ Lib.NoAny s.data.toList [p, q] i)
  case atStart => exact ⟨0, by omega, h0, hb0, Lib.NoAny.zero _ _⟩
  case round =>
    obtain ⟨i, hig, hit, hbw, hno⟩ := hrel
    have HN : Hid (Lib.NoAny s.data.toList [p, q] i) := hno
    have HT : Hid (∀ j, (wr.iterAt R s j).heap[R]? = some (.stringIter s j)) := fun j => Lib.iterAt_heap wr R s i j hit
    have HB : Hid (∀ j, Below w.heap.size w (wr.iterAt R s j)) := fun j => below_iterAt hbw R (by have := HR.out; omega) s j
    have HB0 : Hid (Below w.heap.size w wr) := hbw
    clear hno hbw h0 hb0
    by_cases hi : i < s.size
    · obtain ⟨x, hx⟩ : ∃ x : UInt8, s[i]'hi = x := ⟨_, rfl⟩
      have hxl : s.data.toList[i]? = some x := by rw [← hx]; exact Lib.data_getElem? s i hi
      have Hx : Hid (s.data.toList[i]? = some x) := hxl
      have HI : Hid (i < s.size ∧ gk = s.size - i) := ⟨hi, hig⟩
      by_cases h128 : x.toNat < 128
      · have hnx := fun ty => Lib.run_next_ascii_at (P := Tryz.prog) wr R s i ty hit hi (by rw [hx]; exact h128)
        rw [hx] at hnx
        have hcon := Lib.contains_iff_indexByte [p, q] x
        have hir : ∀ W, Calls Tryz.prog 191 #[sv [p, q], .int .i32 (x.toNat : Int)] W fun e w' => e = .returned (.int .i64 (Lib.indexByte [p, q] x)) ∧ w' = W := fun W => by
          have h := Any.strings_IndexRune_ascii (P := Tryz.prog) (ρ := Tryz.cany_ren) { Tryz.cany with } ⟨[p, q].toArray⟩ (x.toNat : Int) W (by omega) (by omega)
          rw [show ((x.toNat : Int)).toNat.toUInt8 = x by simp] at h
          exact h
        obtain ⟨z, hz⟩ : ∃ z, z = Lib.indexByte [p, q] x := ⟨_, rfl⟩
        rw [← hz] at hir hcon
        obtain ⟨wn, hwn⟩ : ∃ wn, wn = wr.iterAt R s (i + 1) := ⟨_, rfl⟩
        rw [← hwn] at hnx
        have HWN : Hid (wn = wr.iterAt R s (i + 1)) := hwn
        cases hin : [p, q].contains x
        · rw [hin] at hcon
          have e1 : decide ((0 : Int) ≤ z) = false := hcon.symm
          have HI2 : Hid ([p, q].contains x = false) := hin
          clear hcon hz hi hig hx hxl h128 hin hit hwn
          go_wp2_with (go_at_call 191; refine (hir _).mono ?_; rintro e w' ⟨rfl, hw⟩; rw [hw])
          go_roundg (gk - 1)
          case measure => have := HI.out; omega
          case rel => exact ⟨i + 1, by have := HI.out; omega, by rw [HWN.out]; exact HT.out _, by rw [HWN.out]; exact HB.out _, HN.out.succ Hx.out HI2.out⟩
        · rw [hin] at hcon
          have e1 : decide ((0 : Int) ≤ z) = true := hcon.symm
          have HI2 : Hid ([p, q].contains x = true) := hin
          clear hcon hz hi hig hx hxl h128 hin hit hwn
          go_wp2_with (go_at_call 191; refine (hir _).mono ?_; rintro e w' ⟨rfl, hw⟩; rw [hw])
          go_ret
          exact ⟨by rw [Lib.indexAny_hit HN.out Hx.out HI2.out]; rfl, by rw [HWN.out]; exact HB.out _⟩
      · have hnx := fun ty => Lib.run_next_any_at (P := Tryz.prog) wr R s i ty hit hi
        obtain ⟨r, hr⟩ : ∃ r : Nat, (Utf8.decode s i).1 = r := ⟨_, rfl⟩
        obtain ⟨k, hk⟩ : ∃ k : Nat, (Utf8.decode s i).2 = k := ⟨_, rfl⟩
        have hhi := decode_high s i hi (by rw [hx]; omega)
        have HST : Hid (∀ j y, j < k → s.data.toList[i + j]? = some y → [p, q].contains y = false) := fun j y hj hy => by
          have hlt : i + j < s.size := by
            have := (List.getElem?_eq_some_iff.1 hy).1
            rw [Lib.size_eq]; exact this
          have h1 := decode_step s i hi (by rw [hx]; omega) j (by rw [hk]; exact hj) hlt
          have h2 := Lib.data_getElem? s (i + j) hlt
          rw [h2] at hy
          cases hy
          exact contains_high p q _ HP.out.1 HP.out.2 h1
        rw [hr, hk] at hnx
        rw [hr, hk] at hhi
        have hir := fun W => irune_high p q HP.out.1 HP.out.2 (r : Int) (by omega) W
        have HK : Hid (1 ≤ k) := hhi.2
        obtain ⟨wn, hwn⟩ : ∃ wn, wn = wr.iterAt R s (i + k) := ⟨_, rfl⟩
        rw [← hwn] at hnx
        have HWN : Hid (wn = wr.iterAt R s (i + k)) := hwn
        clear hi hig hx hxl h128 hhi hr hk hit hwn
        go_wp2_with (go_at_call 191; refine (hir _).mono ?_; rintro e w5 ⟨rfl, hb5⟩; have HB5 : Hid (Below wn.heap.size wn w5) := hb5; clear hb5)
        go_roundg (s.size - (i + k))
        case measure => have := HI.out; have := HK.out; omega
        case rel =>
          refine ⟨i + k, rfl, ?_, ?_, noAny_far k HN.out HST.out⟩
          · have h1 := HT.out (i + k)
            rw [← HWN.out] at h1
            rw [HB5.out.block R (Array.getElem?_eq_some_iff.1 h1).1]
            exact h1
          · have h1 := HB.out (i + k)
            rw [← HWN.out] at h1
            exact h1.trans (HB5.out.mono h1.size)
    · have hnx := fun ty => Lib.run_next_end_at (P := Tryz.prog) wr R s i ty hit hi
      have HE : Hid (Lib.indexAny s.data.toList [p, q] = -1) := Lib.indexAny_none (fun j b hj hb => HN.out j b (by have := Lib.size_eq s; omega) hb)
      clear hi hig hit
      go_wp2
      go_ret
      exact ⟨by rw [HE.out]; rfl, HB0.out⟩

/-- strings.ContainsAny, whatever the bytes, of two signs below 128. -/
theorem cany_any (p q : UInt8) (hp : p.toNat < 128) (hq : q.toNat < 128) (l : List UInt8) (w : World) (hl : l.length ≤ 1000000) : Calls Tryz.prog 125 #[sv l, sv [p, q]] w fun e w' => e = .returned (.bool (Lib.containsAny l [p, q])) ∧ Below w.heap.size w w' := by
  have hac : ∀ (j : Nat) b, ([p, q] : List UInt8)[j]? = some b → b.toNat < 128 := fun j b h => by
    rcases j with _ | _ | j
    · simp at h; subst h; exact hp
    · simp at h; subst h; exact hq
    · simp at h
  have hia : Calls Tryz.prog 158 #[sv l, sv [p, q]] w fun e w' => e = .returned (.int .i64 (Lib.indexAny l [p, q])) ∧ Below w.heap.size w w' := by
    by_cases h8 : l.length ≤ 8
    · exact indexAny_short p q hp hq ⟨l.toArray⟩ w (by rw [size_sv]; exact h8)
    · have h116 : (Tryz.prog.info? (Tryz.cany_ren.t 116)).map (fun i => (i.zero, i.size)) = some (some (.agg (Array.replicate 256 (.bool false))), 256) := by kernel_rfl
      refine (Any.strings_IndexAny_long (P := Tryz.prog) (ρ := Tryz.cany_ren) { Tryz.cany with } (zero_of_info h116).1 (zero_of_info h116).2 ⟨l.toArray⟩ ⟨[p, q].toArray⟩ w (by rw [size_sv]; simp) (by rw [size_sv]; omega) (by rw [size_sv]; omega) (by rw [size_sv]; simp) hac).mono ?_
      rintro e w' ⟨h1, h2⟩
      exact ⟨h1, by rw [h2]; exact ((Below.refl _ _).alloc (Nat.le_refl _) _).alloc (by simp) _⟩
  unfold Lib.containsAny
  generalize Lib.indexAny l [p, q] = z at *
  clear hac hl hp hq
  go_enter Tryz.func125, Tryz.ntmps125
  go_wp2_with (go_at_call 158; refine hia.mono ?_; rintro e w1 ⟨rfl, b1⟩)
  go_ret
  exact ⟨rfl, b1⟩

theorem text_any (l : List UInt8) (most : Int) (w : World) (hl : l.length ≤ 1000000) : Calls Tryz.prog 101 #[sv l, .int .i64 most] w fun e w' => e = .returned (.bool (txtB l most)) ∧ Below w.heap.size w w' :=
  isText_of l most w (cany_any 0 10 (by decide) (by decide) l w hl)

end Go.Proofs.YtojgablpjdlegaaGreatDoor

/- Rows of the program's names. -/
namespace Go.Proofs.YtojgablpjdlegaaGreatDoor
open Go.RowKit

/-- A row of the program's names in a block. -/
structure Rp (w : World) (b N : Nat) (d : Array (List Int)) : Prop where
  row : ∃ f, w.rowIs b 27 N f ∧ ∀ i, i < d.size → ∀ j, j < 20 → f (i * 20 + j) = cl d[i]! j
  le : d.size * 20 ≤ N
  ids : ∀ i, i < d.size → IsId d[i]!

theorem Rp.fr {P : Nat → Prop} {w w' : World} {b N : Nat} {d : Array (List Int)} (h : Rp w b N d) (hf : Fr P w w') (hb : ¬ P b) : Rp w' b N d := by
  obtain ⟨f, h1, h2⟩ := h.row
  exact ⟨⟨f, rowIs_fr h1 hf hb, h2⟩, h.le, h.ids⟩

theorem Rp.keep {w w' : World} {b N : Nat} {d : Array (List Int)} (h : Rp w b N d) (hf : Below w.heap.size w w') : Rp w' b N d := h.fr (P := fun _ => False) (Fr.ofBelow hf) (fun h => h)

theorem Rp.lt {w : World} {b N : Nat} {d : Array (List Int)} (h : Rp w b N d) : b < w.heap.size := by
  obtain ⟨f, h1, h2⟩ := h.row
  exact h1.lt

theorem Rp.load {w : World} {b N : Nat} {d : Array (List Int)} (h : Rp w b N d) (i : Nat) (hi : i < d.size) : (loadVar 27 ⟨b, i * 20, none⟩).run Tryz.prog w = .ok (idv d[i]!) w := by
  obtain ⟨f, h1, h2⟩ := h.row
  have hle := h.le
  rw [load_mid (P := Tryz.prog) 27 _ h1 20 (by omega) Tryz.underlying27 rfl size23, row_congr _ (cl d[i]!) 20 (fun j hj => h2 i hi j hj)]

/-- A slice of the program's names that the call has made. -/
structure Dp (B : Nat) (w : World) (v : Value) (d : Array (List Int)) : Prop where
  own : w.ownsRow B 27 20 v d.size (fl d)
  ids : ∀ i, i < d.size → IsId d[i]!

theorem Dp.keep {B : Nat} {w w' : World} {v : Value} {d : Array (List Int)} (h : Dp B w v d) (hf : Below w.heap.size w w') : Dp B w' v d :=
  ⟨ownsRow_fr (P := fun _ => False) h.own (Fr.ofBelow hf) (fun _ _ h => h), h.ids⟩

theorem Dp.row {B : Nat} {w : World} {v : Value} {d : Array (List Int)} (h : Dp B w v d) (h0 : 0 < d.size) : ∃ b c, v = .slice (some ⟨b, 0, none⟩) d.size c ∧ d.size ≤ c ∧ B ≤ b ∧ Rp w b (c * 20) d := by
  rcases h.own.2 with ⟨_, e⟩ | ⟨g, cap, cur, e, hg, hh, hle, hmx, hsz, htk⟩
  · omega
  · refine ⟨g, cap, e, hle, hg, ⟨fun j => cur.toList.getD j undef, ⟨cur, hh, hsz, fun i hi => ?_⟩, fun i hi j hj => ?_⟩, by omega, h.ids⟩
    · show cur[i]? = some (cur.toList.getD i undef)
      rw [List.getD]
      simp [hsz, hi]
    · have := fl_get d i j hi hj
      rw [← htk] at this
      rw [List.getElem?_take, if_pos (by omega)] at this
      show cur.toList.getD (i * 20 + j) undef = _
      rw [List.getD, this]
      rfl

theorem Dp.shape {B : Nat} {w : World} {v : Value} {d : Array (List Int)} (h : Dp B w v d) : ∃ ao c, v = .slice ao d.size c := by
  rcases h.own.2 with ⟨rfl, e⟩ | ⟨g, cap, cur, e, _⟩
  · exact ⟨none, 0, by rw [e]⟩
  · exact ⟨_, _, e⟩

theorem dp_nil (B : Nat) (w : World) : Dp B w (.slice none 0 0) #[] := ⟨World.ownsRow_nil _ _ _ _, fun i hi => by simp at hi⟩

theorem Tryz.info27p : (Tryz.prog.info? 27).map (fun i => (i.zero, i.size, i.bytes)) = some (some (.agg zcs), 20, 20) := by kernel_rfl

theorem run_bp1 (x : List Int) (w : World) : (Instr.buildSlice 45 1 #[(0, idv x)]).run Tryz.prog w = .ok (.slice (some ⟨w.heap.size, 0, none⟩) 1 1) (w.alloc (.cells (vals (cl x) 20).toArray 27)) := by kernel_rfl

theorem run_bp0 (w : World) : (Instr.buildSlice 45 0 #[]).run Tryz.prog w = .ok (.slice (some ⟨w.heap.size, 0, none⟩) 0 0) (w.alloc (.cells #[] 27)) := by kernel_rfl

theorem wpList_bp1 {ops : Array Oper} {rest : List Oper} {op : Oper} {a : Act} {w : World} {Q : Exit → Act → World → Prop} (hgd : op.guard = none) (y : Operand) (ho : op.op = .buildSlice 45 1 #[(0, y)]) (x : List Int) (hy : a.eval y = idv x)
    (hk : ∀ w', w' = w.alloc (.cells (vals (cl x) 20).toArray 27) → wpList Tryz.prog ops Q rest (a.put op.dst (.slice (some ⟨w.heap.size, 0, none⟩) 1 1)) w') : wpList Tryz.prog ops Q (op :: rest) a w := by
  refine wpList_plain hgd fun K hK => ?_
  have h := run_bp1 x w
  unfold Oper.wp
  simp only [execOp, ho, List.map_toArray, List.map_cons, List.map_nil, hy, Sem.run_bind, h, Result.andThen_ok, Sem.run_pure]
  exact hK _ _ (hk _ rfl)

theorem wpList_bp0 {ops : Array Oper} {rest : List Oper} {op : Oper} {a : Act} {w : World} {Q : Exit → Act → World → Prop} (hgd : op.guard = none) (ho : op.op = .buildSlice 45 0 #[])
    (hk : ∀ w', w' = w.alloc (.cells #[] 27) → wpList Tryz.prog ops Q rest (a.put op.dst (.slice (some ⟨w.heap.size, 0, none⟩) 0 0)) w') : wpList Tryz.prog ops Q (op :: rest) a w := by
  refine wpList_plain hgd fun K hK => ?_
  have h := run_bp0 w
  unfold Oper.wp
  simp only [execOp, ho, List.map_toArray, List.map_nil, Sem.run_bind, h, Result.andThen_ok, Sem.run_pure]
  exact hK _ _ (hk _ rfl)

/-- One name more is put behind a row. -/
theorem wpList_app1p {ops : Array Oper} {rest : List Oper} {o : Oper} {a : Act} {w w0 : World} {Q : Exit → Act → World → Prop} (hgd : o.guard = none) (s y : Operand)
    (ho : o.op = .call { callee := .builtin .append, args := #[s, y], argTypes := #[45, 45] }) (B : Nat) (v : Value) (d : Array (List Int)) (x : List Int) (hx : IsId x) (hs : a.eval s = v) (hy : a.eval y = .slice (some ⟨w0.heap.size, 0, none⟩) 1 1)
    (hw : w = w0.alloc (.cells (vals (cl x) 20).toArray 27)) (h : Dp B w0 v d) (hlim : d.size < 100000) (hB : B ≤ w0.heap.size)
    (hk : ∀ v' w', Dp B w' v' (d.push x) → Below B w0 w' → wpList Tryz.prog ops Q rest (a.put o.dst v') w') : wpList Tryz.prog ops Q (o :: rest) a w := by
  obtain ⟨i0, hi, hz0, hz1, hz2⟩ := info_parts Tryz.info27p
  have hb : Below w0.heap.size w0 w := by rw [hw]; exact new_below _ _
  have h' := h.keep hb
  have hr := rowIs_vals w0 (cl x) 20 27
  rw [← hw] at hr
  refine wpList_append_own w hgd s y 45 ho B 27 i0 (.agg zcs) 20 20 Tryz.underlying45 hi hz0 hz1 hz2 rfl (by decide) v d.size (fl d) hs h'.own ⟨w0.heap.size, 0, none⟩ 1 1 (vals (cl x) 20) hy (by rw [vals_len]) (fun j u hu => ?_) (vals_one20 x) (by unfold maxLen; omega) (by omega) (by have := hb.size; omega) ?_
  · have hj : j < 20 := by
      have := (List.getElem?_eq_some_iff.1 hu).1
      rwa [vals_len] at this
    rw [vals_get _ _ _ hj] at hu
    cases hu
    have := hr.cell (i := j) hj
    rw [Addr.add_lit, Nat.zero_add]
    exact this
  · intro v' w' g1 g2 g3
    refine hk v' w' ⟨by rw [fl_push, Array.size_push]; exact g1, fun i hi => ?_⟩ ?_
    · rw [Array.size_push] at hi
      rw [push_get d x i hi]
      split
      · rename_i e; exact h.ids i e
      · exact hx
    · refine ((hb.mono hB).trans ((Below.refl _ w).grown g2 (by have := hb.size; omega) (fun k hk => ?_)))
      rcases h.own.2 with ⟨e, _⟩ | ⟨g, cap, cur, e, hg, _⟩
      · rw [e] at hk; cases hk
      · rw [e] at hk; cases hk; exact hg

end Go.Proofs.YtojgablpjdlegaaGreatDoor

/- Rows of names put behind each other; the lines of parents. -/
namespace Go.Proofs.YtojgablpjdlegaaGreatDoor
open Go.RowKit

theorem step_cl2 {w : World} {ops : Array Oper} {o : Oper} {a : Act} {K : Act → World → Prop} {Q : Exit → Act → World → Prop} {E : Prop} {C : Value → World → Prop} (hw : Region.wanted o (yielded ops a.tmps) = true) (f : FuncId) (hf : ∀ vs w, (callFunc f vs).run Tryz.prog w = .ok (.enter f vs) w) (x y : Operand) (ts : Array TypeId) (ho : o.op = .call { callee := .value (.func f), args := #[x, y], argTypes := ts }) (u u' : Value) (hx : a.eval x = u) (hy : a.eval y = u')
    (hc : Calls Tryz.prog f #[u, u'] w (fun e w' => ∃ v, e = .returned v ∧ C v w')) (hk : ∀ v w', C v w' → K (a.put o.dst v) w') : if Region.wanted o (yielded ops a.tmps) = true then Oper.wp Tryz.prog o a w K Q else E := by
  rw [if_pos hw]
  have hr : (resolve a.eval { callee := .value (.func f), args := #[x, y], argTypes := ts } o.type >>= fun d => invoke d.target d.args).run Tryz.prog w = .ok (.enter f #[u, u']) w := by
    rw [← hf #[u, u'] w, ← hx, ← hy]
    simp [resolve, Act.eval, invoke, Deferred.ofValue]
  unfold Oper.wp execOp
  simp only [ho, hr]
  refine hc.mono ?_
  rintro e w' ⟨v, rfl, h⟩
  exact hk v w' h

theorem is_cells {w : World} {ad : Addr} {n c : Nat} {d : Array (List Int)} (h : Is w (.slice (some ad) n c) d) : ∀ j u, (fl d)[j]? = some u → w.cell? (ad.add j) = some u := by
  intro j u hu
  have hj : j < d.size * 20 := by
    have := (List.getElem?_eq_some_iff.1 hu).1
    rwa [fl_len] at this
  obtain ⟨ao, c', e, h1, h2, h3⟩ := h.sh
  cases e
  have h4 := h3 ad rfl (j / 20) (by omega) (j % 20) (Nat.mod_lt _ (by omega))
  rw [show j / 20 * 20 + j % 20 = j by omega] at h4
  have h5 := fl_get d (j / 20) (j % 20) (by omega) (Nat.mod_lt _ (by omega))
  rw [show j / 20 * 20 + j % 20 = j by omega, hu] at h5
  rw [h4, Option.some.inj h5]

theorem app_get (d e : Array (List Int)) (i : Nat) (hi : i < (d ++ e).size) : (d ++ e)[i]! = if i < d.size then d[i]! else e[i - d.size]! := by
  rw [Array.size_append] at hi
  rw [getElem!_pos _ i (by rw [Array.size_append]; exact hi), Array.getElem_append]
  by_cases h : i < d.size
  · simp [h]
  · have : i - d.size < e.size := by omega
    simp [h, this]

theorem step_appI {w : World} {ops : Array Oper} {o : Oper} {a : Act} {K : Act → World → Prop} {Q : Exit → Act → World → Prop} {E : Prop} (hgd : o.guard = none) (s x : Operand)
    (ho : o.op = .call { callee := .builtin .append, args := #[s, x], argTypes := #[45, 45] }) (B : Nat) (v : Value) (d : Array (List Int)) (hs : a.eval s = v) (h : Dp B w v d)
    (ao : Option Addr) (n c : Nat) (d2 : Array (List Int)) (hx : a.eval x = .slice ao n c) (h2 : Is w (.slice ao n c) d2) (hB : B ≤ w.heap.size) (hlim : d.size + d2.size < 100000)
    (hk : ∀ v' w', Dp B w' v' (d ++ d2) → w.grownBy w' v.ownBlock → K (a.put o.dst v') w') : if Region.wanted o (yielded ops a.tmps) = true then Oper.wp Tryz.prog o a w K Q else E := by
  obtain ⟨i0, hi, hz0, hz1, hz2⟩ := info_parts Tryz.info27p
  have hw : Region.wanted o (yielded ops a.tmps) = true := by simp [Region.wanted, hgd]
  rw [if_pos hw]
  have hids : ∀ i, i < (d ++ d2).size → IsId (d ++ d2)[i]! := fun i hi => by
    rw [app_get d d2 i hi]
    rw [Array.size_append] at hi
    split
    · next hl => exact h.ids i hl
    · exact h2.ids _ (by omega)
  have hsz : n = d2.size := by obtain ⟨ao', c', e, _⟩ := h2.sh; cases e; rfl
  cases ao with
  | none =>
    have he : d2.size = 0 ∧ c = 0 := by obtain ⟨ao', c', e, _, h3, _⟩ := h2.sh; cases e; exact h3 rfl
    obtain ⟨he1, rfl⟩ := he
    obtain rfl : n = 0 := by omega
    have hd2 : d2 = #[] := Array.eq_empty_of_size_eq_zero he1
    subst hd2
    have hrun := run_append_owned_none (P := Tryz.prog) (w := w) B 45 o.type 27 i0 20 Tryz.underlying45 hi _ _ _ h.own
    unfold Oper.wp
    simp [execOp, ho, resolve, invoke, builtin, hs, hx, hrun, Result.andThen]
    exact hk v w (by simpa using h) (World.grownBy.refl _ _)
  | some ad =>
    refine wp_append_own w s x 45 ho B 27 i0 (.agg zcs) 20 20 Tryz.underlying45 hi hz0 hz1 hz2 rfl (by decide) _ d.size (fl d) hs h.own ad n c (fl d2) hx (by rw [fl_len, hsz]) (is_cells h2) (fl_one d2)
      (by unfold maxLen; omega) (by omega) hB ?_
    intro v' w' g1 g2 _
    rw [← fl_app, hsz, ← Array.size_append] at g1
    exact hk v' w' ⟨g1, hids⟩ g2

theorem step_st45 {ops : Array Oper} {op : Oper} {a : Act} {w : World} {K : Act → World → Prop} {Q : Exit → Act → World → Prop} {E : Prop} (hgd : op.guard = none) (x y : Operand) (ho : op.op = .store 45 x y) (b i : Nat) (hx : a.eval x = .pointer (some ⟨b, i, none⟩)) (p : Option Addr) (n c : Nat) (hy : a.eval y = .slice p n c)
    (u : Value) (hc : w.cell? ⟨b, i, none⟩ = some u) (hf : w.frozen? ⟨b, i, none⟩ = false) (hk : K (a.put op.dst undef) (w.setCell ⟨b, i, none⟩ (.slice p n c))) : if Region.wanted op (yielded ops a.tmps) = true then Oper.wp Tryz.prog op a w K Q else E := by
  have hw : Region.wanted op (yielded ops a.tmps) = true := by simp [Region.wanted, hgd]
  rw [if_pos hw]
  unfold Oper.wp
  simp only [execOp, ho, hx, hy]
  simp [go_sem, hc, hf]
  exact hk
theorem Dp.is {B : Nat} {w : World} {v : Value} {d : Array (List Int)} (h : Dp B w v d) : Is w v d := by
  rcases Nat.eq_zero_or_pos d.size with h0 | h0
  · rcases h.own.2 with ⟨rfl, e⟩ | ⟨g, cap, cur, e, hb, hh, hle, hmx, hsz, htk⟩
    · exact ⟨⟨none, 0, by rw [e], by omega, fun _ => ⟨e, rfl⟩, fun ad had => by cases had⟩, h.ids⟩
    · exact ⟨⟨_, cap, e, hle, (fun e => by cases e), fun ad had i hi => by omega⟩, h.ids⟩
  · obtain ⟨b, c, e, hle, hb, hr⟩ := h.row h0
    refine ⟨⟨_, c, e, hle, (fun e => by cases e), fun ad had i hi j hj => ?_⟩, h.ids⟩
    cases had
    obtain ⟨f, h1, h2⟩ := hr.row
    have h3 := h1.cell (i := i * 20 + j) (by have := hr.le; omega)
    rw [Addr.add_lit, Nat.zero_add, h3, h2 i hi j hj]

theorem Dp.grown {B C : Nat} {w w' : World} {v : Value} {d : Array (List Int)} (h : Dp B w v d) (hg : w.grownBy w' v.ownBlock) (hC : C ≤ B) (hw : C ≤ w.heap.size) : Below C w w' :=
  (Below.refl _ w).grown hg hw (fun k hk => by
    rcases h.own.2 with ⟨e, _⟩ | ⟨g, cap, cur, e, hg, _⟩
    · rw [e] at hk; cases hk
    · rw [e] at hk; cases hk; exact Nat.le_trans hC hg)

theorem Dp.fr {P : Nat → Prop} {B : Nat} {w w' : World} {v : Value} {d : Array (List Int)} (h : Dp B w v d) (hf : Fr P w w') (hP : ∀ k, B ≤ k → ¬ P k) : Dp B w' v d :=
  ⟨ownsRow_fr h.own hf (fun k hk hp => by
    rcases h.own.2 with ⟨e, _⟩ | ⟨g, cap, cur, e, hg, _⟩
    · rw [e] at hk; cases hk
    · rw [e] at hk; cases hk; exact hP _ hg hp), h.ids⟩

/-- The lines of parents: their names, what is left, the fault. -/
inductive Ps : List UInt8 → Int → List (List Int) → List UInt8 → Int → Prop
  | stop (l : List UInt8) (e : Int) (h : Lib.hasPrefix l (pnt ++ [32]) = false) : Ps l e [] l e
  | more (l : List UInt8) (e : Int) (ds : List (List Int)) (l' : List UInt8) (e' : Int) (h : Lib.hasPrefix l (pnt ++ [32]) = true) (t : Ps (lin pnt l).2 (idE pnt l e) ds l' e') : Ps l e ((par (ns ⟨(lin pnt l).1.toArray⟩)).1 :: ds) l' e'

theorem pre_len (l k : List UInt8) (h : Lib.hasPrefix l k = true) : ∃ r, l = k ++ r := by
  unfold Lib.hasPrefix at h
  rw [List.isPrefixOf_iff_prefix] at h
  obtain ⟨r, hr⟩ := h
  exact ⟨r, hr.symm⟩

theorem lin_short (word l : List UInt8) (h : Lib.hasPrefix l (word ++ [32]) = true) : (lin word l).2.length < l.length := by
  obtain ⟨r, hr⟩ := pre_len l _ h
  have h1 : (lnF word l).2.1.length ≤ r.length := by
    unfold lnF
    rw [if_pos h]
    have h2 := (cut_len1 (Lib.trimPrefix l (word ++ [32])) [10]).2
    unfold Lib.trimPrefix at h2 ⊢
    rw [if_pos h] at h2 ⊢
    rw [hr, List.drop_left] at h2
    rw [hr, List.drop_left]
    exact h2
  have h3 : l.length = word.length + 1 + r.length := by rw [hr]; simp; omega
  unfold lin cu
  split
  · show (lnF word l).2.1.length < l.length
    omega
  · show 0 < l.length
    omega

theorem ps_ex : ∀ n (l : List UInt8) (e : Int), l.length ≤ n → ∃ ds l' e', Ps l e ds l' e' ∧ ds.length ≤ l.length ∧ l'.length ≤ l.length
  | 0, l, e, h => by
    have : l = [] := List.eq_nil_of_length_eq_zero (by omega)
    subst this
    exact ⟨[], [], e, .stop [] e rfl, Nat.le_refl _, Nat.le_refl _⟩
  | n + 1, l, e, h => by
    cases hp : Lib.hasPrefix l (pnt ++ [32]) with
    | false => exact ⟨[], l, e, .stop l e hp, Nat.zero_le _, Nat.le_refl _⟩
    | true =>
      have hs := lin_short pnt l hp
      obtain ⟨ds, l', e', h1, h2, h3⟩ := ps_ex n (lin pnt l).2 (idE pnt l e) (by omega)
      exact ⟨_, l', e', .more l e ds l' e' hp h1, by simp; omega, by omega⟩

theorem par_id (s : List Int) : IsId (par s).1 := by
  unfold par
  split
  · next h => exact pr_id s h.1 h.2
  · exact ⟨rfl, by decide⟩

theorem Ps.ids {l : List UInt8} {e : Int} {ds : List (List Int)} {l' : List UInt8} {e' : Int} (h : Ps l e ds l' e') : ∀ x ∈ ds, IsId x := by
  induction h with
  | stop l e h => intro x hx; cases hx
  | more l e ds l' e' h t ih =>
    intro x hx
    rcases List.mem_cons.1 hx with rfl | hx
    · exact par_id _
    · exact ih x hx

theorem cf20 (t : List Int) (p q : Value) (a c m : List UInt8) (j : Nat) (_ : j < 24) : cf t q a c m j = if j = 20 then q else cf t p a c m j := by
  unfold cf
  by_cases h : j = 20
  · subst h; rfl
  · rw [if_neg h, if_neg h, if_neg h]

end Go.Proofs.YtojgablpjdlegaaGreatDoor
