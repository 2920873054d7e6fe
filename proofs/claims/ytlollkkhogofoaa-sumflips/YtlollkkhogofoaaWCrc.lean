/- CRC-32: the program's, the document's. -/
import Derived.Test.YtlollkkhogofoaaHelp
namespace Go.Proofs.Ytlollkkhogofoaa
open Go.RowKit

theorem bx32 (a b : Nat) (ha : a < 4294967296) (hb : b < 4294967296) : bits .xor .u32 (a : Int) (b : Int) = ((a ^^^ b : Nat) : Int) := by
  have hx := xor_lt32 a b ha hb
  show IntKind.u32.wrap ((BitVec.ofInt 32 (a : Int) ^^^ BitVec.ofInt 32 (b : Int)).toNat : Nat) = _
  rw [BitVec.toNat_xor, BitVec.ofInt_natCast, BitVec.ofInt_natCast, BitVec.toNat_ofNat, BitVec.toNat_ofNat, Nat.mod_eq_of_lt ha, Nat.mod_eq_of_lt hb]
  have e : ∀ n : Int, IntKind.u32.wrap n = n % 4294967296 := fun n => by simp [IntKind.wrap, IntKind.bits, IntKind.signed]
  rw [e]
  omega

theorem bx8 (a b : Nat) (ha : a < 256) (hb : b < 256) : bits .xor .u8 (a : Int) (b : Int) = ((a ^^^ b : Nat) : Int) := by
  have hx : a ^^^ b < 2 ^ 8 := Nat.xor_lt_two_pow (by omega) (by omega)
  show IntKind.u8.wrap ((BitVec.ofInt 8 (a : Int) ^^^ BitVec.ofInt 8 (b : Int)).toNat : Nat) = _
  rw [BitVec.toNat_xor, BitVec.ofInt_natCast, BitVec.ofInt_natCast, BitVec.toNat_ofNat, BitVec.toNat_ofNat, Nat.mod_eq_of_lt ha, Nat.mod_eq_of_lt hb]
  have e : ∀ n : Int, IntKind.u8.wrap n = n % 256 := fun n => by simp [IntKind.wrap, IntKind.bits, IntKind.signed]
  rw [e]
  omega

theorem u32_wrap (n : Int) : IntKind.u32.wrap n = n % 4294967296 := by simp [IntKind.wrap, IntKind.bits, IntKind.signed]

theorem wraps_u32 (n : Int) (h0 : 0 ≤ n) (h1 : n < 2 ^ 32) : IntKind.u32.wrap n = n := by rw [u32_wrap]; omega

theorem u32_mask (v : Int) (n : Nat) (hn : n ≤ 32) (h0 : 0 ≤ v) (h1 : v < 4294967296) : bits .and .u32 v (2 ^ n - 1) = v % 2 ^ n :=
  bits_mask .u32 32 (by decide) wraps_u32 n hn v h0 h1

theorem u32_one (v : Int) (h0 : 0 ≤ v) (h1 : v < 4294967296) : bits .and .u32 v 1 = v % 2 := u32_mask v 1 (by decide) h0 h1

set_option maxHeartbeats 1000000 in
theorem turned_any (v : Nat) (w : World) (hv : v < 4294967296) : Calls Try.prog 22 #[.int .u32 (v : Int)] w fun e w' => e = .returned (.int .u32 (trns 8 v : Nat)) ∧ w' = w := by
  go_enter Try.func22, Try.ntmps22
  go_wp2_with fail
  go_loopw [0, 3, 4] (fun x lo i wr => ∃ k : Nat, k ≤ 8 ∧ i = .int .i64 (k : Int) ∧ x = .int .u32 (trns k v : Nat) ∧ wr = w) (fun _ _ i _ => (8 - intOf i).toNat)
  case atStart => exact ⟨0, by omega, rfl, rfl, rfl⟩
  case round =>
    obtain ⟨k, hk, rfl, rfl, hw⟩ := hrel
    obtain ⟨s, hs⟩ : ∃ s, s = trns k v := ⟨_, rfl⟩
    have hs32 : s < 4294967296 := by rw [hs]; exact trns_lt k v hv
    have HS : Hid (s = trns k v) := hs
    rw [← hs]
    clear hs
    subst hw
    by_cases hlt : k < 8
    · have hlt' : (k : Int) < 8 := by omega
      by_cases ho : s % 2 = 1
      · have hoi : bits .and .u32 (s : Int) 1 = 1 := by rw [u32_one _ (by omega) (by omega)]; omega
        have HO : Hid (s % 2 = 1) := ho
        clear ho
        go_wp2_with fail
        refine ⟨⟨k + 1, by omega, rfl, ?_, trivial⟩, by simp [intOf]; omega⟩
        rw [show trns (k + 1) v = trn s by rw [HS.out]; rfl, trn_odd s HO.out, show ((s : Int) / 2) = ((s / 2 : Nat) : Int) by omega]
        exact congrArg _ (bx32 (s / 2) POLY (by omega) (by decide))
      · have hoi : bits .and .u32 (s : Int) 1 = 0 := by rw [u32_one _ (by omega) (by omega)]; omega
        have HO : Hid (¬ s % 2 = 1) := ho
        clear ho
        go_wp2_with fail
        refine ⟨⟨k + 1, by omega, rfl, ?_, trivial⟩, by simp [intOf]; omega⟩
        rw [show trns (k + 1) v = trn s by rw [HS.out]; rfl, trn_even s HO.out, show ((s : Int) / 2) = ((s / 2 : Nat) : Int) by omega]
    · have hlt' : ¬ (k : Int) < 8 := by omega
      have h8 : k = 8 := by omega
      have HS8 : Hid (s = trns 8 v) := by rw [← h8]; exact HS.out
      clear h8 HS hk hlt
      go_wp2_with fail
      go_ret
      exact ⟨by rw [HS8.out]; rfl, rfl⟩

theorem zinfo42 : (Try.prog.info? 42).map (fun i => (i.zero, i.size)) = some (some (.agg (Array.replicate 256 (Value.int .u32 0))), 256) := by kernel_rfl
theorem size42 : (Try.prog.info? 42).map (·.size) = some 256 := (zero_of_info zinfo42).2
theorem zero42 (w : World) : (zeroValue 42).run Try.prog w = .ok (.agg (Array.replicate 256 (Value.int .u32 0))) w := (zero_of_info zinfo42).1 w

theorem tab_row (k : Nat) {w : World} {b : Nat} (h : w.rowIs b 42 256 (fun j => .int .u32 (if j < k then (trns 8 j : Nat) else (0 : Int)))) : (w.setCell ⟨b, k, none⟩ (.int .u32 (trns 8 k : Nat))).rowIs b 42 256 (fun j => .int .u32 (if j < k + 1 then (trns 8 j : Nat) else (0 : Int))) :=
  (h.set k _).congr (fun i _ => by
    by_cases e : i = k
    · subst e; simp
    · simp only [e, if_false]
      by_cases h : i < k
      · simp [h, show i < k + 1 by omega]
      · simp [h, show ¬ i < k + 1 by omega])

/-- The table. -/
def Tab (w : World) (b : Nat) : Prop := w.rowIs b 42 256 (fun j => .int .u32 (trns 8 j : Nat))

set_option maxRecDepth 100000 in
set_option maxHeartbeats 1000000 in
theorem table_any (w : World) : Calls Try.prog 20 #[] w fun e w' => e = .returned (.pointer (some ⟨w.heap.size, 0, none⟩)) ∧ Tab w' w.heap.size ∧ Below w.heap.size w w' := by
  have z42 := zero42
  go_enter Try.func20, Try.ntmps20
  go_wp2_with fail
  go_loopw [2, 3] (fun _ i wr => ∃ k : Nat, k ≤ 256 ∧ i = .int .i64 (k : Int) ∧ wr.rowIs w.heap.size 42 256 (fun j => .int .u32 (if j < k then (trns 8 j : Nat) else (0 : Int))) ∧ Below w.heap.size w wr) (fun _ i _ => (256 - intOf i).toNat)
  case atStart =>
    refine ⟨0, by omega, rfl, ?_, (Below.refl _ _).alloc (Nat.le_refl _) _⟩
    exact (rowIs_rep w (Value.int .u32 0) 256 42).congr (fun j _ => by simp)
  case round =>
    clear z42
    obtain ⟨k, hk, rfl, r, hb⟩ := hrel
    by_cases hlt : k < 256
    · have hlt' : (k : Int) < 256 := by omega
      have ct := r.cell hlt
      have ft := r.frozen k
      have h3 := tab_row k r
      have hb' : Below w.heap.size w (wr.setCell ⟨w.heap.size, k, none⟩ (.int .u32 (trns 8 k : Nat))) := hb.setCell (by simp) _
      clear r hb
      go_wp2_with (first | (go_at_call 22; refine (turned_any k _ (by omega)).mono ?_; rintro e w2 ⟨rfl, hw⟩; subst hw))
      exact ⟨⟨k + 1, by omega, rfl, h3, hb'⟩, by simp [intOf]; omega⟩
    · have hlt' : ¬ (k : Int) < 256 := by omega
      have r2 : Tab wr w.heap.size := r.congr (fun j hj => by rw [if_pos (by omega)])
      clear r hk hlt
      go_wp2_with fail
      go_ret
      exact ⟨rfl, r2, hb⟩

/-- Bytes as natural numbers. -/
def nat (ys : List Int) : List Nat := ys.map Int.toNat

theorem nat_len (ys : List Int) : (nat ys).length = ys.length := List.length_map _

theorem nat_lt (ys : List Int) (h : ∀ x ∈ ys, 0 ≤ x ∧ x < 256) : ∀ b ∈ nat ys, b < 256 := by
  intro b hb
  obtain ⟨x, hx, rfl⟩ := List.mem_map.1 hb
  have := h x hx
  omega

theorem nat_app (xs ys : List Int) : nat (xs ++ ys) = nat xs ++ nat ys := List.map_append

theorem nat_take (xs : List Int) (k : Nat) : (nat xs).take k = nat (xs.take k) := (List.map_take).symm

theorem take_next (ys : List Int) (k : Nat) (hk : k < ys.length) : ys.take (k + 1) = ys.take k ++ [ys.getD k 0] := by
  rw [List.take_succ_eq_append_getElem hk]
  simp [List.getD, hk]

theorem cfold_next (s : Nat) (ys : List Int) (k : Nat) (hk : k < ys.length) : cfold s (nat (ys.take (k + 1))) = cstep (cfold s (nat (ys.take k))) (ys.getD k 0).toNat := by
  rw [take_next ys k hk, nat_app, cfold_app]
  rfl

set_option maxHeartbeats 1000000 in
theorem passed_any (B : Nat) (s : Nat) (ao : Option Addr) (n c : Nat) (ys : List Int) (w : World) (ht : Tab w B) (hs : s < 4294967296) (hr : Rd w ao n c ys) (hn : n ≤ 1000000000) :
    Calls Try.prog 19 #[.pointer (some ⟨B, 0, none⟩), .int .u32 (s : Int), .slice ao n c] w fun e w' => e = .returned (.int .u32 (cfold s (nat ys) : Nat)) ∧ w' = w := by
  have hlen := hr.len
  have HN : Hid (∀ k, cfold s (nat (ys.take k)) < 4294967296) := fun k => cfold_lt _ _ hs (fun b hb => nat_lt ys hr.byt b (by
    obtain ⟨x, hx, rfl⟩ := List.mem_map.1 hb
    exact List.mem_map.2 ⟨x, List.mem_of_mem_take hx, rfl⟩))
  go_enter Try.func19, Try.ntmps19
  go_wp2_with fail
  go_loopw [1, 8, 11] (fun x _ i wr => ∃ k : Nat, k ≤ n ∧ i = .int .i64 (k : Int) ∧ x = .int .u32 (cfold s (nat (ys.take k)) : Nat) ∧ wr = w) (fun _ _ i _ => (n - intOf i).toNat)
  case atStart => exact ⟨0, by omega, rfl, rfl, rfl⟩
  case round =>
    obtain ⟨k, hk, rfl, rfl, hw⟩ := hrel
    subst hw
    obtain ⟨t, hts⟩ : ∃ t, t = cfold s (nat (ys.take k)) := ⟨_, rfl⟩
    have ht32 : t < 4294967296 := by rw [hts]; exact HN.out k
    by_cases hlt : k < n
    · have hlt' : (k : Int) < n := by omega
      obtain ⟨b, off, rfl, hcell⟩ := hr.plain (by omega)
      have hck := hcell k hlt
      obtain ⟨y, hy⟩ : ∃ y : Nat, (y : Int) = ys.getD k 0 := ⟨(ys.getD k 0).toNat, by have := getD_byt ys hr.byt k; omega⟩
      have hyb : y < 256 := by have := getD_byt ys hr.byt k; omega
      rw [← hy] at hck
      have HT : Hid (cstep t y = cfold s (nat (ys.take (k + 1)))) := by
        show _ = _
        rw [cfold_next s ys k (by omega), ← hts, ← hy]
        rfl
      obtain ⟨q, hq⟩ : ∃ q, q = (t % 256) ^^^ y := ⟨_, rfl⟩
      have hq8 : q < 256 := by rw [hq]; have : (t % 256) ^^^ y < 2 ^ 8 := Nat.xor_lt_two_pow (by omega) (by omega); omega
      have hx8 : bits .xor .u8 ((t : Int) % 256) (y : Int) = (q : Int) := by rw [hq, show (t : Int) % 256 = ((t % 256 : Nat) : Int) by omega]; exact bx8 _ _ (by omega) hyb
      have hcq := World.rowIs.cell ht (i := q) hq8
      have hq8' : (q : Int) < 256 := by omega
      obtain ⟨z, hz⟩ : ∃ z, z = trns 8 q := ⟨_, rfl⟩
      have hx32 : bits .xor .u32 (z : Int) ((t : Int) / 256) = (cstep t y : Nat) := by
        rw [← cstep_table t y, ← hq, ← hz, show (t : Int) / 256 = ((t / 256 : Nat) : Int) by omega]
        exact bx32 _ _ (by rw [hz]; exact trns_lt 8 q (by omega)) (by omega)
      rw [← hz] at hcq
      rw [← hts]
      clear hts hq hz hy hcell
      go_wp2_with fail
      exact ⟨⟨k + 1, by omega, rfl, by rw [HT.out], trivial⟩, by simp [intOf]; omega⟩
    · have hlt' : ¬ (k : Int) < n := by omega
      have HT : Hid (t = cfold s (nat ys)) := by
        show _ = _
        rw [hts, List.take_of_length_le (by omega)]
      rw [← hts]
      clear hts hk hlt
      go_wp2_with fail
      go_ret
      exact ⟨by rw [HT.out]; rfl, rfl⟩

theorem inv32 (c : Nat) (hc : c < 4294967296) : bits .xor .u32 IntKind.u32.max (c : Int) = (inv c : Nat) := bx32 ONES c (by decide) hc

set_option maxHeartbeats 1000000 in
theorem crcMore_any (cr : Nat) (ao : Option Addr) (n c : Nat) (ys : List Int) (w : World) (hc : cr < 4294967296) (hr : Rd w ao n c ys) (hn : n ≤ 1000000000) :
    Calls Try.prog 13 #[.int .u32 (cr : Int), .slice ao n c] w fun e w' => e = .returned (.int .u32 (cmore cr (nat ys) : Nat)) ∧ Below w.heap.size w w' := by
  have hi := inv32 cr hc
  have HR : Hid (Rd w ao n c ys) := hr
  clear hr
  go_enter Try.func13, Try.ntmps13
  go_wp2_with fail
  refine (table_any w).mono ?_
  rintro e w1 ⟨rfl, h1, b1⟩
  have H1 : Hid (Tab w1 w.heap.size ∧ Below w.heap.size w w1) := ⟨h1, b1⟩
  clear h1 b1
  go_wp2_with fail
  refine (passed_any w.heap.size (inv cr) ao n c ys w1 H1.out.1 (inv_lt cr hc) (HR.out.keep H1.out.2) hn).mono ?_
  rintro e w2 ⟨rfl, hw⟩
  subst hw
  have hlt : cfold (inv cr) (nat ys) < 4294967296 := cfold_lt _ _ (inv_lt cr hc) (nat_lt ys HR.out.byt)
  have HE : Hid (inv (cfold (inv cr) (nat ys)) = cmore cr (nat ys)) := rfl
  obtain ⟨t, ht⟩ : ∃ t, t = cfold (inv cr) (nat ys) := ⟨_, rfl⟩
  rw [← ht] at hlt HE ⊢
  have hi2 := inv32 t hlt
  clear ht
  go_wp2_with fail
  go_ret
  exact ⟨by rw [← HE.out]; rfl, H1.out.2⟩

set_option maxHeartbeats 1000000 in
theorem crc_any (ao : Option Addr) (n c : Nat) (ys : List Int) (w : World) (hr : Rd w ao n c ys) (hn : n ≤ 1000000000) :
    Calls Try.prog 9 #[.slice ao n c] w fun e w' => e = .returned (.int .u32 (cmore 0 (nat ys) : Nat)) ∧ Below w.heap.size w w' := by
  have HR : Hid (Rd w ao n c ys) := hr
  clear hr
  go_enter Try.func9, Try.ntmps9
  go_wp2_with fail
  refine (crcMore_any 0 ao n c ys w (by omega) HR.out hn).mono ?_
  rintro e w1 ⟨rfl, b1⟩
  go_wp2_with fail
  go_ret
  exact ⟨rfl, b1⟩

set_option maxHeartbeats 1000000 in
theorem rmore_any (cr : Nat) (ao : Option Addr) (n c : Nat) (ys : List Int) (w : World) (hc : cr < 4294967296) (hr : Rd w ao n c ys) (hn : n ≤ 1000000000) :
    Calls Try.prog 16 #[.int .u32 (cr : Int), .slice ao n c] w fun e w' => e = .returned (.int .u32 (cmore cr (nat ys) : Nat)) ∧ w' = w := by
  have hlen := hr.len
  have hi := inv32 cr hc
  have HN : Hid (∀ k, cfold (inv cr) (nat (ys.take k)) < 4294967296) := fun k => cfold_lt _ _ (inv_lt cr hc) (fun b hb => nat_lt ys hr.byt b (by
    obtain ⟨x, hx, rfl⟩ := List.mem_map.1 hb
    exact List.mem_map.2 ⟨x, List.mem_of_mem_take hx, rfl⟩))
  have HE : Hid (inv (cfold (inv cr) (nat ys)) = cmore cr (nat ys)) := rfl
  obtain ⟨s, hs⟩ : ∃ s, s = inv cr := ⟨_, rfl⟩
  rw [← hs] at hi HN HE
  clear hs
  go_enter Try.func16, Try.ntmps16
  go_wp2_with fail
  go_loopw [0, 5, 6] (fun x i _ wr => ∃ k : Nat, k ≤ n ∧ i = .int .i64 (k : Int) ∧ x = .int .u32 (cfold s (nat (ys.take k)) : Nat) ∧ wr = w) (fun _ i _ _ => (n - intOf i).toNat)
  case atStart => exact ⟨0, by omega, rfl, rfl, rfl⟩
  case round =>
    clear hi
    obtain ⟨k, hk, rfl, rfl, hw⟩ := hrel
    subst hw
    obtain ⟨t, hts⟩ : ∃ t, t = cfold s (nat (ys.take k)) := ⟨_, rfl⟩
    have ht32 : t < 4294967296 := by rw [hts]; exact HN.out k
    by_cases hlt : k < n
    · have hlt' : (k : Int) < n := by omega
      obtain ⟨b, off, rfl, hcell⟩ := hr.plain (by omega)
      have hck := hcell k hlt
      obtain ⟨y, hy⟩ : ∃ y : Nat, (y : Int) = ys.getD k 0 := ⟨(ys.getD k 0).toNat, by have := getD_byt ys hr.byt k; omega⟩
      have hyb : y < 256 := by have := getD_byt ys hr.byt k; omega
      rw [← hy] at hck
      have HT : Hid (trns 8 (t ^^^ y) = cfold s (nat (ys.take (k + 1)))) := by
        show _ = _
        rw [cfold_next s ys k (by omega), ← hts, ← hy]
        rfl
      have hx32 : bits .xor .u32 (t : Int) (y : Int) = ((t ^^^ y : Nat) : Int) := bx32 t y ht32 (by omega)
      have hv32 : t ^^^ y < 4294967296 := xor_lt32 t y ht32 (by omega)
      obtain ⟨v, hv⟩ : ∃ v, v = t ^^^ y := ⟨_, rfl⟩
      rw [← hv] at hx32 hv32 HT
      rw [← hts]
      clear hts hy hcell hv
      go_wp2_with fail
      go_loopw [0, 6] (fun x i wx => ∃ j : Nat, j ≤ 8 ∧ i = .int .i64 (j : Int) ∧ x = .int .u32 (trns j v : Nat) ∧ wx = wr) (fun _ i _ => (8 - intOf i).toNat)
      case atStart => exact ⟨0, by omega, rfl, rfl, rfl⟩
      case round =>
        clear hx32 hck
        obtain ⟨j, hj, rfl, rfl, hw⟩ := hrel
        subst hw
        obtain ⟨u, hu⟩ : ∃ u, u = trns j v := ⟨_, rfl⟩
        have hu32 : u < 4294967296 := by rw [hu]; exact trns_lt j v hv32
        have HS : Hid (u = trns j v) := hu
        rw [← hu]
        clear hu
        by_cases hjt : j < 8
        · have hjt' : (j : Int) < 8 := by omega
          by_cases ho : u % 2 = 1
          · have hoi : bits .and .u32 (u : Int) 1 = 1 := by rw [u32_one _ (by omega) (by omega)]; omega
            have HO : Hid (u % 2 = 1) := ho
            clear ho
            go_wp2_with fail
            refine ⟨⟨j + 1, by omega, rfl, ?_, trivial⟩, by simp [intOf]; omega⟩
            rw [show trns (j + 1) v = trn u by rw [HS.out]; rfl, trn_odd u HO.out, show ((u : Int) / 2) = ((u / 2 : Nat) : Int) by omega]
            exact congrArg _ (bx32 (u / 2) POLY (by omega) (by decide))
          · have hoi : bits .and .u32 (u : Int) 1 = 0 := by rw [u32_one _ (by omega) (by omega)]; omega
            have HO : Hid (¬ u % 2 = 1) := ho
            clear ho
            go_wp2_with fail
            refine ⟨⟨j + 1, by omega, rfl, ?_, trivial⟩, by simp [intOf]; omega⟩
            rw [show trns (j + 1) v = trn u by rw [HS.out]; rfl, trn_even u HO.out, show ((u : Int) / 2) = ((u / 2 : Nat) : Int) by omega]
        · have hjt' : ¬ (j : Int) < 8 := by omega
          have h8 : j = 8 := by omega
          have HS8 : Hid (u = cfold s (nat (ys.take (k + 1)))) := by rw [← HT.out, ← h8]; exact HS.out
          clear h8 HS hj hjt
          go_wp2_with fail
          exact ⟨⟨k + 1, by omega, rfl, by rw [HS8.out], trivial⟩, by simp [intOf]; omega⟩
    · have hlt' : ¬ (k : Int) < n := by omega
      have hi2 := inv32 t ht32
      have HT : Hid (inv t = cmore cr (nat ys)) := by
        show _ = _
        rw [← HE.out, hts, List.take_of_length_le (by omega)]
      rw [← hts]
      clear hts hk hlt
      go_wp2_with fail
      go_ret
      exact ⟨by rw [← HT.out]; rfl, rfl⟩

set_option maxHeartbeats 1000000 in
theorem rcrc_any (ao : Option Addr) (n c : Nat) (ys : List Int) (w : World) (hr : Rd w ao n c ys) (hn : n ≤ 1000000000) :
    Calls Try.prog 11 #[.slice ao n c] w fun e w' => e = .returned (.int .u32 (cmore 0 (nat ys) : Nat)) ∧ w' = w := by
  have HR : Hid (Rd w ao n c ys) := hr
  clear hr
  go_enter Try.func11, Try.ntmps11
  go_wp2_with fail
  refine (rmore_any 0 ao n c ys w (by omega) HR.out hn).mono ?_
  rintro e w1 ⟨rfl, b1⟩
  subst b1
  go_wp2_with fail
  go_ret
  exact ⟨rfl, rfl⟩

end Go.Proofs.Ytlollkkhogofoaa
