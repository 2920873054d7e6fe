/- LzzChain, LzzWPut, LzzWOf, LzzWHash, LzzWSame, LzzWAdd, LzzLong. -/
import Derived.Test.YtiahbicodlgmhaaGreatDoorM10
import Derived.Test.YtiahbicodlgmhaaGreatDoorM11
import Derived.Laws.AppendOwnNone
import Derived.Maps.OwnSet
/- Chains as plain mathematics. -/
namespace Go.Proofs.YtiahbicodlgmhaaGreatDoor.Lzz
open Go.RowKit

/-- The three bytes at a place, as one number. -/
def H3 (b : List Int) (j : Nat) : Int := b.getD j 0 * 65536 + b.getD (j + 1) 0 * 256 + b.getD (j + 2) 0

theorem byte_at {b : List Int} (hb : ∀ x ∈ b, 0 ≤ x ∧ x < 256) (j : Nat) : 0 ≤ b.getD j 0 ∧ b.getD j 0 < 256 := by
  rw [List.getD]
  cases hg : b[j]? with
  | none => simp
  | some y => exact hb y (List.mem_of_getElem? hg)

theorem H3_range {b : List Int} (hb : ∀ x ∈ b, 0 ≤ x ∧ x < 256) (j : Nat) : 0 ≤ H3 b j ∧ H3 b j < 16777216 := by
  have h0 := byte_at hb j
  have h1 := byte_at hb (j + 1)
  have h2 := byte_at hb (j + 2)
  unfold H3
  omega

theorem H3_inj {b : List Int} (hb : ∀ x ∈ b, 0 ≤ x ∧ x < 256) {i j : Nat} (h : H3 b i = H3 b j) : ∀ k, k < 3 → b.getD (i + k) 0 = b.getD (j + k) 0 := by
  have h0 := byte_at hb i
  have h1 := byte_at hb (i + 1)
  have h2 := byte_at hb (i + 2)
  have k0 := byte_at hb j
  have k1 := byte_at hb (j + 1)
  have k2 := byte_at hb (j + 2)
  unfold H3 at h
  intro k hk
  rcases (by omega : k = 0 ∨ k = 1 ∨ k = 2) with rfl | rfl | rfl
  · rw [Nat.add_zero, Nat.add_zero]; omega
  · omega
  · omega

/-- The last place ahead of p whose three bytes are h, or -1. -/
def pv (b : List Int) (h : Int) : Nat → Int
  | 0 => -1
  | j + 1 => if j + 3 ≤ b.length ∧ H3 b j = h then (j : Int) else pv b h j

theorem pv_lt (b : List Int) (h : Int) (p : Nat) : -1 ≤ pv b h p ∧ pv b h p < p := by
  induction p with
  | zero => simp [pv]
  | succ p ih =>
    unfold pv
    split <;> omega

theorem pv_spec (b : List Int) (h : Int) (p : Nat) (i : Nat) (e : pv b h p = i) : i < p ∧ i + 3 ≤ b.length ∧ H3 b i = h := by
  induction p with
  | zero => simp [pv] at e
  | succ p ih =>
    unfold pv at e
    split at e
    · rename_i hh
      obtain rfl : p = i := by omega
      exact ⟨by omega, hh.1, hh.2⟩
    · have := ih e
      exact ⟨by omega, this.2⟩

theorem pv_max (b : List Int) (h : Int) (p : Nat) (i : Nat) (hi : i < p) (h3 : i + 3 ≤ b.length) (hh : H3 b i = h) : (i : Int) ≤ pv b h p := by
  induction p with
  | zero => omega
  | succ p ih =>
    unfold pv
    split
    · omega
    · rename_i hn
      rcases Nat.lt_or_ge i p with h' | h'
      · exact ih h'
      · obtain rfl : i = p := by omega
        exact absurd ⟨h3, hh⟩ hn

theorem pv_same (b : List Int) (p : Nat) (h3 : p + 3 ≤ b.length) : pv b (H3 b p) (p + 1) = p := by
  unfold pv
  rw [if_pos ⟨h3, rfl⟩]

theorem pv_other (b : List Int) (h : Int) (p : Nat) (hn : ¬ (p + 3 ≤ b.length ∧ H3 b p = h)) : pv b h (p + 1) = pv b h p := by
  conv => lhs; unfold pv
  rw [if_neg hn]

/-- How many bytes are the same from both places on, at most m. -/
def Sm (b : List Int) (q p m n : Nat) : Prop := n ≤ m ∧ (∀ i, i < n → b.getD (q + i) 0 = b.getD (p + i) 0) ∧ (n < m → b.getD (q + n) 0 ≠ b.getD (p + n) 0)

/-- The best of what was met of the chain at p: its length and distance (0, 0: none); of each row that comes again at a distance of at most e and farther than that which is to come, all. -/
structure Best (b : List Int) (p m n d : Nat) : Prop where
  ok : (n = 0 ∧ d = 0) ∨ (3 ≤ n ∧ n ≤ m ∧ 1 ≤ d ∧ d ≤ 32768 ∧ d ≤ p ∧ ∀ i, i < n → b.getD (p + i) 0 = b.getD (p + i - d) 0)

end Go.Proofs.YtiahbicodlgmhaaGreatDoor.Lzz

/- put. -/
namespace Go.Proofs.YtiahbicodlgmhaaGreatDoor.Lzz
open Go.RowKit

theorem Tryz.info5 : (Tryz.prog.info? 5).map (fun i => (i.zero, i.size, i.bytes)) = some (some (.int .u8 0), 1, 1) := by kernel_rfl
theorem Tryz.info40 : (Tryz.prog.info? 84).map (fun i => (i.zero, i.size, i.bytes)) = some (some (.agg #[.int .u8 0, .int .i64 0, .int .i64 0]), 3, 24) := by kernel_rfl

/-- A row of one's own, as a slice. -/
theorem own_rd {w : World} {base n : Nat} {v : Value} {xs : List Int} (h : w.ownsRow base 5 1 v n (xs.map (Value.int .u8))) (hb : ∀ x ∈ xs, 0 ≤ x ∧ x < 256) :
    ∃ ao c, v = .slice ao n c ∧ Rd w ao n c xs ∧ ∀ ad, ao = some ad → v.ownBlock = some ad.block ∧ base ≤ ad.block := by
  rcases h.2 with ⟨rfl, rfl⟩ | ⟨g, cap, cur, rfl, hg, _⟩
  · have hx : xs = [] := List.eq_nil_of_length_eq_zero (by simpa using h.1)
    subst hx
    exact ⟨none, 0, rfl, Rd.nil _, fun ad had => by cases had⟩
  · exact ⟨_, _, rfl, Rd.ofOwn h hb, fun ad had => by cases had; exact ⟨rfl, hg⟩⟩

theorem own_keep {w w' : World} {base e s n : Nat} {v : Value} {xs : List Value} (h : w.ownsRow base e s v n xs) (hb : Below w.heap.size w w') : w'.ownsRow base e s v n xs :=
  ownsRow_fr (P := fun _ => False) h (Fr.ofBelow hb) (fun _ _ h => h)

theorem _root_.Go.Proofs.YtiahbicodlgmhaaGreatDoor.Rd.blk {w : World} {ao : Option Addr} {n c : Nat} {ys : List Int} (h : Rd w ao n c ys) : ∀ ad, ao = some ad → 0 < n → ad.block < w.heap.size := fun ad had hn => by
  have := h.cells ad had 0 hn
  have := World.block_lt_of_cell? w _ this
  rwa [show (ad.add 0).block = ad.block by unfold Addr.add; split <;> rfl] at this

theorem Bx.lt {w : World} {p : Nat} {x y z : Value} (h : Bx w p x y z) : p < w.heap.size := World.block_lt_of_cell? w _ h.1

theorem Bx.grown {w w' : World} {p : Nat} {x y z : Value} {row : Option Nat} (h : Bx w p x y z) (hg : w.grownBy w' row) (hr : row ≠ some p) : Bx w' p x y z := by
  have hf : Fr (fun k => row = some k) w w' := (Fr.refl _ w).grown hg (fun k _ hk => hk)
  have hlt := h.lt
  obtain ⟨h0, h1, h2⟩ := h
  refine ⟨?_, ?_, ?_⟩
  · rw [World.cell?_of_block (hf.block p hlt hr)]; exact h0
  · rw [World.cell?_of_block (hf.block p hlt hr)]; exact h1
  · rw [World.cell?_of_block (hf.block p hlt hr)]; exact h2

theorem Bx.alloc {w : World} {p : Nat} {x y z : Value} (h : Bx w p x y z) (o : Obj) : Bx (w.alloc o) p x y z := h.keep ((Below.refl _ _).alloc (Nat.le_refl _) _)

end Go.Proofs.YtiahbicodlgmhaaGreatDoor.Lzz

/- of; literals. -/
namespace Go.Proofs.YtiahbicodlgmhaaGreatDoor.Lzz
open Go.RowKit

theorem cell_three_new (w : World) (x y z : Value) (t : TypeId) : ∀ j u, [x, y, z][j]? = some u → (w.alloc (.cells #[x, y, z] t)).cell? ((⟨w.heap.size, 0, none⟩ : Addr).add j) = some u := by
  obtain ⟨h0, h1, h2⟩ := Bx.new w x y z t
  intro j u hj
  rw [Addr.add_lit, Nat.zero_add]
  rcases j with _ | _ | _ | j
  · simp at hj; subst hj; exact h0
  · simp at hj; subst hj; exact h1
  · simp at hj; subst hj; exact h2
  · simp at hj

theorem tcs_push (ts : List Tok) (k : Nat) (h : k < ts.length) : tcs (ts.take (k + 1)) = tcs (ts.take k) ++ tc (ts.getD k tz) := by
  rw [take_one ts tz k h, tcs_app, tcs_one]

/-- Bytes as literals. -/
def lits (xs : List Int) : List Tok := xs.map (fun x => (x, 0, 0))

/-- The cells of n tokens of which k are laid. -/
def lf (xs : List Int) (k j : Nat) : Value := if j % 3 = 0 then .int .u8 (if j / 3 < k then xs.getD (j / 3) 0 else 0) else .int .i64 0

theorem lf_at (xs : List Int) (k : Nat) : lf xs k (k * 3) = .int .u8 0 := by
  unfold lf
  rw [if_pos (by omega), if_neg (by omega)]

theorem lf_set (xs : List Int) (k j : Nat) : (if j = k * 3 then .int .u8 (xs.getD k 0) else lf xs k j) = lf xs (k + 1) j := by
  by_cases h : j = k * 3
  · rw [if_pos h, h]
    unfold lf
    rw [if_pos (by omega), if_pos (by omega), show k * 3 / 3 = k by omega]
  · rw [if_neg h]
    unfold lf
    by_cases h3 : j % 3 = 0
    · rw [if_pos h3, if_pos h3]
      have e : (j / 3 < k) = (j / 3 < k + 1) := by
        apply propext
        omega
      simp only [e]
    · rw [if_neg h3, if_neg h3]

theorem lits_len (xs : List Int) : (lits xs).length = xs.length := by simp [lits]

theorem lits_cells (xs : List Int) (n : Nat) (h : xs.length = n) : vals (lf xs n) (n * 3) = tcs (lits xs) := by
  apply List.ext_getElem?
  intro i
  by_cases hi : i < n * 3
  · rw [vals_get _ _ _ hi]
    have hg : (lits xs).getD (i / 3) tz = (xs.getD (i / 3) 0, 0, 0) := by
      have hl : i / 3 < xs.length := by omega
      simp [lits, List.getD, hl]
    obtain ⟨g0, g1, g2⟩ := tcs_get (lits xs) (i / 3) (by rw [lits_len]; omega)
    rw [hg] at g0 g1 g2
    unfold lf
    rcases (by omega : i % 3 = 0 ∨ i % 3 = 1 ∨ i % 3 = 2) with h3 | h3 | h3
    · rw [if_pos h3, if_pos (by omega), show i = i / 3 * 3 by omega, g0]
      rw [show i / 3 * 3 / 3 = i / 3 by omega]
    · rw [if_neg (by omega), show i = i / 3 * 3 + 1 by omega, g1]
    · rw [if_neg (by omega), show i = i / 3 * 3 + 2 by omega, g2]
  · rw [List.getElem?_eq_none (by rw [vals_len]; omega), List.getElem?_eq_none (by rw [tcs_len, lits_len]; omega)]

theorem own_row {w : World} {base e s g n : Nat} {xs : List Value} (h : w.ownsRow base e s (.slice (some ⟨g, 0, none⟩) n n) n xs) (f : Nat → Value) (hf : ∀ j, j < n * s → xs[j]? = some (f j)) : w.rowIs g e (n * s) f := by
  rcases h.2 with ⟨e1, _⟩ | ⟨g', cap, cur, e1, _, hh, _, _, hs, ht⟩
  · cases e1
  · cases e1
    refine ⟨cur, hh, hs, fun i hi => ?_⟩
    have := hf i hi
    rw [← ht, List.getElem?_take, if_pos hi] at this
    simpa using this

theorem row_own {w : World} {base e s g n : Nat} {f : Nat → Value} (h : w.rowIs g e (n * s) f) (hb : base ≤ g) (hn : n ≤ maxLen) : w.ownsRow base e s (.slice (some ⟨g, 0, none⟩) n n) n (vals f (n * s)) :=
  ⟨vals_len _ _, .inr ⟨g, n, _, rfl, hb, rowIs_block h, Nat.le_refl _, hn, vals_size _ _, by rw [List.take_of_length_le (by simp [vals])]⟩⟩

theorem made3 (n j : Nat) (xs : List Int) (h : j < n * 3) : (madeCells (Value.agg #[.int .u8 0, .int .i64 0, .int .i64 0]).cells (n * 3)).toList[j]? = some (lf xs 0 j) := by
  unfold madeCells lf
  rw [if_neg (Nat.not_lt_zero _)]
  simp [h, Value.cells]
  rcases (by omega : j % 3 = 0 ∨ j % 3 = 1 ∨ j % 3 = 2) with h3 | h3 | h3 <;> rw [h3] <;> rfl

set_option maxRecDepth 100000 in
set_option maxHeartbeats 1000000 in
theorem literals_any (ao : Option Addr) (n c : Nat) (xs : List Int) (w : World) (h : Rd w ao n c xs) (hn : n ≤ 1000000) :
    Calls Tryz.prog 40 #[.slice ao n c] w fun e w' => ∃ v, e = .returned v ∧ w'.ownsRow w.heap.size 84 3 v n (tcs (lits xs)) ∧ Below w.heap.size w w' := by
  obtain ⟨i0, hi, hz0, hz1, hz2⟩ := info_parts Tryz.info40
  have hlen := h.len
  have HR : Hid (Rd w ao n c xs) := h
  clear h
  go_enter Tryz.func40, Tryz.ntmps40
  go_wp2_with (at_make; refine wpList_make_full _ rfl _ _ 45 rfl w.heap.size 84 i0 (.agg #[.int .u8 0, .int .i64 0, .int .i64 0]) 3 Tryz.underlying45 hi hz0 hz1 _ _ _ _ n rfl rfl rfl rfl (by rw [hz2]; omega) (by unfold maxLen; omega) (Nat.le_refl _) ?_; intro w1 o1 g1)
  have r1 := own_row o1 (lf xs 0) (fun j hj => made3 n j xs hj)
  have b1 : Below w.heap.size w w1 := (Below.refl _ _).grown g1 (Nat.le_refl _) (fun q hq => by cases hq)
  obtain ⟨g, hg⟩ : ∃ g, g = w.heap.size := ⟨_, rfl⟩
  have HG : Hid (g = w.heap.size) := hg
  rw [← hg] at r1 ⊢
  clear hg o1 g1
  go_loopw [11] (fun i wr => ∃ k : Nat, k ≤ n ∧ i = .int .i64 k ∧ wr.rowIs g 84 (n * 3) (lf xs k) ∧ Hid (Below w.heap.size w wr)) (fun i _ => n - (intOf i).toNat)
  case atStart => exact ⟨0, by omega, rfl, r1, b1⟩
  case round =>
    obtain ⟨k, hk, rfl, rk, hb⟩ := hrel
    clear r1 b1
    by_cases hlt : k < n
    · obtain ⟨b, off, rfl, hcell⟩ := HR.out.plain (by omega)
      have hck := hcell k hlt
      have hc2 : wr.cell? ⟨b, off + k, none⟩ = some (.int .u8 (xs.getD k 0)) := by rw [hb.out.cell (World.block_lt_of_cell? w _ hck)]; exact hck
      have d0 := rk.cell (i := k * 3) (by omega)
      have d1 := rk.frozen (k * 3)
      rw [lf_at] at d0
      have RS : Hid ((wr.setCell ⟨g, k * 3, none⟩ (.int .u8 (xs.getD k 0))).rowIs g 84 (n * 3) (lf xs (k + 1))) := by
        have := rk.set (k * 3) (.int .u8 (xs.getD k 0))
        simp only [lf_set] at this
        exact this
      have BS : Hid (Below w.heap.size w (wr.setCell ⟨g, k * 3, none⟩ (.int .u8 (xs.getD k 0)))) := by
        have hf : Fr (fun q => q = g) wr (wr.setCell ⟨g, k * 3, none⟩ (.int .u8 (xs.getD k 0))) := (Fr.refl (fun q => q = g) wr).setCell (p := ⟨g, k * 3, none⟩) rfl _
        exact hb.out.trans (hf.below w.heap.size hb.out.size (fun i hi e => by have := HG.out; omega))
      generalize xs.getD k 0 = x at *
      clear hcell hck rk hb
      go_wp2
      go_roundw
      case rel => exact ⟨k + 1, by omega, by go_num, RS.out, BS⟩
      case measure => simp [intOf]; omega
    · obtain rfl : k = n := by omega
      have o := row_own (base := w.heap.size) rk (by have := HG.out; omega) (by unfold maxLen; omega)
      rw [lits_cells xs k hlen] at o
      have HO : Hid (wr.ownsRow w.heap.size 84 3 (.slice (some ⟨g, 0, none⟩) k k) k (tcs (lits xs))) := o
      clear o rk
      go_wp2
      go_ret
      exact ⟨_, rfl, HO.out, hb.out⟩

end Go.Proofs.YtiahbicodlgmhaaGreatDoor.Lzz

/- Chains in memory; hash. -/
namespace Go.Proofs.YtiahbicodlgmhaaGreatDoor.Lzz
open Go.RowKit Go.Maps

/-- The cells of chains. -/
def chc (ao : Option Addr) (N c M g : Nat) : Nat → Value
  | 0 => .slice ao N c
  | 1 => .map (some M)
  | _ => .slice (some ⟨g, 0, none⟩) N N

/-- The chains in block R, of the bytes b, with all places below p. -/
structure IsCh (w : World) (B R : Nat) (ao : Option Addr) (N c M g : Nat) (b : List Int) (A : Nat → Int) (D : DataW Unit) (p : Nat) : Prop where
  row : w.rowIs R 114 3 (chc ao N c M g)
  rd : Rd w ao N c b
  map : w.ownsMap Tryz.prog 39 (plainElem Tryz.prog 3) M p D
  no : ∀ h : Int, 0 ≤ h → h < 4294967296 → pv b h p < 0 → Maps.has D (.int .u32 h) = false
  yes : ∀ h : Int, 0 ≤ h → h < 4294967296 → 0 ≤ pv b h p → Maps.has D (.int .u32 h) = true ∧ D.atKey (.int .u32 h) (.lit (.int .i64 0)) = .lit (.int .i64 (pv b h p))
  ahd : w.rowIs g 3 N (fun j => .int .i64 (A j))
  link : ∀ j, j < p → j + 3 ≤ N → A j = pv b (H3 b j) j
  low : B ≤ R ∧ B ≤ M ∧ B ≤ g
  src : ∀ ad, ao = some ad → 0 < N → ad.block < B

theorem IsCh.fr {P : Nat → Prop} {w w' : World} {B R : Nat} {ao : Option Addr} {N c M g : Nat} {b : List Int} {A : Nat → Int} {D : DataW Unit} {p : Nat} (h : IsCh w B R ao N c M g b A D p) (hf : Fr P w w') (hR : ¬ P R) (hM : ¬ P M) (hg : ¬ P g) (hb : ∀ k, k < B → ¬ P k) : IsCh w' B R ao N c M g b A D p :=
  ⟨rowIs_fr h.row hf hR, h.rd.fr hf (fun ad e hn => hb _ (h.src ad e hn)), by
    have hlt := h.map.lt
    obtain ⟨es, clock, e, hh⟩ := h.map
    exact ⟨es, clock, (hf.block M hlt hM).trans e, hh⟩, h.no, h.yes, rowIs_fr h.ahd hf hg, h.link, h.low, h.src⟩

theorem IsCh.keep {w w' : World} {B R : Nat} {ao : Option Addr} {N c M g : Nat} {b : List Int} {A : Nat → Int} {D : DataW Unit} {p : Nat} (h : IsCh w B R ao N c M g b A D p) (hf : Below w.heap.size w w') : IsCh w' B R ao N c M g b A D p :=
  h.fr (P := fun _ => False) (Fr.ofBelow hf) (fun h => h) (fun h => h) (fun h => h) (fun _ _ h => h)

theorem drew_keep (w : World) : Below w.heap.size w w.drew := ⟨rfl, rfl, rfl, Nat.le_refl _, fun _ _ => rfl⟩

theorem wraps_u32 (n : Int) (h0 : 0 ≤ n) (h1 : n < 2 ^ 32) : IntKind.u32.wrap n = n := by
  have e : IntKind.u32.wrap n = n % 4294967296 := by simp [IntKind.wrap, IntKind.bits, IntKind.signed]
  rw [e]; omega

theorem or3 (x y z : Int) (hx : 0 ≤ x ∧ x < 256) (hy : 0 ≤ y ∧ y < 256) (hz : 0 ≤ z ∧ z < 256) :
    bits .or .u32 (bits .or .u32 (x * 65536) (y * 256)) z = x * 65536 + y * 256 + z := by
  have e1 : bits .or .u32 (x * 65536) (y * 256) = x * 65536 + y * 256 := by
    have := bits_join .u32 32 (by decide) wraps_u32 16 (x * 65536) (y * 256) (by omega) (by omega) (by omega) (by omega) (by omega) (by omega)
    exact this
  rw [e1]
  exact bits_join .u32 32 (by decide) wraps_u32 8 (x * 65536 + y * 256) z (by omega) (by omega) (by omega) (by omega) (by omega) (by omega)

set_option maxRecDepth 100000 in
set_option maxHeartbeats 1000000 in
theorem hash_yes (R : Nat) (ao : Option Addr) (N c M g : Nat) (b : List Int) (j : Nat) (w : World) (hr : w.rowIs R 114 3 (chc ao N c M g)) (h : Rd w ao N c b) (hj : j + 3 ≤ N) (hN : N ≤ 1000000) :
    Calls Tryz.prog 72 #[.pointer (some ⟨R, 0, none⟩), .int .i64 j] w fun e w' => e = .returned (.tuple #[.int .u32 (H3 b j), .bool true]) ∧ Below w.heap.size w w' := by
  have c0 := hr.cell (i := 0) (by omega)
  simp only [chc] at c0
  have y0 := byte_at h.byt j
  have y1 := byte_at h.byt (j + 1)
  have y2 := byte_at h.byt (j + 2)
  obtain ⟨B, off, rfl, hcell⟩ := h.plain (by omega)
  have d0 := hcell j (by omega)
  have d1 := hcell (j + 1) (by omega)
  have d2 := hcell (j + 2) (by omega)
  have e3 := or3 _ _ _ y0 y1 y2
  have HH : Hid (H3 b j = b.getD j 0 * 65536 + b.getD (j + 1) 0 * 256 + b.getD (j + 2) 0) := rfl
  generalize b.getD j 0 = x at *
  generalize b.getD (j + 1) 0 = y at *
  generalize b.getD (j + 2) 0 = z at *
  have q1 : ¬ (N : Int) - j < 3 := by omega
  have q2 : IntKind.u32.wrap (x * 65536) = x * 65536 := wraps_u32 _ (by omega) (by omega)
  have q3 : IntKind.u32.wrap (y * 256) = y * 256 := wraps_u32 _ (by omega) (by omega)
  have q4 : j < N := by omega
  have q5 : j + 1 < N := by omega
  have q6 : j + 2 < N := by omega
  clear hr hcell h
  go_enter Tryz.func72, Tryz.ntmps72
  go_wp2
  go_region
  go_wp2
  go_ret2
  exact ⟨by rw [HH.out]; rfl, drew_keep w⟩

theorem hash_no (R : Nat) (ao : Option Addr) (N c M g : Nat) (j : Nat) (w : World) (hr : w.rowIs R 114 3 (chc ao N c M g)) (hj : N < j + 3) (hN : N ≤ 1000000) (hjN : j ≤ 1000000) :
    Calls Tryz.prog 72 #[.pointer (some ⟨R, 0, none⟩), .int .i64 j] w fun e w' => e = .returned (.tuple #[.int .u32 0, .bool false]) ∧ Below w.heap.size w w' := by
  have c0 := hr.cell (i := 0) (by omega)
  simp only [chc] at c0
  have q1 : (N : Int) - j < 3 := by omega
  clear hr
  go_enter Tryz.func72, Tryz.ntmps72
  go_wp2
  go_ret2
  exact ⟨rfl, Below.refl _ _⟩

theorem Tryz.law57 : Keyed Tryz.prog 39 := int_keyed Tryz.underlying39
theorem Tryz.zero3 (w : World) : (zeroValue 3).run Tryz.prog w = .ok (.int .i64 0) w := by kernel_rfl

theorem u32_wf (h : Int) (h0 : 0 ≤ h) (h1 : h < 4294967296) : (Lit.int .u32 h).wf = true := by
  have a : IntKind.u32.min = 0 := by decide
  have b : IntKind.u32.max = 4294967295 := by decide
  simp [Lit.wf]
  omega

/-- What first answers. -/
def fst3 (b : List Int) (N j p : Nat) : Int := if j + 3 ≤ N then pv b (H3 b j) p else -1

set_option maxRecDepth 100000 in
set_option maxHeartbeats 1000000 in
theorem first_any (B R : Nat) (ao : Option Addr) (N c M g : Nat) (b : List Int) (A : Nat → Int) (D : DataW Unit) (p j : Nat) (w : World) (h : IsCh w B R ao N c M g b A D p) (hN : N ≤ 1000000) (hj : j ≤ N) :
    Calls Tryz.prog 70 #[.pointer (some ⟨R, 0, none⟩), .int .i64 j] w fun e w' => e = .returned (.int .i64 (fst3 b N j p)) ∧ Below w.heap.size w w' := by
  by_cases hj3 : j + 3 ≤ N
  · have hh := hash_yes R ao N c M g b j w h.row h.rd hj3 hN
    have hr := H3_range h.rd.byt j
    have e : fst3 b N j p = pv b (H3 b j) p := if_pos hj3
    rw [e]
    have HC : Hid (IsCh w B R ao N c M g b A D p) := h
    have HL := pv_lt b (H3 b j) p
    by_cases hp : 0 ≤ pv b (H3 b j) p
    · obtain ⟨y1, y2⟩ := h.yes _ hr.1 (by omega) hp
      have hkey := keyOf_int_mk (P := Tryz.prog) (k := 39) Tryz.underlying39 (u32_wf _ hr.1 (by omega))
      have HY2 : Hid (D.atKey (.int .u32 (H3 b j)) (.lit (.int .i64 0)) = .lit (.int .i64 (pv b (H3 b j) p))) := y2
      clear h e y2 hp HL
      generalize H3 b j = x at *
      generalize pv b x p = y at *
      go_enter Tryz.func70, Tryz.ntmps70
      go_wp2_with fail
      refine hh.mono ?_
      rintro e w1 ⟨rfl, hb1⟩
      have h1 := HC.out.keep hb1
      have c1 := h1.row.cell (i := 1) (by omega)
      simp only [chc] at c1
      go_wp2_with (at_lookup; refine wpList_lookup_own_ok_int _ rfl _ _ 112 rfl 39 3 .i64 Tryz.law57 Tryz.underlying112 Tryz.underlying3 (Tryz.zero3 _) M p D rfl h1.map _ _ rfl hkey ?_; intro cc hat hwc; rw [HY2.out] at hat; obtain rfl : y = cc := by (cases hat; rfl))
      go_ret
      exact ⟨rfl, hb1⟩
    · have y1 := h.no _ hr.1 (by omega) (by omega)
      have hkey := keyOf_int_mk (P := Tryz.prog) (k := 39) Tryz.underlying39 (u32_wf _ hr.1 (by omega))
      have ey : pv b (H3 b j) p = -1 := by omega
      rw [ey]
      clear h e hp HL ey
      generalize H3 b j = x at *
      go_enter Tryz.func70, Tryz.ntmps70
      go_wp2_with fail
      refine hh.mono ?_
      rintro e w1 ⟨rfl, hb1⟩
      have h1 := HC.out.keep hb1
      have c1 := h1.row.cell (i := 1) (by omega)
      simp only [chc] at c1
      go_wp2_with (at_lookup; refine wpList_lookup_own_ok_int _ rfl _ _ 112 rfl 39 3 .i64 Tryz.law57 Tryz.underlying112 Tryz.underlying3 (Tryz.zero3 _) M p D rfl h1.map _ _ rfl hkey ?_; intro cc hat hwc)
      go_ret
      exact ⟨rfl, hb1⟩
  · have hh := hash_no R ao N c M g j w h.row (by omega) hN (by omega)
    have e : fst3 b N j p = -1 := if_neg hj3
    rw [e]
    clear h e
    go_enter Tryz.func70, Tryz.ntmps70
    go_wp2_with fail
    refine hh.mono ?_
    rintro e w1 ⟨rfl, hb1⟩
    go_wp2
    go_ret
    exact ⟨rfl, hb1⟩

end Go.Proofs.YtiahbicodlgmhaaGreatDoor.Lzz

/- same. -/
namespace Go.Proofs.YtiahbicodlgmhaaGreatDoor.Lzz
open Go.RowKit Go.Maps

set_option maxRecDepth 100000 in
set_option maxHeartbeats 1000000 in
theorem same_any (R : Nat) (ao : Option Addr) (N c M g : Nat) (b : List Int) (q p m : Nat) (w : World) (hr : w.rowIs R 114 3 (chc ao N c M g)) (h : Rd w ao N c b) (hq : q ≤ p) (hp : p + m ≤ N) (hN : N ≤ 1000000) :
    Calls Tryz.prog 71 #[.pointer (some ⟨R, 0, none⟩), .int .i64 q, .int .i64 p, .int .i64 m] w fun e w' => ∃ n : Nat, e = .returned (.int .i64 n) ∧ Sm b q p m n ∧ Below w.heap.size w w' := by
  have HR : Hid (w.rowIs R 114 3 (chc ao N c M g)) := hr
  have HB : Hid (Rd w ao N c b) := h
  clear hr h
  go_enter Tryz.func71, Tryz.ntmps71
  go_wp2
  go_loopw [9] (fun v wr => ∃ k : Nat, k ≤ m ∧ v = .int .i64 k ∧ Hid (∀ i, i < k → b.getD (q + i) 0 = b.getD (p + i) 0) ∧ Hid (Below w.heap.size w wr)) (fun v _ => m - (intOf v).toNat)
  case atStart => exact ⟨0, by omega, rfl, (fun i hi => by omega), Below.refl _ _⟩
  case round =>
    obtain ⟨k, hk, rfl, hall, hb⟩ := hrel
    by_cases hlt : k < m
    · have c0 : wr.cell? ⟨R, 0, none⟩ = some (.slice ao N c) := (HR.out.of_block (hb.out.block _ HR.out.lt)).cell (i := 0) (by omega)
      obtain ⟨B, off, rfl, hcell⟩ := (HB.out.keep hb.out).plain (by omega)
      have d0 := hcell (q + k) (by omega)
      have d1 := hcell (p + k) (by omega)
      have q0 : q + k < N := by omega
      have q1 : p + k < N := by omega
      by_cases he : b.getD (q + k) 0 = b.getD (p + k) 0
      · have HA : Hid (∀ i, i < k + 1 → b.getD (q + i) 0 = b.getD (p + i) 0) := fun i hi => by
          rcases Nat.lt_or_ge i k with h' | h'
          · exact hall.out i h'
          · obtain rfl : i = k := by omega
            exact he
        rw [he] at d0
        generalize b.getD (p + k) 0 = x at *
        clear hcell hall he
        go_wp2
        go_region
        have B2 : Hid (Below w.heap.size w wr.drew) := hb.out.trans ((drew_keep wr).mono hb.out.size)
        clear hb c0 d0 d1
        go_wp2
        go_roundw
        case rel => exact ⟨k + 1, by omega, by go_num, HA, B2⟩
        case measure => simp [intOf]; omega
      · have HS : Hid (Sm b q p m k) := ⟨by omega, hall.out, fun _ => he⟩
        have qe : (b.getD (q + k) 0 == b.getD (p + k) 0) = false := by simp only [beq_eq_false_iff_ne]; exact he
        generalize b.getD (p + k) 0 = x at *
        generalize b.getD (q + k) 0 = y at *
        clear hcell hall he
        go_wp2
        go_region
        have B2 : Hid (Below w.heap.size w wr.drew) := hb.out.trans ((drew_keep wr).mono hb.out.size)
        clear hb c0 d0 d1
        go_wp2
        go_ret
        exact ⟨k, rfl, HS.out, B2.out⟩
    · obtain rfl : k = m := by omega
      clear hlt
      have HS : Hid (Sm b q p k k) := ⟨by omega, hall.out, fun h => by omega⟩
      go_wp2
      go_region
      have B2 : Hid (Below w.heap.size w wr.drew) := hb.out.trans ((drew_keep wr).mono hb.out.size)
      go_wp2
      go_ret
      exact ⟨k, rfl, HS.out, B2.out⟩

end Go.Proofs.YtiahbicodlgmhaaGreatDoor.Lzz

/- newChains, add. -/
namespace Go.Proofs.YtiahbicodlgmhaaGreatDoor.Lzz
open Go.RowKit Go.Maps

theorem Tryz.info3 : (Tryz.prog.info? 3).map (fun i => (i.zero, i.size, i.bytes)) = some (some (.int .i64 0), 1, 8) := by kernel_rfl

set_option maxRecDepth 100000 in
set_option maxHeartbeats 1000000 in
theorem newChains_any (ao : Option Addr) (N c : Nat) (b : List Int) (w : World) (h : Rd w ao N c b) (hN : N ≤ 1000000) :
    Calls Tryz.prog 41 #[.slice ao N c] w fun e w' => ∃ R M g, e = .returned (.pointer (some ⟨R, 0, none⟩)) ∧ IsCh w' w.heap.size R ao N c M g b (fun _ => 0) (.map []) 0 ∧ Below w.heap.size w w' := by
  obtain ⟨i0, hi, hz0, hz1, hz2⟩ := info_parts Tryz.info3
  have HB : Hid (Rd w ao N c b) := h
  have hmm := @run_makeMap Tryz.prog
  clear h
  go_enter Tryz.func41, Tryz.ntmps41
  go_wp2_with (at_make; refine wpList_make_row _ rfl _ _ 59 rfl 3 i0 (.int .i64 0) Tryz.underlying59 hi hz0 hz1 rfl .i64 .i64 N rfl rfl (by rw [hz2]; omega) (by omega) ?_)
  go_ret
  have b1 : Below w.heap.size w (w.alloc (.map #[] 0)) := (Below.refl _ _).alloc (Nat.le_refl _) _
  have b2 := b1.alloc b1.size (.cells (madeCells #[Value.int .i64 0] N) 3)
  have b3 := b2.alloc b2.size (.cells #[Value.slice ao N c, Value.map (some w.heap.size), Value.slice (some ⟨w.heap.size + 1, 0, none⟩) N N] 114)
  have e1 : (w.alloc (.map #[] 0)).heap.size = w.heap.size + 1 := by simp
  have e2 : ((w.alloc (.map #[] 0)).alloc (.cells (madeCells #[Value.int .i64 0] N) 3)).heap.size = w.heap.size + 1 + 1 := by simp
  have hm := ((World.ownsMap_made w Tryz.prog 39 (plainElem (H := Unit) Tryz.prog 3)).alloc (.cells (madeCells #[Value.int .i64 0] N) 3)).alloc (.cells #[Value.slice ao N c, Value.map (some w.heap.size), Value.slice (some ⟨w.heap.size + 1, 0, none⟩) N N] 114)
  have hg := (World.rowIs_made (w.alloc (.map #[] 0)) (.int .i64 0) N 3).alloc (.cells #[Value.slice ao N c, Value.map (some w.heap.size), Value.slice (some ⟨w.heap.size + 1, 0, none⟩) N N] 114)
  have hr := World.rowIs_alloc ((w.alloc (.map #[] 0)).alloc (.cells (madeCells #[Value.int .i64 0] N) 3)) #[Value.slice ao N c, Value.map (some w.heap.size), Value.slice (some ⟨w.heap.size + 1, 0, none⟩) N N] 114 (chc ao N c w.heap.size (w.heap.size + 1)) (fun i hi => by simp at hi; rcases i with _ | _ | _ | i <;> first | rfl | omega)
  rw [e1] at hg
  rw [e2] at hr
  exact ⟨w.heap.size + 1 + 1, w.heap.size, w.heap.size + 1, rfl, ⟨hr, HB.out.keep b3, hm, fun _ _ _ _ => rfl, (fun h _ _ hh => by simp [pv] at hh), hg, (fun j hj => by omega), ⟨by omega, Nat.le_refl _, by omega⟩, HB.out.blk⟩, b3⟩

theorem IsCh.apart {w : World} {B R : Nat} {ao : Option Addr} {N c M g : Nat} {b : List Int} {A : Nat → Int} {D : DataW Unit} {p : Nat} (h : IsCh w B R ao N c M g b A D p) : R ≠ g ∧ R ≠ M ∧ M ≠ g := by
  have hR := rowIs_block h.row
  have hg := rowIs_block h.ahd
  obtain ⟨es, clock, hM, _⟩ := h.map
  refine ⟨?_, ?_, ?_⟩
  · rintro rfl
    rw [hR] at hg
    simp at hg
  · rintro rfl
    rw [hR] at hM
    simp at hM
  · rintro rfl
    rw [hg] at hM
    simp at hM

theorem IsCh.added {w W : World} {B R : Nat} {ao : Option Addr} {N c M g : Nat} {b : List Int} {A : Nat → Int} {D : DataW Unit} {p : Nat} (h : IsCh w B R ao N c M g b A D p) (h3 : p + 3 ≤ N) (hr : W.rowIs R 114 3 (chc ao N c M g)) (hrd : Rd W ao N c b)
    (hm : W.ownsMap Tryz.prog 39 (plainElem Tryz.prog 3) M (p + 1) (D.put (.int .u32 (H3 b p)) (.lit (.int .i64 p)))) (ha : W.rowIs g 3 N (fun j => if j = p then .int .i64 (pv b (H3 b p) p) else .int .i64 (A j))) :
    IsCh W B R ao N c M g b (fun j => if j = p then pv b (H3 b p) p else A j) (D.put (.int .u32 (H3 b p)) (.lit (.int .i64 p))) (p + 1) := by
  have hl := h.rd.len
  have him := h.map.isMap
  have hother : ∀ x : Int, x ≠ H3 b p → pv b x (p + 1) = pv b x p := fun x hx => pv_other b x p (fun e => hx e.2.symm)
  have hsame : pv b (H3 b p) (p + 1) = p := pv_same b p (by omega)
  have hne : ∀ x : Int, x ≠ H3 b p → Lit.int .u32 x ≠ Lit.int .u32 (H3 b p) := fun x hx e => hx (by injection e)
  refine ⟨hr, hrd, hm, ?_, ?_, ha.congr (fun i _ => by split <;> rfl), ?_, h.low, h.src⟩
  · intro x x0 x1 hx
    by_cases he : x = H3 b p
    · rw [he, hsame] at hx; omega
    · rw [hother x he] at hx
      rw [has_put_other (hne x he)]
      exact h.no x x0 x1 hx
  · intro x x0 x1 hx
    by_cases he : x = H3 b p
    · rw [he, hsame]
      exact ⟨has_put_same him (by trivial) _, atKey_put_same him (by trivial) _ _⟩
    · rw [hother x he] at hx ⊢
      rw [has_put_other (hne x he), atKey_put_other (hne x he)]
      exact h.yes x x0 x1 hx
  · intro j hj h3'
    by_cases he : j = p
    · subst he
      simp
    · rw [if_neg he]
      exact h.link j (by omega) h3'

set_option maxRecDepth 100000 in
set_option maxHeartbeats 1000000 in
theorem add_any (B R : Nat) (ao : Option Addr) (N c M g : Nat) (b : List Int) (A : Nat → Int) (D : DataW Unit) (p : Nat) (w : World) (h : IsCh w B R ao N c M g b A D p) (hN : N ≤ 1000000) (hp : p < N) :
    Calls Tryz.prog 44 #[.pointer (some ⟨R, 0, none⟩), .int .i64 p] w fun e w' => ∃ A' D', e = .returned (.tuple #[]) ∧ IsCh w' B R ao N c M g b A' D' (p + 1) ∧ Fr (fun k => k = M ∨ k = g) w w' := by
  by_cases hj3 : p + 3 ≤ N
  · have hh := hash_yes R ao N c M g b p w h.row h.rd hj3 hN
    have hf := fun W (hW : Below w.heap.size w W) => first_any B R ao N c M g b A D p p W (h.keep hW) hN (by omega)
    have e : fst3 b N p p = pv b (H3 b p) p := if_pos hj3
    rw [e] at hf
    have HC : Hid (IsCh w B R ao N c M g b A D p) := h
    have HNE : Hid (R ≠ g ∧ R ≠ M ∧ M ≠ g) := h.apart
    have HAdd : Hid (∀ W : World, W.rowIs R 114 3 (chc ao N c M g) → Rd W ao N c b → W.ownsMap Tryz.prog 39 (plainElem Tryz.prog 3) M (p + 1) (D.put (.int .u32 (H3 b p)) (.lit (.int .i64 p))) → W.rowIs g 3 N (fun j => if j = p then .int .i64 (pv b (H3 b p) p) else .int .i64 (A j)) → IsCh W B R ao N c M g b (fun j => if j = p then pv b (H3 b p) p else A j) (D.put (.int .u32 (H3 b p)) (.lit (.int .i64 p))) (p + 1)) := fun W => h.added hj3
    have hrg := H3_range h.rd.byt p
    have hkey := keyOf_int_mk (P := Tryz.prog) (k := 39) Tryz.underlying39 (u32_wf _ hrg.1 (by omega))
    clear h e
    go_enter Tryz.func44, Tryz.ntmps44
    go_wp2_with fail
    refine hh.mono ?_
    rintro e w1 ⟨rfl, hb1⟩
    have h1 := HC.out.keep hb1
    have c1 := h1.row.cell (i := 1) (by omega)
    have c2 := h1.row.cell (i := 2) (by omega)
    have a0 := h1.ahd.cell (i := p) (by omega)
    have a1 := h1.ahd.frozen p
    simp only [chc] at c1 c2
    generalize pv b (H3 b p) p = y at *
    go_wp2_with fail
    go_region_with (go_at_call 70; refine (hf _ (hb1.trans ((drew_keep w1).mono hb1.size))).mono ?_; rintro e w2 ⟨rfl, hb2⟩; have h2 := (h1.keep (drew_keep w1)).keep hb2; have a2 := h2.ahd.cell (i := p) (by omega); have a3 := h2.ahd.frozen p; have c3 := h2.row.cell (i := 2) (by omega); simp only [chc] at c3)
    all_goals
      have h3 := (h2.ahd.set p (.int .i64 y))
      have r3 := h2.row.setOther (a := ⟨g, p, none⟩) HNE.out.1 (.int .i64 y)
      have m3 := h2.map.setCell (a := ⟨g, p, none⟩) HNE.out.2.2 (.int .i64 y)
      have F3 : Fr (fun k => k = M ∨ k = g) w (w2.setCell ⟨g, p, none⟩ (.int .i64 y)) := (((Fr.ofBelow hb1).trans (P' := fun _ => False) (Fr.ofBelow ((drew_keep w1).trans (hb2.mono (Nat.le_refl _)))) (fun _ _ h => h.elim)).setCell (p := ⟨g, p, none⟩) (.inr rfl) _)
      have d3 := h2.rd.fr ((Fr.refl (fun k => k = g) w2).setCell (p := ⟨g, p, none⟩) rfl (.int .i64 y)) (fun ad e hn e2 => by have := h2.src ad e hn; have := h2.low; omega)
      have c1 := r3.cell (i := 1) (by omega)
      simp only [chc] at c1
      generalize w2.setCell ⟨g, p, none⟩ (.int .i64 y) = W at *
      clear hf hh h1 a0 a1 c2 h2 a2 a3 c3 hb2
      go_wp2_with (at_mapUpdate; refine wpList_mapUpdate_own _ rfl _ _ _ 112 rfl 39 3 Tryz.law57 Tryz.underlying112 _ M p _ rfl m3 (by unfold maxLen; omega) _ _ _ rfl rfl hkey _ [] (plainElem_int Tryz.underlying3 (WalkArith.wf_i64 (by omega))) ?_; intro w4 m4 g4)
      go_end0
      have F4 : Fr (fun k => k = M) W w4 := (Fr.refl _ W).grown g4 (fun k _ e => by cases e; rfl)
      refine ⟨rfl, ⟨_, _, HAdd.out w4 (rowIs_fr r3 F4 HNE.out.2.1) (d3.fr F4 (fun ad e hn e2 => by have := HC.out.src ad e hn; have := HC.out.low; omega)) m4 (rowIs_fr h3 F4 (fun e => HNE.out.2.2 e.symm))⟩, F3.trans F4 (fun _ _ e => .inl e)⟩
  · have hh := hash_no R ao N c M g p w h.row (by omega) hN (by omega)
    have HC : Hid (IsCh w B R ao N c M g b A D p) := h
    clear h
    go_enter Tryz.func44, Tryz.ntmps44
    go_wp2_with fail
    refine hh.mono ?_
    rintro e w1 ⟨rfl, hb1⟩
    go_wp2
    go_end0
    have hpv : ∀ h, pv b h (p + 1) = pv b h p := fun h => pv_other b h p (fun hh => by have := HC.out.rd.len; omega)
    have h1 := HC.out.keep hb1
    exact ⟨A, D, rfl, ⟨h1.row, h1.rd, h1.map.mono (by omega), (fun h h0 h9 hh => by rw [hpv] at hh; exact h1.no h h0 h9 hh), (fun h h0 h9 hh => by rw [hpv] at hh ⊢; exact h1.yes h h0 h9 hh), h1.ahd, (fun j hj h3 => h1.link j (by omega) h3), h1.low, h1.src⟩, Fr.ofBelow hb1⟩

end Go.Proofs.YtiahbicodlgmhaaGreatDoor.Lzz

/- The walk along a chain, as plain mathematics. -/
namespace Go.Proofs.YtiahbicodlgmhaaGreatDoor.Lzz
open Go.RowKit

/-- Behind k steps along the chain of p: y is the place to come, l, n, d the best token. -/
structure Lb (b : List Int) (p m k : Nat) (y l : Int) (n d : Nat) : Prop where
  bst : (n = 0 ∧ d = 0 ∧ l = b.getD p 0) ∨ (l = 0 ∧ 3 ≤ n ∧ 1 ≤ d ∧ d ≤ 32768 ∧ d ≤ p ∧ ∀ i, i < n → b.getD (p + i) 0 = b.getD (p + i - d) 0)
  nm : n ≤ m
  ylo : -1 ≤ y
  yhi : y + k < p
  chn : 0 ≤ y → p + 3 ≤ b.length ∧ y.toNat + 3 ≤ b.length ∧ H3 b y.toNat = H3 b p
  mis : ∀ q, Per b q → 1 ≤ q → q ≤ p → p + 3 ≤ b.length → n < m → ((p - q : Nat) : Int) ≤ y

theorem per_H3 {b : List Int} {q p : Nat} (h : Per b q) (hq : q ≤ p) (hp : p + 3 ≤ b.length) : H3 b (p - q) = H3 b p := by
  have h0 := h p hq (by omega)
  have h1 := h (p + 1) (by omega) (by omega)
  have h2 := h (p + 2) (by omega) (by omega)
  rw [show p + 1 - q = p - q + 1 by omega] at h1
  rw [show p + 2 - q = p - q + 2 by omega] at h2
  unfold H3
  rw [h0, h1, h2]

theorem Lb.start (b : List Int) (p m : Nat) : Lb b p m 0 (if p + 3 ≤ b.length then pv b (H3 b p) p else -1) (b.getD p 0) 0 0 := by
  have hl := pv_lt b (H3 b p) p
  refine ⟨.inl ⟨rfl, rfl, rfl⟩, by omega, by split <;> omega, by split <;> omega, ?_, ?_⟩
  · intro h
    split at h
    · rename_i h3
      rw [if_pos h3]
      obtain ⟨i, hi⟩ : ∃ i : Nat, pv b (H3 b p) p = i := ⟨(pv b (H3 b p) p).toNat, by omega⟩
      rw [hi]
      have := pv_spec b (H3 b p) p i hi
      exact ⟨h3, this.2.1, this.2.2⟩
    · omega
  · intro q hq q1 qp h3 _
    rw [if_pos h3]
    exact pv_max b (H3 b p) p (p - q) (by omega) (by omega) (per_H3 hq qp h3)

/-- What comes behind the place i of p's chain. -/
def nx (b : List Int) (i : Nat) : Int := pv b (H3 b i) i

theorem Lb.next {b : List Int} {p m k n d n' d' : Nat} {i : Nat} {l l' : Int} (h : Lb b p m k i l n d) (hb : (n' = 0 ∧ d' = 0 ∧ l' = b.getD p 0) ∨ (l' = 0 ∧ 3 ≤ n' ∧ 1 ≤ d' ∧ d' ≤ 32768 ∧ d' ≤ p ∧ ∀ i, i < n' → b.getD (p + i) 0 = b.getD (p + i - d') 0)) (hm : n' ≤ m) (hnn : n ≤ n')
    (hq : ∀ q, Per b q → 1 ≤ q → q ≤ p → p + 3 ≤ b.length → n' < m → p - q ≠ i) : Lb b p m (k + 1) (nx b i) l' n' d' := by
  have hl := pv_lt b (H3 b i) i
  have hy := h.yhi
  obtain ⟨c1, c2, c3⟩ := h.chn (by omega)
  simp only [Int.toNat_natCast] at c2 c3
  refine ⟨hb, hm, hl.1, by unfold nx; omega, ?_, ?_⟩
  · intro hh
    obtain ⟨j, hj⟩ : ∃ j : Nat, nx b i = j := ⟨(nx b i).toNat, by omega⟩
    rw [hj]
    have := pv_spec b (H3 b i) i j hj
    exact ⟨c1, this.2.1, this.2.2.trans c3⟩
  · intro q q0 q1 qp h3 hlt
    have a := h.mis q q0 q1 qp h3 (by omega)
    have a' := hq q q0 q1 qp h3 hlt
    have e := per_H3 q0 qp h3
    exact pv_max b (H3 b i) i (p - q) (by omega) (by omega) (by rw [e, c3])

/-- A byte tells that it is no longer. -/
theorem Lb.skip {b : List Int} {p m k n d i : Nat} {l : Int} (h : Lb b p m k i l n d) (hm : p + m ≤ b.length) (hn : n < m) (hne : b.getD (i + n) 0 ≠ b.getD (p + n) 0) : Lb b p m (k + 1) (nx b i) l n d := by
  refine h.next h.bst h.nm (Nat.le_refl _) ?_
  rintro q q0 q1 qp h3 hlt rfl
  have := q0 (p + n) (by omega) (by omega)
  rw [show p + n - q = p - q + n by omega] at this
  exact hne this.symm

/-- It is as long, or less. -/
theorem Lb.less {b : List Int} {p m k n d i n' : Nat} {l : Int} (h : Lb b p m k i l n d) (hm : p + m ≤ b.length) (hn : n < m) (hs : Sm b i p m n') (hle : n' ≤ n) : Lb b p m (k + 1) (nx b i) l n d := by
  refine h.next h.bst h.nm (Nat.le_refl _) ?_
  rintro q q0 q1 qp h3 hlt rfl
  have := q0 (p + n') (by omega) (by omega)
  rw [show p + n' - q = p - q + n' by omega] at this
  exact hs.2.2 (by omega) this.symm

/-- It is longer. -/
theorem Lb.more {b : List Int} {p m k n d i n' : Nat} {l : Int} (hbt : ∀ x ∈ b, 0 ≤ x ∧ x < 256) (h : Lb b p m k i l n d) (hm : p + m ≤ b.length) (hm3 : p + 3 ≤ b.length → 3 ≤ m) (hs : Sm b i p m n') (hlt : n < n') (hd : p - i ≤ 32768) : Lb b p m (k + 1) (nx b i) 0 n' (p - i) := by
  have hy := h.yhi
  obtain ⟨c1, c2, c3⟩ := h.chn (by omega)
  simp only [Int.toNat_natCast] at c2 c3
  have h3 : 3 ≤ n' := by
    rcases Nat.lt_or_ge n' 3 with h' | h'
    · exfalso
      have := H3_inj hbt c3 n' h'
      exact hs.2.2 (by have := hm3 c1; omega) this
    · exact h'
  refine h.next (.inr ⟨rfl, h3, by omega, hd, by omega, ?_⟩) hs.1 (by omega) ?_
  · intro j hj
    rw [← hs.2.1 j hj, show p + j - (p - i) = i + j by omega]
  · rintro q q0 q1 qp _ hlt rfl
    have := q0 (p + n') (by omega) (by omega)
    rw [show p + n' - q = p - q + n' by omega] at this
    exact hs.2.2 hlt this.symm

theorem Lb.good {b : List Int} {p m k n d : Nat} {y l : Int} (h : Lb b p m k y l n d) (hm : p + m ≤ b.length) (hm2 : m ≤ 258) : Good b p (l, (n : Int), (d : Int)) := by
  have := h.nm
  rcases h.bst with ⟨rfl, rfl, rfl⟩ | ⟨rfl, h1, h2, h3, h4, h5⟩
  · exact .inl rfl
  · exact .inr ⟨n, d, rfl, h1, by omega, h2, h3, h4, by omega, h5⟩

/-- What was found at the walk's end. -/
theorem Lb.done {b : List Int} {p m k n d : Nat} {y l eff : Int} (h : Lb b p m k y l n d) (hm : m = min 258 (b.length - p)) (hend : eff ≤ k ∨ m ≤ n ∨ y = -1 ∨ 32768 < (p : Int) - y) :
    ∀ q, Per b q → 1 ≤ q → (q : Int) ≤ eff → q ≤ 32768 → q ≤ p → p + 3 ≤ b.length → sz (l, (n : Int), (d : Int)) = min 258 (b.length - p) := by
  intro q q0 q1 qe q2 qp h3
  have hnm : n = m := by
    rcases Nat.lt_or_ge n m with hlt | hge
    · exfalso
      have a := h.mis q q0 q1 qp h3 hlt
      have := h.yhi
      omega
    · have := h.nm
      omega
  have h3m : 3 ≤ m := by omega
  rw [← hm, ← hnm]
  have : ¬ ((n : Int) = 0) := by omega
  simp only [sz]
  rw [if_neg this, if_neg (by omega)]
  omega

end Go.Proofs.YtiahbicodlgmhaaGreatDoor.Lzz
