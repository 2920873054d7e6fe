/- newBlock. -/
import Derived.Test.YtiahbicodlgmhaaGreatDoorM22
namespace Go.Proofs.YtiahbicodlgmhaaGreatDoor.Z
open Go.RowKit

/-- The cells of a block. -/
def bkc (d : Value) (last : Bool) (st c0 c1 : Value) (ex : Int) (f0 f1 tg : Value) : Nat → Value
  | 0 => d
  | 1 => .bool last
  | 2 => st
  | 3 => c0
  | 4 => c1
  | 5 => .int .i64 ex
  | 6 => f0
  | 7 => f1
  | _ => tg

/-- How many bits stand behind the symbols. -/
def exs : List Stp → Int
  | [] => 0
  | s :: ss => s.2.2.2 + exs ss

theorem exs_app (a b : List Stp) : exs (a ++ b) = exs a + exs b := by
  induction a with
  | nil => simp [exs]
  | cons s a ih => simp only [List.cons_append, exs, ih]; omega

/-- A step of a block. -/
def okB (s : Stp) : Prop := ((s.1 = 0 ∧ 0 ≤ s.2.1 ∧ s.2.1 < 286) ∨ (s.1 = 1 ∧ 0 ≤ s.2.1 ∧ s.2.1 < 30)) ∧ 0 ≤ s.2.2.2 ∧ s.2.2.2 ≤ 13

theorem stp_okB {i : It} (h : i.ok) : ∀ s ∈ stp i, okB s := by
  cases i with
  | lit b =>
    intro s hs
    have hb : b < 256 := h
    simp only [stp, List.mem_singleton] at hs
    subst hs
    exact ⟨.inl ⟨rfl, by simp, by simp; omega⟩, by simp, by simp⟩
  | cpy t v d u =>
    obtain ⟨h1, h2, h3, h4, h5⟩ := h
    have e1 := (lb_le t (by omega) h1).2.2
    have e2 := (db_le d h4).2.2
    intro s hs
    simp only [stp, List.mem_cons, List.not_mem_nil, or_false] at hs
    rcases hs with rfl | rfl
    · exact ⟨.inl ⟨rfl, by simp, by simp; omega⟩, by simp, by simp; omega⟩
    · exact ⟨.inr ⟨rfl, by simp, by simp; omega⟩, by simp, by simp; omega⟩

theorem stps_okB {l : List It} (h : ∀ i ∈ l, i.ok) : ∀ s ∈ stps l ++ [eos], okB s := by
  intro s hs
  rcases List.mem_append.1 hs with h' | h'
  · obtain ⟨i, hi, hs'⟩ := List.mem_flatMap.1 h'
    exact stp_okB (h i hi) s hs'
  · obtain rfl : s = eos := by simpa using h'
    exact ⟨.inl ⟨rfl, by simp [eos], by simp [eos]⟩, by simp [eos], by simp [eos]⟩

theorem exs_bound {ss : List Stp} (h : ∀ s ∈ ss, okB s) : 0 ≤ exs ss ∧ exs ss ≤ 13 * ss.length := by
  induction ss with
  | nil => simp [exs]
  | cons s ss ih =>
    have h1 := h s (by simp)
    have h2 := ih (fun x hx => h x (by simp [hx]))
    simp only [exs, List.length_cons]
    have := h1.2
    omega

theorem exs_take (ss : List Stp) (k : Nat) (h : ∀ s ∈ ss, okB s) : 0 ≤ exs (ss.take k) ∧ exs (ss.take k) ≤ 13 * ss.length := by
  have := exs_bound (ss := ss.take k) (fun s hs => h s (List.mem_of_mem_take hs))
  rw [List.length_take] at this
  omega

theorem size66 : (Tryz.prog.info? 66).map (·.size) = some 9 := by kernel_rfl

/-- A block in memory; all of it lies from lo on, below K. -/
structure Bk (w : World) (x lo K : Nat) (d : Value) (last : Bool) (is : List It) (sa : Option Addr) (sc g0 g1 f0 f1 T R0 R1 Rb nl nd vn : Nat) (L0 L1 Lc : Nat → Int) (qs : List Cl) (oa oc ca : Nat) (ta : Option Addr) (tc : Nat) : Prop where
  row : w.rowIs x 66 9 (bkc d last (.slice sa (stps is ++ [eos]).length sc) (.slice (some ⟨g0, 0, none⟩) 286 286) (.slice (some ⟨g1, 0, none⟩) 30 30) (exs (stps is ++ [eos])) (.pointer (some ⟨f0, 0, none⟩)) (.pointer (some ⟨f1, 0, none⟩)) (.pointer (some ⟨T, 0, none⟩)))
  ss : Ss w sa (stps is ++ [eos]).length (stps is ++ [eos])
  c0 : w.rowIs g0 3 286 (fun j => .int .i64 (tl 0 (stps is ++ [eos]) j))
  c1 : w.rowIs g1 3 30 (fun j => .int .i64 (tl 1 (stps is ++ [eos]) j))
  x0 : Cx w f0 lo K fl 288
  x1 : Cx w f1 lo K dl 32
  tg : Tg w T lo K (tl 0 (stps is ++ [eos])) (tl 1 (stps is ++ [eos])) R0 R1 Rb nl nd vn L0 L1 Lc qs oa oc ca ta tc
  bx : lo ≤ x ∧ x < K
  bs : ∀ ad, sa = some ad → lo ≤ ad.block ∧ ad.block < K
  b0 : lo ≤ g0 ∧ g0 < K
  b1 : lo ≤ g1 ∧ g1 < K

theorem Tg.wide {w : World} {T lo K lo' K' : Nat} {D0 D1 : Nat → Int} {R0 R1 Rb nl nd vn : Nat} {L0 L1 Lc : Nat → Int} {qs : List Cl} {oa oc ca : Nat} {sa : Option Addr} {sc : Nat} (h : Tg w T lo K D0 D1 R0 R1 Rb nl nd vn L0 L1 Lc qs oa oc ca sa sc) (hl : lo' ≤ lo) (hk : K ≤ K') (hw : K' ≤ w.heap.size) : Tg w T lo' K' D0 D1 R0 R1 Rb nl nd vn L0 L1 Lc qs oa oc ca sa sc :=
  ⟨h.row, ⟨(h.t0.cx.lower hl).upper hk hw, h.t0.gb, h.t0.ls, h.t0.le, h.t0.zr⟩, ⟨(h.t1.cx.lower hl).upper hk hw, h.t1.gb, h.t1.ls, h.t1.le, h.t1.zr⟩, (h.cb.lower hl).upper hk hw, h.gc, h.od, h.v4, h.v19, h.vz, h.ct, h.st, h.rn, ⟨by have := h.bT; omega, by have := h.bT; omega⟩, ⟨by have := h.bo; omega, by have := h.bo; omega⟩, ⟨by have := h.bc; omega, by have := h.bc; omega⟩, fun ad had => ⟨by have := h.bs ad had; omega, by have := h.bs ad had; omega⟩⟩

theorem Bk.mid {w w' : World} {x lo K : Nat} {d : Value} {last : Bool} {is : List It} {sa : Option Addr} {sc g0 g1 f0 f1 T R0 R1 Rb nl nd vn : Nat} {L0 L1 Lc : Nat → Int} {qs : List Cl} {oa oc ca : Nat} {ta : Option Addr} {tc : Nat} (h : Bk w x lo K d last is sa sc g0 g1 f0 f1 T R0 R1 Rb nl nd vn L0 L1 Lc qs oa oc ca ta tc) (hm : Mid lo K w w') : Bk w' x lo K d last is sa sc g0 g1 f0 f1 T R0 R1 Rb nl nd vn L0 L1 Lc qs oa oc ca ta tc :=
  ⟨h.row.of_block (hm.blk _ h.bx.1 h.bx.2), h.ss.of (fun ad had => hm.blk _ (h.bs ad had).1 (h.bs ad had).2), h.c0.of_block (hm.blk _ h.b0.1 h.b0.2), h.c1.of_block (hm.blk _ h.b1.1 h.b1.2), h.x0.mid hm, h.x1.mid hm, h.tg.mid hm, h.bx, h.bs, h.b0, h.b1⟩

set_option maxRecDepth 100000 in
set_option maxHeartbeats 4000000 in
theorem newBlock_any (da : Option Addr) (dn dc : Nat) (ao : Option Addr) (n c : Nat) (ts : List Lzz.Tok) (last : Bool) (w : World) (h : Lzz.Tk w ao n ts) (hn : n ≤ 20000) (hok : ∀ t ∈ ts, okS t) (hT : Tab w 1) :
    Calls Tryz.prog 39 #[.slice da dn dc, .slice ao n c, .bool last] w fun e w' => ∃ x is, e = .returned (.pointer (some ⟨x, 0, none⟩)) ∧ Its ts is ∧ (∃ sa sc g0 g1 f0 f1 T R0 R1 Rb nl nd vn L0 L1 Lc qs oa oc ca ta tc, Bk w' x w.heap.size w'.heap.size (.slice da dn dc) last is sa sc g0 g1 f0 f1 T R0 R1 Rb nl nd vn L0 L1 Lc qs oa oc ca ta tc) ∧ Below w.heap.size w w' := by
  obtain ⟨i0, hi, hz0, hz1, hz2⟩ := info_parts Tryz.info3
  have hm1 : ∀ W, (Instr.makeSlice 59 (.int .i64 286) (.int .i64 286)).run Tryz.prog W = .ok (.slice (some ⟨W.heap.size, 0, none⟩) 286 286) (W.alloc (.cells (madeCells #[.int .i64 0] 286) 3)) := fun W => run_make_row (P := Tryz.prog) 59 3 i0 (.int .i64 0) Tryz.underlying59 hi hz0 hz1 rfl .i64 .i64 286 (by rw [hz2]; omega) (by omega) W
  have hm2 : ∀ W, (Instr.makeSlice 59 (.int .i64 30) (.int .i64 30)).run Tryz.prog W = .ok (.slice (some ⟨W.heap.size, 0, none⟩) 30 30) (W.alloc (.cells (madeCells #[.int .i64 0] 30) 3)) := fun W => run_make_row (P := Tryz.prog) 59 3 i0 (.int .i64 0) Tryz.underlying59 hi hz0 hz1 rfl .i64 .i64 30 (by rw [hz2]; omega) (by omega) W
  have hst := stepsOf_any ao n c ts w h hn hok
  have hlt := h.len
  have HT : Hid (Tab w 1) := hT
  clear h hok hT
  go_enter Tryz.func39, Tryz.ntmps39
  go_wp2_with fail
  refine hst.mono ?_
  rintro e w1 ⟨v, is, rfl, hits, ho, hb1⟩
  obtain ⟨sa, sc, rfl, hsc, hss, _, hsb⟩ := own_ss ho
  obtain ⟨ss, hsse⟩ : ∃ ss, ss = stps is ++ [eos] := ⟨_, rfl⟩
  have hokB : ∀ s ∈ ss, okB s := by rw [hsse]; exact stps_okB hits.ok
  have HIS : Hid (Its ts is ∧ ss = stps is ++ [eos]) := ⟨hits, hsse⟩
  rw [← hsse] at ho hss hsb hsc ⊢
  have hlen : ss.length ≤ 40001 := by
    rw [hsse, List.length_append]
    have := stps_le is
    have := hits.len
    have := hlt
    simp only [List.length_singleton]
    omega
  obtain ⟨m, hm⟩ : ∃ m, m = ss.length := ⟨_, rfl⟩
  have HM : Hid (m = ss.length) := hm
  rw [← hm] at ho hss hsb hsc hlen ⊢
  have HOK : Hid (∀ s ∈ ss, okB s) := hokB
  have H1 : Hid (Below w.heap.size w w1 ∧ Ss w1 sa m ss ∧ (∀ ad, sa = some ad → w.heap.size ≤ ad.block ∧ ad.block < w1.heap.size)) := ⟨hb1, hss, fun ad had => ⟨(hsb ad had).2.1, (ho.lt _ (hsb ad had).1).2⟩⟩
  have rX : ∀ a b, (((w1.alloc (Obj.cells #[.slice da dn dc, .bool last, .slice sa m sc, .slice none 0 0, .slice none 0 0, .int .i64 0, .pointer none, .pointer none, .pointer none] 66)).alloc a).alloc b).drew.rowIs w1.heap.size 66 9 (bkc (.slice da dn dc) last (.slice sa m sc) (.slice none 0 0) (.slice none 0 0) 0 (.pointer none) (.pointer none) (.pointer none)) := fun a b => (((World.rowIs_alloc w1 _ 66 _ (fun i hi => by simp at hi; rcases i with _ | _ | _ | _ | _ | _ | _ | _ | _ | i <;> first | rfl | omega)).alloc a).alloc b).drew
  have x3 := fun a b => (rX a b).cell (i := 3) (by omega)
  have x4 := fun a b => (rX a b).cell (i := 4) (by omega)
  have y3 := fun a b => (rX a b).frozen 3
  have y4 := fun a b => (rX a b).frozen 4
  simp only [bkc] at x3 x4
  have HRX : Hid (∀ a b, (((w1.alloc (Obj.cells #[.slice da dn dc, .bool last, .slice sa m sc, .slice none 0 0, .slice none 0 0, .int .i64 0, .pointer none, .pointer none, .pointer none] 66)).alloc a).alloc b).drew.rowIs w1.heap.size 66 9 (bkc (.slice da dn dc) last (.slice sa m sc) (.slice none 0 0) (.slice none 0 0) 0 (.pointer none) (.pointer none) (.pointer none))) := rX
  clear hst hits hsse hokB ho hss hsb hm hb1 hsc rX
  go_wp2_with fail
  go_region
  · obtain ⟨W2, hW2⟩ : ∃ W2, W2 = (((w1.alloc (Obj.cells #[.slice da dn dc, .bool last, .slice sa m sc, .slice (some ⟨w1.heap.size + 1, 0, none⟩) 286 286, .slice (some ⟨w1.heap.size + 1 + 1, 0, none⟩) 30 30, .int .i64 0, .pointer none, .pointer none, .pointer none] 66)).alloc (Obj.cells (madeCells #[Value.int .i64 0] 286) 3)).alloc (Obj.cells (madeCells #[Value.int .i64 0] 30) 3)).drew := ⟨_, rfl⟩
    obtain ⟨X, hX⟩ : ∃ X, X = w1.heap.size := ⟨_, rfl⟩
    obtain ⟨g0, hg0⟩ : ∃ g0, g0 = w1.heap.size + 1 := ⟨_, rfl⟩
    obtain ⟨g1, hg1⟩ : ∃ g1, g1 = w1.heap.size + 1 + 1 := ⟨_, rfl⟩
    have bA : Below w1.heap.size w1 W2 := by
      rw [hW2]
      have e1 : Below w1.heap.size w1 (w1.alloc (Obj.cells #[.slice da dn dc, .bool last, .slice sa m sc, .slice (some ⟨w1.heap.size + 1, 0, none⟩) 286 286, .slice (some ⟨w1.heap.size + 1 + 1, 0, none⟩) 30 30, .int .i64 0, .pointer none, .pointer none, .pointer none] 66)) := (Below.refl _ _).alloc (Nat.le_refl _) _
      have e2 := e1.alloc e1.size (Obj.cells (madeCells #[Value.int .i64 0] 286) 3)
      exact (e2.alloc e2.size (Obj.cells (madeCells #[Value.int .i64 0] 30) 3)).drew
    have rX2 : W2.rowIs X 66 9 (bkc (.slice da dn dc) last (.slice sa m sc) (.slice (some ⟨g0, 0, none⟩) 286 286) (.slice (some ⟨g1, 0, none⟩) 30 30) 0 (.pointer none) (.pointer none) (.pointer none)) := by
      rw [hW2, hX, hg0, hg1]
      exact (((World.rowIs_alloc w1 _ 66 _ (fun i hi => by simp at hi; rcases i with _ | _ | _ | _ | _ | _ | _ | _ | _ | i <;> first | rfl | omega)).alloc _).alloc _).drew
    have rg0 : W2.rowIs g0 3 286 (fun _ => .int .i64 0) := by
      have e := ((made_row (w1.alloc (Obj.cells #[.slice da dn dc, .bool last, .slice sa m sc, .slice (some ⟨w1.heap.size + 1, 0, none⟩) 286 286, .slice (some ⟨w1.heap.size + 1 + 1, 0, none⟩) 30 30, .int .i64 0, .pointer none, .pointer none, .pointer none] 66)) 286).alloc (Obj.cells (madeCells #[Value.int .i64 0] 30) 3)).drew
      rw [← hW2, show (w1.alloc (Obj.cells #[.slice da dn dc, .bool last, .slice sa m sc, .slice (some ⟨w1.heap.size + 1, 0, none⟩) 286 286, .slice (some ⟨w1.heap.size + 1 + 1, 0, none⟩) 30 30, .int .i64 0, .pointer none, .pointer none, .pointer none] 66)).heap.size = w1.heap.size + 1 by simp, ← hg0] at e
      exact e
    have rg1 : W2.rowIs g1 3 30 (fun _ => .int .i64 0) := by
      have e := (made_row ((w1.alloc (Obj.cells #[.slice da dn dc, .bool last, .slice sa m sc, .slice (some ⟨w1.heap.size + 1, 0, none⟩) 286 286, .slice (some ⟨w1.heap.size + 1 + 1, 0, none⟩) 30 30, .int .i64 0, .pointer none, .pointer none, .pointer none] 66)).alloc (Obj.cells (madeCells #[Value.int .i64 0] 286) 3)) 30).drew
      rw [← hW2, show ((w1.alloc (Obj.cells #[.slice da dn dc, .bool last, .slice sa m sc, .slice (some ⟨w1.heap.size + 1, 0, none⟩) 286 286, .slice (some ⟨w1.heap.size + 1 + 1, 0, none⟩) 30 30, .int .i64 0, .pointer none, .pointer none, .pointer none] 66)).alloc (Obj.cells (madeCells #[Value.int .i64 0] 286) 3)).heap.size = w1.heap.size + 1 + 1 by simp, ← hg1] at e
      exact e
    have HNE : Hid (w1.heap.size ≤ X ∧ X < g0 ∧ X < g1 ∧ g0 ≠ g1) := ⟨by omega, by omega, by omega, by omega⟩
    rw [← hW2, ← hg1, ← hg0, ← hX]
    obtain ⟨q1, q2, q3⟩ := H1.out
    have ss2 := q2.keep bA
    have xx2 := rX2.cell (i := 2) (by omega)
    simp only [bkc] at xx2
    have H2 : Hid (Below w.heap.size w W2 ∧ Ss W2 sa m ss ∧ (∀ ad, sa = some ad → w.heap.size ≤ ad.block ∧ ad.block < X) ∧ w.heap.size ≤ X) := ⟨q1.trans (bA.mono q1.size), ss2, fun ad had => by have := q3 ad had; omega, by have := q1.size; omega⟩
    have HL0 : Hid (W2.rowIs g0 3 286 (fun j => .int .i64 (tl 0 (ss.take 0) j)) ∧ W2.rowIs g1 3 30 (fun j => .int .i64 (tl 1 (ss.take 0) j)) ∧ W2.rowIs X 66 9 (bkc (.slice da dn dc) last (.slice sa m sc) (.slice (some ⟨g0, 0, none⟩) 286 286) (.slice (some ⟨g1, 0, none⟩) 30 30) (exs (ss.take 0)) (.pointer none) (.pointer none) (.pointer none))) := ⟨rg0, rg1, rX2⟩
    have HX2 : Hid (X < W2.heap.size) := rX2.lt
    clear q1 q2 q3 ss2 bA rX2 rg0 rg1 hW2 hX hg0 hg1 x3 x4 y3 y4 HRX hm1 hm2
    go_wp2_with fail
    clear xx2
    go_loopw [27] (fun iv wr => ∃ k : Nat, k ≤ m ∧ iv = .int .i64 k ∧ Hid (wr.rowIs g0 3 286 (fun j => .int .i64 (tl 0 (ss.take k) j)) ∧ wr.rowIs g1 3 30 (fun j => .int .i64 (tl 1 (ss.take k) j)) ∧ wr.rowIs X 66 9 (bkc (.slice da dn dc) last (.slice sa m sc) (.slice (some ⟨g0, 0, none⟩) 286 286) (.slice (some ⟨g1, 0, none⟩) 30 30) (exs (ss.take k)) (.pointer none) (.pointer none) (.pointer none))) ∧ Hid (Fr (fun b => b = X ∨ b = g0 ∨ b = g1) W2 wr)) (fun iv _ => m - (intOf iv).toNat)
    case atStart => exact ⟨0, by omega, rfl, HL0, Fr.refl _ _⟩
    case round =>
      clear HL0
      obtain ⟨k, hk, rfl, HR, HFR⟩ := hrel
      by_cases hlt : k < m
      · obtain ⟨q1, q2, q3, q4⟩ := H2.out
        obtain ⟨r0, r1, rx⟩ := HR.out
        obtain ⟨n1, n2, n3, n4⟩ := HNE.out
        obtain ⟨b, off, hsa, x0, x1, x2, x3⟩ := q2.cells k hlt
        have hbl := q3 _ hsa
        simp only at hbl
        have hblk : wr.heap[b]? = W2.heap[b]? := HFR.out.block b (by have := World.block_lt_of_cell? _ _ x0; exact this) (fun e => by omega)
        have htk : ss.take (k + 1) = ss.take k ++ [ss.getD k sz0] := Lzz.take_one _ sz0 k (by have := HM.out; omega)
        have hmem : ss.getD k sz0 ∈ ss := by
          rw [List.getD, List.getElem?_eq_getElem (by have := HM.out; omega : k < ss.length)]
          simp
        have hOB := HOK.out _ hmem
        obtain ⟨st, hst⟩ : ∃ st, st = ss.getD k sz0 := ⟨_, rfl⟩
        rw [← hst] at x0 x1 x2 x3 htk hOB
        obtain ⟨s0, s1, s2, s3⟩ := st
        simp only at x0 x1 x2 x3
        have y0 : wr.cell? ⟨b, off + k * 4, none⟩ = some (.int .i64 s0) := by rw [World.cell?_of_block (a := ⟨b, off + k * 4, none⟩) hblk]; exact x0
        have y1 : wr.cell? ⟨b, off + k * 4 + 1, none⟩ = some (.int .i64 s1) := by rw [World.cell?_of_block (a := ⟨b, off + k * 4 + 1, none⟩) hblk]; exact x1
        have y2 : wr.cell? ⟨b, off + k * 4 + 2, none⟩ = some (.int .i64 s2) := by rw [World.cell?_of_block (a := ⟨b, off + k * 4 + 2, none⟩) hblk]; exact x2
        have y3 : wr.cell? ⟨b, off + k * 4 + 3, none⟩ = some (.int .i64 s3) := by rw [World.cell?_of_block (a := ⟨b, off + k * 4 + 3, none⟩) hblk]; exact x3
        have hex := exs_take ss k HOK.out
        rw [← HM.out] at hex
        have hE1 : exs (ss.take (k + 1)) = exs (ss.take k) + s3 := by rw [htk, exs_app]; simp [exs]
        obtain ⟨ex, hexe⟩ : ∃ ex, ex = exs (ss.take k) := ⟨_, rfl⟩
        rw [← hexe] at rx hex hE1
        have HE1 : Hid (exs (ss.take (k + 1)) = ex + s3) := hE1
        have h13 : 0 ≤ s3 ∧ s3 ≤ 13 := hOB.2
        subst hsa
        rcases hOB.1 with ⟨c1, c2, c3⟩ | ⟨c1, c2, c3⟩
        · simp only at c1 c2 c3
          subst c1
          obtain ⟨y, rfl⟩ := Int.eq_ofNat_of_zero_le c2
          have hy : y < 286 := by omega
          obtain ⟨tv, htv⟩ : ∃ tv, tv = tl 0 (ss.take k) y := ⟨_, rfl⟩
          have hbd := tl_bound 0 (ss.take k) y
          rw [← htv, List.length_take, ← HM.out] at hbd
          have bX : Below wr.heap.size wr (wr.alloc (Obj.cells #[Value.int .i64 0, Value.int .i64 y, Value.int .i64 s2, Value.int .i64 s3] 109)) := (Below.refl _ _).alloc (Nat.le_refl _) _
          have rMX := r0.of_block (bX.block _ r0.lt)
          have rOX := r1.of_block (bX.block _ r1.lt)
          have rXX := rx.of_block (bX.block _ rx.lt)
          have rYX := step_new wr (0, y, s2, s3) #[Value.int .i64 0, Value.int .i64 y, Value.int .i64 s2, Value.int .i64 s3] rfl
          have zc := rXX.drew.cell (i := 3) (by omega)
          have zm := rMX.drew.cell (i := y) hy
          have zf := rMX.drew.frozen y
          simp only [bkc] at zc
          rw [← htv] at zm
          obtain ⟨W5, hW5⟩ : ∃ W5, W5 = ((wr.alloc (Obj.cells #[Value.int .i64 0, Value.int .i64 y, Value.int .i64 s2, Value.int .i64 s3] 109)).setCell ⟨g0, y, none⟩ (.int .i64 (tv + 1))).drew := ⟨_, rfl⟩
          have F5 : Fr (fun b => b = g0) (wr.alloc (Obj.cells #[Value.int .i64 0, Value.int .i64 y, Value.int .i64 s2, Value.int .i64 s3] 109)) W5 := by rw [hW5]; exact ((Fr.refl (fun b => b = g0) _).setCell rfl _).drew
          have hYg : wr.heap.size ≠ g0 := by have := r0.lt; omega
          have rM5 : W5.rowIs g0 3 286 (fun j => .int .i64 (tl 0 (ss.take (k + 1)) j)) := by
            rw [hW5]
            refine (rMX.set y _).drew.congr (fun j hj => ?_)
            rw [htk, tl_app, tl_one]
            by_cases hjy : j = y
            · subst hjy
              simp [htv]
            · have : ¬ (y : Int) = (j : Int) := by omega
              simp [hjy, this]
          have rO5 : W5.rowIs g1 3 30 (fun j => .int .i64 (tl 1 (ss.take (k + 1)) j)) := (rowIs_fr rOX F5 (fun e => by omega)).congr (fun j hj => by rw [htk, tl_app, tl_one]; simp)
          have rX5 := rowIs_fr rXX F5 (fun e => by omega)
          have rY5 := rowIs_fr rYX F5 (fun e => by omega)
          have f5 := rX5.drew.cell (i := 5) (by omega)
          have g5 := rX5.drew.frozen 5
          have v5 := rY5.drew.cell (i := 3) (by omega)
          simp only [bkc] at f5
          simp only [stc] at v5
          have HRS : Hid ((W5.drew.setCell ⟨X, 5, none⟩ (.int .i64 (ex + s3))).rowIs g0 3 286 (fun j => .int .i64 (tl 0 (ss.take (k + 1)) j)) ∧ (W5.drew.setCell ⟨X, 5, none⟩ (.int .i64 (ex + s3))).rowIs g1 3 30 (fun j => .int .i64 (tl 1 (ss.take (k + 1)) j)) ∧ (W5.drew.setCell ⟨X, 5, none⟩ (.int .i64 (ex + s3))).rowIs X 66 9 (bkc (.slice da dn dc) last (.slice (some ⟨b, off, none⟩) m sc) (.slice (some ⟨g0, 0, none⟩) 286 286) (.slice (some ⟨g1, 0, none⟩) 30 30) (exs (ss.take (k + 1))) (.pointer none) (.pointer none) (.pointer none))) := by
            have F6 : Fr (fun b => b = X) W5 (W5.drew.setCell ⟨X, 5, none⟩ (.int .i64 (ex + s3))) := ((Fr.refl (fun b => b = X) W5).drew).setCell rfl _
            refine ⟨rowIs_fr rM5 F6 (fun e => by omega), rowIs_fr rO5 F6 (fun e => by omega), (rX5.drew.set 5 _).congr (fun i hi => ?_)⟩
            rw [HE1.out]
            rcases i with _ | _ | _ | _ | _ | _ | _ | _ | _ | i <;> first | rfl | omega
          have HFS : Hid (Fr (fun b => b = X ∨ b = g0 ∨ b = g1) W2 (W5.drew.setCell ⟨X, 5, none⟩ (.int .i64 (ex + s3)))) := by
            have F6 : Fr (fun b => b = X) W5 (W5.drew.setCell ⟨X, 5, none⟩ (.int .i64 (ex + s3))) := ((Fr.refl (fun b => b = X) W5).drew).setCell rfl _
            exact (((HFR.out.alloc (Obj.cells #[Value.int .i64 0, Value.int .i64 y, Value.int .i64 s2, Value.int .i64 s3] 109))).trans F5 (fun i _ e => .inr (.inl e))).trans F6 (fun i _ e => .inl e)
          have HW5 : Hid (W5 = ((wr.alloc (Obj.cells #[Value.int .i64 0, Value.int .i64 y, Value.int .i64 s2, Value.int .i64 s3] 109)).setCell ⟨g0, y, none⟩ (.int .i64 (tv + 1))).drew) := hW5
          have hb0 : 0 ≤ tv := hbd.1
          have hb4 : tv ≤ 40001 := by omega
          have he0 : 0 ≤ ex := hex.1
          have he4 : ex ≤ 600000 := by omega
          have h130 := h13.1
          have h131 := h13.2
          clear q1 q2 q3 q4 r0 r1 rx n1 n2 n3 n4 x0 x1 x2 x3 hbl hblk htk hmem hOB hst hex hE1 hexe h13 c2 htv hbd bX rMX rOX rXX rYX hW5 F5 rM5 rO5 rX5 rY5 HR HFR HE1 hYg
          go_wp2_with fail
          go_region
          rw [← HW5.out]
          go_wp2_with fail
          go_region
          go_wp2
          go_roundw
          case rel => exact ⟨k + 1, by omega, by go_num, HRS, HFS⟩
          case measure => simp [intOf]; omega
        · simp only at c1 c2 c3
          subst c1
          obtain ⟨y, rfl⟩ := Int.eq_ofNat_of_zero_le c2
          have hy : y < 30 := by omega
          obtain ⟨tv, htv⟩ : ∃ tv, tv = tl 1 (ss.take k) y := ⟨_, rfl⟩
          have hbd := tl_bound 1 (ss.take k) y
          rw [← htv, List.length_take, ← HM.out] at hbd
          have bX : Below wr.heap.size wr (wr.alloc (Obj.cells #[Value.int .i64 1, Value.int .i64 y, Value.int .i64 s2, Value.int .i64 s3] 109)) := (Below.refl _ _).alloc (Nat.le_refl _) _
          have rMX := r1.of_block (bX.block _ r1.lt)
          have rOX := r0.of_block (bX.block _ r0.lt)
          have rXX := rx.of_block (bX.block _ rx.lt)
          have rYX := step_new wr (1, y, s2, s3) #[Value.int .i64 1, Value.int .i64 y, Value.int .i64 s2, Value.int .i64 s3] rfl
          have zc := rXX.drew.cell (i := 4) (by omega)
          have zm := rMX.drew.cell (i := y) hy
          have zf := rMX.drew.frozen y
          simp only [bkc] at zc
          rw [← htv] at zm
          obtain ⟨W5, hW5⟩ : ∃ W5, W5 = ((wr.alloc (Obj.cells #[Value.int .i64 1, Value.int .i64 y, Value.int .i64 s2, Value.int .i64 s3] 109)).setCell ⟨g1, y, none⟩ (.int .i64 (tv + 1))).drew := ⟨_, rfl⟩
          have F5 : Fr (fun b => b = g1) (wr.alloc (Obj.cells #[Value.int .i64 1, Value.int .i64 y, Value.int .i64 s2, Value.int .i64 s3] 109)) W5 := by rw [hW5]; exact ((Fr.refl (fun b => b = g1) _).setCell rfl _).drew
          have hYg : wr.heap.size ≠ g1 := by have := r1.lt; omega
          have rM5 : W5.rowIs g1 3 30 (fun j => .int .i64 (tl 1 (ss.take (k + 1)) j)) := by
            rw [hW5]
            refine (rMX.set y _).drew.congr (fun j hj => ?_)
            rw [htk, tl_app, tl_one]
            by_cases hjy : j = y
            · subst hjy
              simp [htv]
            · have : ¬ (y : Int) = (j : Int) := by omega
              simp [hjy, this]
          have rO5 : W5.rowIs g0 3 286 (fun j => .int .i64 (tl 0 (ss.take (k + 1)) j)) := (rowIs_fr rOX F5 (fun e => by omega)).congr (fun j hj => by rw [htk, tl_app, tl_one]; simp)
          have rX5 := rowIs_fr rXX F5 (fun e => by omega)
          have rY5 := rowIs_fr rYX F5 (fun e => by omega)
          have f5 := rX5.drew.cell (i := 5) (by omega)
          have g5 := rX5.drew.frozen 5
          have v5 := rY5.drew.cell (i := 3) (by omega)
          simp only [bkc] at f5
          simp only [stc] at v5
          have HRS : Hid ((W5.drew.setCell ⟨X, 5, none⟩ (.int .i64 (ex + s3))).rowIs g0 3 286 (fun j => .int .i64 (tl 0 (ss.take (k + 1)) j)) ∧ (W5.drew.setCell ⟨X, 5, none⟩ (.int .i64 (ex + s3))).rowIs g1 3 30 (fun j => .int .i64 (tl 1 (ss.take (k + 1)) j)) ∧ (W5.drew.setCell ⟨X, 5, none⟩ (.int .i64 (ex + s3))).rowIs X 66 9 (bkc (.slice da dn dc) last (.slice (some ⟨b, off, none⟩) m sc) (.slice (some ⟨g0, 0, none⟩) 286 286) (.slice (some ⟨g1, 0, none⟩) 30 30) (exs (ss.take (k + 1))) (.pointer none) (.pointer none) (.pointer none))) := by
            have F6 : Fr (fun b => b = X) W5 (W5.drew.setCell ⟨X, 5, none⟩ (.int .i64 (ex + s3))) := ((Fr.refl (fun b => b = X) W5).drew).setCell rfl _
            refine ⟨rowIs_fr rO5 F6 (fun e => by omega), rowIs_fr rM5 F6 (fun e => by omega), (rX5.drew.set 5 _).congr (fun i hi => ?_)⟩
            rw [HE1.out]
            rcases i with _ | _ | _ | _ | _ | _ | _ | _ | _ | i <;> first | rfl | omega
          have HFS : Hid (Fr (fun b => b = X ∨ b = g0 ∨ b = g1) W2 (W5.drew.setCell ⟨X, 5, none⟩ (.int .i64 (ex + s3)))) := by
            have F6 : Fr (fun b => b = X) W5 (W5.drew.setCell ⟨X, 5, none⟩ (.int .i64 (ex + s3))) := ((Fr.refl (fun b => b = X) W5).drew).setCell rfl _
            exact (((HFR.out.alloc (Obj.cells #[Value.int .i64 1, Value.int .i64 y, Value.int .i64 s2, Value.int .i64 s3] 109))).trans F5 (fun i _ e => .inr (.inr e))).trans F6 (fun i _ e => .inl e)
          have HW5 : Hid (W5 = ((wr.alloc (Obj.cells #[Value.int .i64 1, Value.int .i64 y, Value.int .i64 s2, Value.int .i64 s3] 109)).setCell ⟨g1, y, none⟩ (.int .i64 (tv + 1))).drew) := hW5
          have hb0 : 0 ≤ tv := hbd.1
          have hb4 : tv ≤ 40001 := by omega
          have he0 : 0 ≤ ex := hex.1
          have he4 : ex ≤ 600000 := by omega
          have h130 := h13.1
          have h131 := h13.2
          clear q1 q2 q3 q4 r0 r1 rx n1 n2 n3 n4 x0 x1 x2 x3 hbl hblk htk hmem hOB hst hex hE1 hexe h13 c2 htv hbd bX rMX rOX rXX rYX hW5 F5 rM5 rO5 rX5 rY5 HR HFR HE1 hYg
          go_wp2_with fail
          go_region
          rw [← HW5.out]
          go_wp2_with fail
          go_region
          go_wp2
          go_roundw
          case rel => exact ⟨k + 1, by omega, by go_num, HRS, HFS⟩
          case measure => simp [intOf]; omega
      · obtain rfl : k = m := by omega
        obtain ⟨q1, q2, q3, q4⟩ := H2.out
        obtain ⟨r0, r1, rx⟩ := HR.out
        have hfull : ss.take k = ss := by rw [HM.out, List.take_length]
        rw [hfull] at r0 r1 rx
        have Br : Below w.heap.size w wr := q1.trans (HFR.out.below _ q1.size (fun i hi e => by have := HNE.out; omega))
        have ssr : Ss wr sa k ss := q2.of (fun ad had => HFR.out.block _ (by have := (q3 ad had).2; have := HNE.out; have := rx.lt; have := q1.size; rcases Nat.lt_or_ge ad.block W2.heap.size with h | h; exact h; exact absurd h (by have := HX2.out; omega)) (fun e => by have := q3 ad had; have := HNE.out; omega))
        have hfc := fixedCoding_any wr
        have HS : Hid (Below w.heap.size w wr ∧ Ss wr sa k ss ∧ wr.rowIs g0 3 286 (fun j => .int .i64 (tl 0 ss j)) ∧ wr.rowIs g1 3 30 (fun j => .int .i64 (tl 1 ss j)) ∧ wr.rowIs X 66 9 (bkc (.slice da dn dc) last (.slice sa k sc) (.slice (some ⟨g0, 0, none⟩) 286 286) (.slice (some ⟨g1, 0, none⟩) 30 30) (exs ss) (.pointer none) (.pointer none) (.pointer none)) ∧ (∀ ad, sa = some ad → w.heap.size ≤ ad.block ∧ ad.block < X) ∧ w.heap.size ≤ X) := ⟨Br, ssr, r0, r1, rx, q3, q4⟩
        clear q1 q2 q3 q4 r0 r1 rx hfull Br ssr HR HFR H2 HX2
        go_wp2_with fail
        refine hfc.mono ?_
        rintro e w3 ⟨f0, f1, rfl, cx0, cx1, hb3⟩
        obtain ⟨s1, s2, s3, s4, s5, s6, s7⟩ := HS.out
        obtain ⟨n1, n2, n3, n4⟩ := HNE.out
        have rx3 := s5.of_block (hb3.block _ s5.lt)
        have z6 := rx3.cell (i := 6) (by omega)
        have z7 := (rx3.set 6 (.pointer (some ⟨f0, 0, none⟩))).cell (i := 7) (by omega)
        have y6 := rx3.frozen 6
        have y7 := (rx3.set 6 (.pointer (some ⟨f0, 0, none⟩))).frozen 7
        have z7' := rx3.cell (i := 7) (by omega)
        have y7' := rx3.frozen 7
        simp only [bkc] at z6 z7 z7'
        obtain ⟨W4, hW4⟩ : ∃ W4, W4 = (w3.setCell ⟨X, 6, none⟩ (.pointer (some ⟨f0, 0, none⟩))).setCell ⟨X, 7, none⟩ (.pointer (some ⟨f1, 0, none⟩)) := ⟨_, rfl⟩
        have F4 : Fr (fun b => b = X) w3 W4 := by rw [hW4]; exact ((Fr.refl (fun b => b = X) w3).setCell rfl _).setCell rfl _
        have rx4 : W4.rowIs X 66 9 (bkc (.slice da dn dc) last (.slice sa k sc) (.slice (some ⟨g0, 0, none⟩) 286 286) (.slice (some ⟨g1, 0, none⟩) 30 30) (exs ss) (.pointer (some ⟨f0, 0, none⟩)) (.pointer (some ⟨f1, 0, none⟩)) (.pointer none)) := by
          rw [hW4]
          exact ((rx3.set 6 _).set 7 _).congr (fun i hi => by rcases i with _ | _ | _ | _ | _ | _ | _ | _ | _ | i <;> first | rfl | omega)
        have hXl := s5.lt
        have w3r := hb3.size
        have md4 : Mid (X + 1) w3.heap.size w3 W4 := Mid.ofFr F4 (Nat.le_refl _) (fun k h1 h2 e => by omega)
        have B3 := s1.trans (hb3.mono s1.size)
        have B4 : Below w.heap.size w W4 := B3.trans (F4.below _ B3.size (fun i hi e => by omega))
        have c04 : Cx W4 f0 (X + 1) W4.heap.size fl 288 := ((cx0.lower (by omega)).mid md4).upper F4.size (Nat.le_refl _)
        have c14 : Cx W4 f1 (X + 1) W4.heap.size dl 32 := ((cx1.lower (by omega)).mid md4).upper F4.size (Nat.le_refl _)
        have r04 : W4.rowIs g0 3 286 (fun j => .int .i64 (tl 0 ss j)) := rowIs_fr (s3.of_block (hb3.block _ s3.lt)) F4 (fun e => by omega)
        have r14 : W4.rowIs g1 3 30 (fun j => .int .i64 (tl 1 ss j)) := rowIs_fr (s4.of_block (hb3.block _ s4.lt)) F4 (fun e => by omega)
        have ss4 : Ss W4 sa k ss := (s2.keep hb3).of (fun ad had => F4.block _ (by have := s6 ad had; omega) (fun e => by have := s6 ad had; omega))
        have tb4 : Tab W4 1 := fun j hj => by
          have := HT.out j hj
          rw [B4.cell (World.block_lt_of_cell? w _ this)]
          exact this
        have hokc : ∀ (c : Int) (n : Nat), n ≤ 288 → Lim.okc (tl c ss) n = true := fun c n hn => (Lim.okc_iff _ n).2 ⟨hn, fun j _ => by
          have := tl_bound c ss j
          rw [← HM.out] at this
          exact ⟨by omega, by omega⟩⟩
        have hnt := newTelling_any g0 g1 (tl 0 ss) (tl 1 ss) W4 (Ri.row r04) (Ri.row r14) (hokc 0 286 (by omega)) (hokc 1 30 (by omega)) tb4
        have x43 := rx4.cell (i := 3) (by omega)
        have x44 := rx4.cell (i := 4) (by omega)
        simp only [bkc] at x43 x44
        have HS4 : Hid (Below w.heap.size w W4 ∧ Ss W4 sa k ss ∧ W4.rowIs g0 3 286 (fun j => .int .i64 (tl 0 ss j)) ∧ W4.rowIs g1 3 30 (fun j => .int .i64 (tl 1 ss j)) ∧ W4.rowIs X 66 9 (bkc (.slice da dn dc) last (.slice sa k sc) (.slice (some ⟨g0, 0, none⟩) 286 286) (.slice (some ⟨g1, 0, none⟩) 30 30) (exs ss) (.pointer (some ⟨f0, 0, none⟩)) (.pointer (some ⟨f1, 0, none⟩)) (.pointer none)) ∧ (∀ ad, sa = some ad → w.heap.size ≤ ad.block ∧ ad.block < X) ∧ w.heap.size ≤ X ∧ Cx W4 f0 (X + 1) W4.heap.size fl 288 ∧ Cx W4 f1 (X + 1) W4.heap.size dl 32) := ⟨B4, ss4, r04, r14, rx4, s6, s7, c04, c14⟩
        have HW4 : Hid (W4 = (w3.setCell ⟨X, 6, none⟩ (.pointer (some ⟨f0, 0, none⟩))).setCell ⟨X, 7, none⟩ (.pointer (some ⟨f1, 0, none⟩))) := hW4
        rw [hW4] at x43 x44
        clear hfc cx0 cx1 hb3 s1 s2 s3 s4 s5 s6 s7 n1 n2 n3 n4 rx3 hW4 F4 rx4 hXl w3r md4 B3 B4 c04 c14 r04 r14 ss4 tb4 hokc HS
        go_wp2_with fail
        rw [← HW4.out]
        clear z6 z7 y6 y7 z7' y7' x43 x44 HW4
        refine hnt.mono ?_
        rintro e w5 ⟨T, R0, R1, Rb, nl, nd, vn, L0, L1, Lc, qs, oa, oc, ca, ta, tc, rfl, tg, hb5⟩
        obtain ⟨s1, s2, s3, s4, s5, s6, s7, s8, s9⟩ := HS4.out
        obtain ⟨n1, n2, n3, n4⟩ := HNE.out
        have rx5 := s5.of_block (hb5.block _ s5.lt)
        have z8 := rx5.cell (i := 8) (by omega)
        have y8 := rx5.frozen 8
        simp only [bkc] at z8
        obtain ⟨W6, hW6⟩ : ∃ W6, W6 = w5.setCell ⟨X, 8, none⟩ (.pointer (some ⟨T, 0, none⟩)) := ⟨_, rfl⟩
        have F6 : Fr (fun b => b = X) w5 W6 := by rw [hW6]; exact (Fr.refl (fun b => b = X) w5).setCell rfl _
        have rx6 : W6.rowIs X 66 9 (bkc (.slice da dn dc) last (.slice sa k sc) (.slice (some ⟨g0, 0, none⟩) 286 286) (.slice (some ⟨g1, 0, none⟩) 30 30) (exs ss) (.pointer (some ⟨f0, 0, none⟩)) (.pointer (some ⟨f1, 0, none⟩)) (.pointer (some ⟨T, 0, none⟩))) := by
          rw [hW6]
          exact (rx5.set 8 _).congr (fun i hi => by rcases i with _ | _ | _ | _ | _ | _ | _ | _ | _ | i <;> first | rfl | omega)
        have hXl := s5.lt
        have w45 := hb5.size
        have w56 := F6.size
        have md6 : Mid (X + 1) w5.heap.size w5 W6 := Mid.ofFr F6 (Nat.le_refl _) (fun k h1 h2 e => by omega)
        have B5 := s1.trans (hb5.mono s1.size)
        have HRES : Hid (Bk W6 X w.heap.size W6.heap.size (.slice da dn dc) last is sa sc g0 g1 f0 f1 T R0 R1 Rb nl nd vn L0 L1 Lc qs oa oc ca ta tc ∧ Below w.heap.size w W6) := by
          have e := HIS.out.2
          have em := HM.out
          refine ⟨⟨by rw [← e, ← em]; exact rx6, ?_, ?_, ?_, ?_, ?_, ?_, ⟨s7, rx6.lt⟩, fun ad had => ⟨(s6 ad had).1, by have := (s6 ad had).2; omega⟩, ⟨by omega, ?_⟩, ⟨by omega, ?_⟩⟩, B5.trans (F6.below _ B5.size (fun i hi e => by omega))⟩
          · rw [← e, ← em]
            exact (s2.keep hb5).of (fun ad had => F6.block _ (by have := (s6 ad had).2; omega) (fun e => by have := (s6 ad had).2; omega))
          · rw [← e]; exact rowIs_fr (s3.of_block (hb5.block _ s3.lt)) F6 (fun e => by omega)
          · rw [← e]; exact rowIs_fr (s4.of_block (hb5.block _ s4.lt)) F6 (fun e => by omega)
          · exact ((((s8.mid (Mid.ofBelow hb5)).upper w45 (Nat.le_refl _)).mid md6).upper w56 (Nat.le_refl _)).lower (by omega)
          · exact ((((s9.mid (Mid.ofBelow hb5)).upper w45 (Nat.le_refl _)).mid md6).upper w56 (Nat.le_refl _)).lower (by omega)
          · rw [← e]; exact (tg.mid (md6.mono (by omega) (Nat.le_refl _))).wide (by omega) w56 (Nat.le_refl _)
          · have := s3.lt; omega
          · have := s4.lt; omega
        have HW6 : Hid (W6 = w5.setCell ⟨X, 8, none⟩ (.pointer (some ⟨T, 0, none⟩))) := hW6
        clear hnt tg hb5 s1 s2 s3 s4 s5 s6 s7 s8 s9 n1 n2 n3 n4 rx5 hW6 F6 rx6 hXl w45 w56 md6 B5 HS4
        go_wp2_with fail
        go_ret
        rw [← HW6.out]
        exact ⟨X, is, rfl, HIS.out.1, ⟨sa, sc, g0, g1, f0, f1, T, R0, R1, Rb, nl, nd, vn, L0, L1, Lc, qs, oa, oc, ca, ta, tc, HRES.out.1⟩, HRES.out.2⟩
  · obtain ⟨W2, hW2⟩ : ∃ W2, W2 = (((w1.alloc (Obj.cells #[.slice da dn dc, .bool last, .slice sa m sc, .slice (some ⟨w1.heap.size + 1 + 1, 0, none⟩) 286 286, .slice (some ⟨w1.heap.size + 1, 0, none⟩) 30 30, .int .i64 0, .pointer none, .pointer none, .pointer none] 66)).alloc (Obj.cells (madeCells #[Value.int .i64 0] 30) 3)).alloc (Obj.cells (madeCells #[Value.int .i64 0] 286) 3)).drew := ⟨_, rfl⟩
    obtain ⟨X, hX⟩ : ∃ X, X = w1.heap.size := ⟨_, rfl⟩
    obtain ⟨g0, hg0⟩ : ∃ g0, g0 = w1.heap.size + 1 + 1 := ⟨_, rfl⟩
    obtain ⟨g1, hg1⟩ : ∃ g1, g1 = w1.heap.size + 1 := ⟨_, rfl⟩
    have bA : Below w1.heap.size w1 W2 := by
      rw [hW2]
      have e1 : Below w1.heap.size w1 (w1.alloc (Obj.cells #[.slice da dn dc, .bool last, .slice sa m sc, .slice (some ⟨w1.heap.size + 1 + 1, 0, none⟩) 286 286, .slice (some ⟨w1.heap.size + 1, 0, none⟩) 30 30, .int .i64 0, .pointer none, .pointer none, .pointer none] 66)) := (Below.refl _ _).alloc (Nat.le_refl _) _
      have e2 := e1.alloc e1.size (Obj.cells (madeCells #[Value.int .i64 0] 30) 3)
      exact (e2.alloc e2.size (Obj.cells (madeCells #[Value.int .i64 0] 286) 3)).drew
    have rX2 : W2.rowIs X 66 9 (bkc (.slice da dn dc) last (.slice sa m sc) (.slice (some ⟨g0, 0, none⟩) 286 286) (.slice (some ⟨g1, 0, none⟩) 30 30) 0 (.pointer none) (.pointer none) (.pointer none)) := by
      rw [hW2, hX, hg0, hg1]
      exact (((World.rowIs_alloc w1 _ 66 _ (fun i hi => by simp at hi; rcases i with _ | _ | _ | _ | _ | _ | _ | _ | _ | i <;> first | rfl | omega)).alloc _).alloc _).drew
    have rg1 : W2.rowIs g1 3 30 (fun _ => .int .i64 0) := by
      have e := ((made_row (w1.alloc (Obj.cells #[.slice da dn dc, .bool last, .slice sa m sc, .slice (some ⟨w1.heap.size + 1 + 1, 0, none⟩) 286 286, .slice (some ⟨w1.heap.size + 1, 0, none⟩) 30 30, .int .i64 0, .pointer none, .pointer none, .pointer none] 66)) 30).alloc (Obj.cells (madeCells #[Value.int .i64 0] 286) 3)).drew
      rw [← hW2, show (w1.alloc (Obj.cells #[.slice da dn dc, .bool last, .slice sa m sc, .slice (some ⟨w1.heap.size + 1 + 1, 0, none⟩) 286 286, .slice (some ⟨w1.heap.size + 1, 0, none⟩) 30 30, .int .i64 0, .pointer none, .pointer none, .pointer none] 66)).heap.size = w1.heap.size + 1 by simp, ← hg1] at e
      exact e
    have rg0 : W2.rowIs g0 3 286 (fun _ => .int .i64 0) := by
      have e := (made_row ((w1.alloc (Obj.cells #[.slice da dn dc, .bool last, .slice sa m sc, .slice (some ⟨w1.heap.size + 1 + 1, 0, none⟩) 286 286, .slice (some ⟨w1.heap.size + 1, 0, none⟩) 30 30, .int .i64 0, .pointer none, .pointer none, .pointer none] 66)).alloc (Obj.cells (madeCells #[Value.int .i64 0] 30) 3)) 286).drew
      rw [← hW2, show ((w1.alloc (Obj.cells #[.slice da dn dc, .bool last, .slice sa m sc, .slice (some ⟨w1.heap.size + 1 + 1, 0, none⟩) 286 286, .slice (some ⟨w1.heap.size + 1, 0, none⟩) 30 30, .int .i64 0, .pointer none, .pointer none, .pointer none] 66)).alloc (Obj.cells (madeCells #[Value.int .i64 0] 30) 3)).heap.size = w1.heap.size + 1 + 1 by simp, ← hg0] at e
      exact e
    have HNE : Hid (w1.heap.size ≤ X ∧ X < g0 ∧ X < g1 ∧ g0 ≠ g1) := ⟨by omega, by omega, by omega, by omega⟩
    rw [← hW2, ← hg0, ← hg1, ← hX]
    obtain ⟨q1, q2, q3⟩ := H1.out
    have ss2 := q2.keep bA
    have xx2 := rX2.cell (i := 2) (by omega)
    simp only [bkc] at xx2
    have H2 : Hid (Below w.heap.size w W2 ∧ Ss W2 sa m ss ∧ (∀ ad, sa = some ad → w.heap.size ≤ ad.block ∧ ad.block < X) ∧ w.heap.size ≤ X) := ⟨q1.trans (bA.mono q1.size), ss2, fun ad had => by have := q3 ad had; omega, by have := q1.size; omega⟩
    have HL0 : Hid (W2.rowIs g0 3 286 (fun j => .int .i64 (tl 0 (ss.take 0) j)) ∧ W2.rowIs g1 3 30 (fun j => .int .i64 (tl 1 (ss.take 0) j)) ∧ W2.rowIs X 66 9 (bkc (.slice da dn dc) last (.slice sa m sc) (.slice (some ⟨g0, 0, none⟩) 286 286) (.slice (some ⟨g1, 0, none⟩) 30 30) (exs (ss.take 0)) (.pointer none) (.pointer none) (.pointer none))) := ⟨rg0, rg1, rX2⟩
    have HX2 : Hid (X < W2.heap.size) := rX2.lt
    clear q1 q2 q3 ss2 bA rX2 rg0 rg1 hW2 hX hg0 hg1 x3 x4 y3 y4 HRX hm1 hm2
    go_wp2_with fail
    clear xx2
    go_loopw [27] (fun iv wr => ∃ k : Nat, k ≤ m ∧ iv = .int .i64 k ∧ Hid (wr.rowIs g0 3 286 (fun j => .int .i64 (tl 0 (ss.take k) j)) ∧ wr.rowIs g1 3 30 (fun j => .int .i64 (tl 1 (ss.take k) j)) ∧ wr.rowIs X 66 9 (bkc (.slice da dn dc) last (.slice sa m sc) (.slice (some ⟨g0, 0, none⟩) 286 286) (.slice (some ⟨g1, 0, none⟩) 30 30) (exs (ss.take k)) (.pointer none) (.pointer none) (.pointer none))) ∧ Hid (Fr (fun b => b = X ∨ b = g0 ∨ b = g1) W2 wr)) (fun iv _ => m - (intOf iv).toNat)
    case atStart => exact ⟨0, by omega, rfl, HL0, Fr.refl _ _⟩
    case round =>
      clear HL0
      obtain ⟨k, hk, rfl, HR, HFR⟩ := hrel
      by_cases hlt : k < m
      · obtain ⟨q1, q2, q3, q4⟩ := H2.out
        obtain ⟨r0, r1, rx⟩ := HR.out
        obtain ⟨n1, n2, n3, n4⟩ := HNE.out
        obtain ⟨b, off, hsa, x0, x1, x2, x3⟩ := q2.cells k hlt
        have hbl := q3 _ hsa
        simp only at hbl
        have hblk : wr.heap[b]? = W2.heap[b]? := HFR.out.block b (by have := World.block_lt_of_cell? _ _ x0; exact this) (fun e => by omega)
        have htk : ss.take (k + 1) = ss.take k ++ [ss.getD k sz0] := Lzz.take_one _ sz0 k (by have := HM.out; omega)
        have hmem : ss.getD k sz0 ∈ ss := by
          rw [List.getD, List.getElem?_eq_getElem (by have := HM.out; omega : k < ss.length)]
          simp
        have hOB := HOK.out _ hmem
        obtain ⟨st, hst⟩ : ∃ st, st = ss.getD k sz0 := ⟨_, rfl⟩
        rw [← hst] at x0 x1 x2 x3 htk hOB
        obtain ⟨s0, s1, s2, s3⟩ := st
        simp only at x0 x1 x2 x3
        have y0 : wr.cell? ⟨b, off + k * 4, none⟩ = some (.int .i64 s0) := by rw [World.cell?_of_block (a := ⟨b, off + k * 4, none⟩) hblk]; exact x0
        have y1 : wr.cell? ⟨b, off + k * 4 + 1, none⟩ = some (.int .i64 s1) := by rw [World.cell?_of_block (a := ⟨b, off + k * 4 + 1, none⟩) hblk]; exact x1
        have y2 : wr.cell? ⟨b, off + k * 4 + 2, none⟩ = some (.int .i64 s2) := by rw [World.cell?_of_block (a := ⟨b, off + k * 4 + 2, none⟩) hblk]; exact x2
        have y3 : wr.cell? ⟨b, off + k * 4 + 3, none⟩ = some (.int .i64 s3) := by rw [World.cell?_of_block (a := ⟨b, off + k * 4 + 3, none⟩) hblk]; exact x3
        have hex := exs_take ss k HOK.out
        rw [← HM.out] at hex
        have hE1 : exs (ss.take (k + 1)) = exs (ss.take k) + s3 := by rw [htk, exs_app]; simp [exs]
        obtain ⟨ex, hexe⟩ : ∃ ex, ex = exs (ss.take k) := ⟨_, rfl⟩
        rw [← hexe] at rx hex hE1
        have HE1 : Hid (exs (ss.take (k + 1)) = ex + s3) := hE1
        have h13 : 0 ≤ s3 ∧ s3 ≤ 13 := hOB.2
        subst hsa
        rcases hOB.1 with ⟨c1, c2, c3⟩ | ⟨c1, c2, c3⟩
        · simp only at c1 c2 c3
          subst c1
          obtain ⟨y, rfl⟩ := Int.eq_ofNat_of_zero_le c2
          have hy : y < 286 := by omega
          obtain ⟨tv, htv⟩ : ∃ tv, tv = tl 0 (ss.take k) y := ⟨_, rfl⟩
          have hbd := tl_bound 0 (ss.take k) y
          rw [← htv, List.length_take, ← HM.out] at hbd
          have bX : Below wr.heap.size wr (wr.alloc (Obj.cells #[Value.int .i64 0, Value.int .i64 y, Value.int .i64 s2, Value.int .i64 s3] 109)) := (Below.refl _ _).alloc (Nat.le_refl _) _
          have rMX := r0.of_block (bX.block _ r0.lt)
          have rOX := r1.of_block (bX.block _ r1.lt)
          have rXX := rx.of_block (bX.block _ rx.lt)
          have rYX := step_new wr (0, y, s2, s3) #[Value.int .i64 0, Value.int .i64 y, Value.int .i64 s2, Value.int .i64 s3] rfl
          have zc := rXX.drew.cell (i := 3) (by omega)
          have zm := rMX.drew.cell (i := y) hy
          have zf := rMX.drew.frozen y
          simp only [bkc] at zc
          rw [← htv] at zm
          obtain ⟨W5, hW5⟩ : ∃ W5, W5 = ((wr.alloc (Obj.cells #[Value.int .i64 0, Value.int .i64 y, Value.int .i64 s2, Value.int .i64 s3] 109)).setCell ⟨g0, y, none⟩ (.int .i64 (tv + 1))).drew := ⟨_, rfl⟩
          have F5 : Fr (fun b => b = g0) (wr.alloc (Obj.cells #[Value.int .i64 0, Value.int .i64 y, Value.int .i64 s2, Value.int .i64 s3] 109)) W5 := by rw [hW5]; exact ((Fr.refl (fun b => b = g0) _).setCell rfl _).drew
          have hYg : wr.heap.size ≠ g0 := by have := r0.lt; omega
          have rM5 : W5.rowIs g0 3 286 (fun j => .int .i64 (tl 0 (ss.take (k + 1)) j)) := by
            rw [hW5]
            refine (rMX.set y _).drew.congr (fun j hj => ?_)
            rw [htk, tl_app, tl_one]
            by_cases hjy : j = y
            · subst hjy
              simp [htv]
            · have : ¬ (y : Int) = (j : Int) := by omega
              simp [hjy, this]
          have rO5 : W5.rowIs g1 3 30 (fun j => .int .i64 (tl 1 (ss.take (k + 1)) j)) := (rowIs_fr rOX F5 (fun e => by omega)).congr (fun j hj => by rw [htk, tl_app, tl_one]; simp)
          have rX5 := rowIs_fr rXX F5 (fun e => by omega)
          have rY5 := rowIs_fr rYX F5 (fun e => by omega)
          have f5 := rX5.drew.cell (i := 5) (by omega)
          have g5 := rX5.drew.frozen 5
          have v5 := rY5.drew.cell (i := 3) (by omega)
          simp only [bkc] at f5
          simp only [stc] at v5
          have HRS : Hid ((W5.drew.setCell ⟨X, 5, none⟩ (.int .i64 (ex + s3))).rowIs g0 3 286 (fun j => .int .i64 (tl 0 (ss.take (k + 1)) j)) ∧ (W5.drew.setCell ⟨X, 5, none⟩ (.int .i64 (ex + s3))).rowIs g1 3 30 (fun j => .int .i64 (tl 1 (ss.take (k + 1)) j)) ∧ (W5.drew.setCell ⟨X, 5, none⟩ (.int .i64 (ex + s3))).rowIs X 66 9 (bkc (.slice da dn dc) last (.slice (some ⟨b, off, none⟩) m sc) (.slice (some ⟨g0, 0, none⟩) 286 286) (.slice (some ⟨g1, 0, none⟩) 30 30) (exs (ss.take (k + 1))) (.pointer none) (.pointer none) (.pointer none))) := by
            have F6 : Fr (fun b => b = X) W5 (W5.drew.setCell ⟨X, 5, none⟩ (.int .i64 (ex + s3))) := ((Fr.refl (fun b => b = X) W5).drew).setCell rfl _
            refine ⟨rowIs_fr rM5 F6 (fun e => by omega), rowIs_fr rO5 F6 (fun e => by omega), (rX5.drew.set 5 _).congr (fun i hi => ?_)⟩
            rw [HE1.out]
            rcases i with _ | _ | _ | _ | _ | _ | _ | _ | _ | i <;> first | rfl | omega
          have HFS : Hid (Fr (fun b => b = X ∨ b = g0 ∨ b = g1) W2 (W5.drew.setCell ⟨X, 5, none⟩ (.int .i64 (ex + s3)))) := by
            have F6 : Fr (fun b => b = X) W5 (W5.drew.setCell ⟨X, 5, none⟩ (.int .i64 (ex + s3))) := ((Fr.refl (fun b => b = X) W5).drew).setCell rfl _
            exact (((HFR.out.alloc (Obj.cells #[Value.int .i64 0, Value.int .i64 y, Value.int .i64 s2, Value.int .i64 s3] 109))).trans F5 (fun i _ e => .inr (.inl e))).trans F6 (fun i _ e => .inl e)
          have HW5 : Hid (W5 = ((wr.alloc (Obj.cells #[Value.int .i64 0, Value.int .i64 y, Value.int .i64 s2, Value.int .i64 s3] 109)).setCell ⟨g0, y, none⟩ (.int .i64 (tv + 1))).drew) := hW5
          have hb0 : 0 ≤ tv := hbd.1
          have hb4 : tv ≤ 40001 := by omega
          have he0 : 0 ≤ ex := hex.1
          have he4 : ex ≤ 600000 := by omega
          have h130 := h13.1
          have h131 := h13.2
          clear q1 q2 q3 q4 r0 r1 rx n1 n2 n3 n4 x0 x1 x2 x3 hbl hblk htk hmem hOB hst hex hE1 hexe h13 c2 htv hbd bX rMX rOX rXX rYX hW5 F5 rM5 rO5 rX5 rY5 HR HFR HE1 hYg
          go_wp2_with fail
          go_region
          rw [← HW5.out]
          go_wp2_with fail
          go_region
          go_wp2
          go_roundw
          case rel => exact ⟨k + 1, by omega, by go_num, HRS, HFS⟩
          case measure => simp [intOf]; omega
        · simp only at c1 c2 c3
          subst c1
          obtain ⟨y, rfl⟩ := Int.eq_ofNat_of_zero_le c2
          have hy : y < 30 := by omega
          obtain ⟨tv, htv⟩ : ∃ tv, tv = tl 1 (ss.take k) y := ⟨_, rfl⟩
          have hbd := tl_bound 1 (ss.take k) y
          rw [← htv, List.length_take, ← HM.out] at hbd
          have bX : Below wr.heap.size wr (wr.alloc (Obj.cells #[Value.int .i64 1, Value.int .i64 y, Value.int .i64 s2, Value.int .i64 s3] 109)) := (Below.refl _ _).alloc (Nat.le_refl _) _
          have rMX := r1.of_block (bX.block _ r1.lt)
          have rOX := r0.of_block (bX.block _ r0.lt)
          have rXX := rx.of_block (bX.block _ rx.lt)
          have rYX := step_new wr (1, y, s2, s3) #[Value.int .i64 1, Value.int .i64 y, Value.int .i64 s2, Value.int .i64 s3] rfl
          have zc := rXX.drew.cell (i := 4) (by omega)
          have zm := rMX.drew.cell (i := y) hy
          have zf := rMX.drew.frozen y
          simp only [bkc] at zc
          rw [← htv] at zm
          obtain ⟨W5, hW5⟩ : ∃ W5, W5 = ((wr.alloc (Obj.cells #[Value.int .i64 1, Value.int .i64 y, Value.int .i64 s2, Value.int .i64 s3] 109)).setCell ⟨g1, y, none⟩ (.int .i64 (tv + 1))).drew := ⟨_, rfl⟩
          have F5 : Fr (fun b => b = g1) (wr.alloc (Obj.cells #[Value.int .i64 1, Value.int .i64 y, Value.int .i64 s2, Value.int .i64 s3] 109)) W5 := by rw [hW5]; exact ((Fr.refl (fun b => b = g1) _).setCell rfl _).drew
          have hYg : wr.heap.size ≠ g1 := by have := r1.lt; omega
          have rM5 : W5.rowIs g1 3 30 (fun j => .int .i64 (tl 1 (ss.take (k + 1)) j)) := by
            rw [hW5]
            refine (rMX.set y _).drew.congr (fun j hj => ?_)
            rw [htk, tl_app, tl_one]
            by_cases hjy : j = y
            · subst hjy
              simp [htv]
            · have : ¬ (y : Int) = (j : Int) := by omega
              simp [hjy, this]
          have rO5 : W5.rowIs g0 3 286 (fun j => .int .i64 (tl 0 (ss.take (k + 1)) j)) := (rowIs_fr rOX F5 (fun e => by omega)).congr (fun j hj => by rw [htk, tl_app, tl_one]; simp)
          have rX5 := rowIs_fr rXX F5 (fun e => by omega)
          have rY5 := rowIs_fr rYX F5 (fun e => by omega)
          have f5 := rX5.drew.cell (i := 5) (by omega)
          have g5 := rX5.drew.frozen 5
          have v5 := rY5.drew.cell (i := 3) (by omega)
          simp only [bkc] at f5
          simp only [stc] at v5
          have HRS : Hid ((W5.drew.setCell ⟨X, 5, none⟩ (.int .i64 (ex + s3))).rowIs g0 3 286 (fun j => .int .i64 (tl 0 (ss.take (k + 1)) j)) ∧ (W5.drew.setCell ⟨X, 5, none⟩ (.int .i64 (ex + s3))).rowIs g1 3 30 (fun j => .int .i64 (tl 1 (ss.take (k + 1)) j)) ∧ (W5.drew.setCell ⟨X, 5, none⟩ (.int .i64 (ex + s3))).rowIs X 66 9 (bkc (.slice da dn dc) last (.slice (some ⟨b, off, none⟩) m sc) (.slice (some ⟨g0, 0, none⟩) 286 286) (.slice (some ⟨g1, 0, none⟩) 30 30) (exs (ss.take (k + 1))) (.pointer none) (.pointer none) (.pointer none))) := by
            have F6 : Fr (fun b => b = X) W5 (W5.drew.setCell ⟨X, 5, none⟩ (.int .i64 (ex + s3))) := ((Fr.refl (fun b => b = X) W5).drew).setCell rfl _
            refine ⟨rowIs_fr rO5 F6 (fun e => by omega), rowIs_fr rM5 F6 (fun e => by omega), (rX5.drew.set 5 _).congr (fun i hi => ?_)⟩
            rw [HE1.out]
            rcases i with _ | _ | _ | _ | _ | _ | _ | _ | _ | i <;> first | rfl | omega
          have HFS : Hid (Fr (fun b => b = X ∨ b = g0 ∨ b = g1) W2 (W5.drew.setCell ⟨X, 5, none⟩ (.int .i64 (ex + s3)))) := by
            have F6 : Fr (fun b => b = X) W5 (W5.drew.setCell ⟨X, 5, none⟩ (.int .i64 (ex + s3))) := ((Fr.refl (fun b => b = X) W5).drew).setCell rfl _
            exact (((HFR.out.alloc (Obj.cells #[Value.int .i64 1, Value.int .i64 y, Value.int .i64 s2, Value.int .i64 s3] 109))).trans F5 (fun i _ e => .inr (.inr e))).trans F6 (fun i _ e => .inl e)
          have HW5 : Hid (W5 = ((wr.alloc (Obj.cells #[Value.int .i64 1, Value.int .i64 y, Value.int .i64 s2, Value.int .i64 s3] 109)).setCell ⟨g1, y, none⟩ (.int .i64 (tv + 1))).drew) := hW5
          have hb0 : 0 ≤ tv := hbd.1
          have hb4 : tv ≤ 40001 := by omega
          have he0 : 0 ≤ ex := hex.1
          have he4 : ex ≤ 600000 := by omega
          have h130 := h13.1
          have h131 := h13.2
          clear q1 q2 q3 q4 r0 r1 rx n1 n2 n3 n4 x0 x1 x2 x3 hbl hblk htk hmem hOB hst hex hE1 hexe h13 c2 htv hbd bX rMX rOX rXX rYX hW5 F5 rM5 rO5 rX5 rY5 HR HFR HE1 hYg
          go_wp2_with fail
          go_region
          rw [← HW5.out]
          go_wp2_with fail
          go_region
          go_wp2
          go_roundw
          case rel => exact ⟨k + 1, by omega, by go_num, HRS, HFS⟩
          case measure => simp [intOf]; omega
      · obtain rfl : k = m := by omega
        obtain ⟨q1, q2, q3, q4⟩ := H2.out
        obtain ⟨r0, r1, rx⟩ := HR.out
        have hfull : ss.take k = ss := by rw [HM.out, List.take_length]
        rw [hfull] at r0 r1 rx
        have Br : Below w.heap.size w wr := q1.trans (HFR.out.below _ q1.size (fun i hi e => by have := HNE.out; omega))
        have ssr : Ss wr sa k ss := q2.of (fun ad had => HFR.out.block _ (by have := (q3 ad had).2; have := HNE.out; have := rx.lt; have := q1.size; rcases Nat.lt_or_ge ad.block W2.heap.size with h | h; exact h; exact absurd h (by have := HX2.out; omega)) (fun e => by have := q3 ad had; have := HNE.out; omega))
        have hfc := fixedCoding_any wr
        have HS : Hid (Below w.heap.size w wr ∧ Ss wr sa k ss ∧ wr.rowIs g0 3 286 (fun j => .int .i64 (tl 0 ss j)) ∧ wr.rowIs g1 3 30 (fun j => .int .i64 (tl 1 ss j)) ∧ wr.rowIs X 66 9 (bkc (.slice da dn dc) last (.slice sa k sc) (.slice (some ⟨g0, 0, none⟩) 286 286) (.slice (some ⟨g1, 0, none⟩) 30 30) (exs ss) (.pointer none) (.pointer none) (.pointer none)) ∧ (∀ ad, sa = some ad → w.heap.size ≤ ad.block ∧ ad.block < X) ∧ w.heap.size ≤ X) := ⟨Br, ssr, r0, r1, rx, q3, q4⟩
        clear q1 q2 q3 q4 r0 r1 rx hfull Br ssr HR HFR H2 HX2
        go_wp2_with fail
        refine hfc.mono ?_
        rintro e w3 ⟨f0, f1, rfl, cx0, cx1, hb3⟩
        obtain ⟨s1, s2, s3, s4, s5, s6, s7⟩ := HS.out
        obtain ⟨n1, n2, n3, n4⟩ := HNE.out
        have rx3 := s5.of_block (hb3.block _ s5.lt)
        have z6 := rx3.cell (i := 6) (by omega)
        have z7 := (rx3.set 6 (.pointer (some ⟨f0, 0, none⟩))).cell (i := 7) (by omega)
        have y6 := rx3.frozen 6
        have y7 := (rx3.set 6 (.pointer (some ⟨f0, 0, none⟩))).frozen 7
        have z7' := rx3.cell (i := 7) (by omega)
        have y7' := rx3.frozen 7
        simp only [bkc] at z6 z7 z7'
        obtain ⟨W4, hW4⟩ : ∃ W4, W4 = (w3.setCell ⟨X, 6, none⟩ (.pointer (some ⟨f0, 0, none⟩))).setCell ⟨X, 7, none⟩ (.pointer (some ⟨f1, 0, none⟩)) := ⟨_, rfl⟩
        have F4 : Fr (fun b => b = X) w3 W4 := by rw [hW4]; exact ((Fr.refl (fun b => b = X) w3).setCell rfl _).setCell rfl _
        have rx4 : W4.rowIs X 66 9 (bkc (.slice da dn dc) last (.slice sa k sc) (.slice (some ⟨g0, 0, none⟩) 286 286) (.slice (some ⟨g1, 0, none⟩) 30 30) (exs ss) (.pointer (some ⟨f0, 0, none⟩)) (.pointer (some ⟨f1, 0, none⟩)) (.pointer none)) := by
          rw [hW4]
          exact ((rx3.set 6 _).set 7 _).congr (fun i hi => by rcases i with _ | _ | _ | _ | _ | _ | _ | _ | _ | i <;> first | rfl | omega)
        have hXl := s5.lt
        have w3r := hb3.size
        have md4 : Mid (X + 1) w3.heap.size w3 W4 := Mid.ofFr F4 (Nat.le_refl _) (fun k h1 h2 e => by omega)
        have B3 := s1.trans (hb3.mono s1.size)
        have B4 : Below w.heap.size w W4 := B3.trans (F4.below _ B3.size (fun i hi e => by omega))
        have c04 : Cx W4 f0 (X + 1) W4.heap.size fl 288 := ((cx0.lower (by omega)).mid md4).upper F4.size (Nat.le_refl _)
        have c14 : Cx W4 f1 (X + 1) W4.heap.size dl 32 := ((cx1.lower (by omega)).mid md4).upper F4.size (Nat.le_refl _)
        have r04 : W4.rowIs g0 3 286 (fun j => .int .i64 (tl 0 ss j)) := rowIs_fr (s3.of_block (hb3.block _ s3.lt)) F4 (fun e => by omega)
        have r14 : W4.rowIs g1 3 30 (fun j => .int .i64 (tl 1 ss j)) := rowIs_fr (s4.of_block (hb3.block _ s4.lt)) F4 (fun e => by omega)
        have ss4 : Ss W4 sa k ss := (s2.keep hb3).of (fun ad had => F4.block _ (by have := s6 ad had; omega) (fun e => by have := s6 ad had; omega))
        have tb4 : Tab W4 1 := fun j hj => by
          have := HT.out j hj
          rw [B4.cell (World.block_lt_of_cell? w _ this)]
          exact this
        have hokc : ∀ (c : Int) (n : Nat), n ≤ 288 → Lim.okc (tl c ss) n = true := fun c n hn => (Lim.okc_iff _ n).2 ⟨hn, fun j _ => by
          have := tl_bound c ss j
          rw [← HM.out] at this
          exact ⟨by omega, by omega⟩⟩
        have hnt := newTelling_any g0 g1 (tl 0 ss) (tl 1 ss) W4 (Ri.row r04) (Ri.row r14) (hokc 0 286 (by omega)) (hokc 1 30 (by omega)) tb4
        have x43 := rx4.cell (i := 3) (by omega)
        have x44 := rx4.cell (i := 4) (by omega)
        simp only [bkc] at x43 x44
        have HS4 : Hid (Below w.heap.size w W4 ∧ Ss W4 sa k ss ∧ W4.rowIs g0 3 286 (fun j => .int .i64 (tl 0 ss j)) ∧ W4.rowIs g1 3 30 (fun j => .int .i64 (tl 1 ss j)) ∧ W4.rowIs X 66 9 (bkc (.slice da dn dc) last (.slice sa k sc) (.slice (some ⟨g0, 0, none⟩) 286 286) (.slice (some ⟨g1, 0, none⟩) 30 30) (exs ss) (.pointer (some ⟨f0, 0, none⟩)) (.pointer (some ⟨f1, 0, none⟩)) (.pointer none)) ∧ (∀ ad, sa = some ad → w.heap.size ≤ ad.block ∧ ad.block < X) ∧ w.heap.size ≤ X ∧ Cx W4 f0 (X + 1) W4.heap.size fl 288 ∧ Cx W4 f1 (X + 1) W4.heap.size dl 32) := ⟨B4, ss4, r04, r14, rx4, s6, s7, c04, c14⟩
        have HW4 : Hid (W4 = (w3.setCell ⟨X, 6, none⟩ (.pointer (some ⟨f0, 0, none⟩))).setCell ⟨X, 7, none⟩ (.pointer (some ⟨f1, 0, none⟩))) := hW4
        rw [hW4] at x43 x44
        clear hfc cx0 cx1 hb3 s1 s2 s3 s4 s5 s6 s7 n1 n2 n3 n4 rx3 hW4 F4 rx4 hXl w3r md4 B3 B4 c04 c14 r04 r14 ss4 tb4 hokc HS
        go_wp2_with fail
        rw [← HW4.out]
        clear z6 z7 y6 y7 z7' y7' x43 x44 HW4
        refine hnt.mono ?_
        rintro e w5 ⟨T, R0, R1, Rb, nl, nd, vn, L0, L1, Lc, qs, oa, oc, ca, ta, tc, rfl, tg, hb5⟩
        obtain ⟨s1, s2, s3, s4, s5, s6, s7, s8, s9⟩ := HS4.out
        obtain ⟨n1, n2, n3, n4⟩ := HNE.out
        have rx5 := s5.of_block (hb5.block _ s5.lt)
        have z8 := rx5.cell (i := 8) (by omega)
        have y8 := rx5.frozen 8
        simp only [bkc] at z8
        obtain ⟨W6, hW6⟩ : ∃ W6, W6 = w5.setCell ⟨X, 8, none⟩ (.pointer (some ⟨T, 0, none⟩)) := ⟨_, rfl⟩
        have F6 : Fr (fun b => b = X) w5 W6 := by rw [hW6]; exact (Fr.refl (fun b => b = X) w5).setCell rfl _
        have rx6 : W6.rowIs X 66 9 (bkc (.slice da dn dc) last (.slice sa k sc) (.slice (some ⟨g0, 0, none⟩) 286 286) (.slice (some ⟨g1, 0, none⟩) 30 30) (exs ss) (.pointer (some ⟨f0, 0, none⟩)) (.pointer (some ⟨f1, 0, none⟩)) (.pointer (some ⟨T, 0, none⟩))) := by
          rw [hW6]
          exact (rx5.set 8 _).congr (fun i hi => by rcases i with _ | _ | _ | _ | _ | _ | _ | _ | _ | i <;> first | rfl | omega)
        have hXl := s5.lt
        have w45 := hb5.size
        have w56 := F6.size
        have md6 : Mid (X + 1) w5.heap.size w5 W6 := Mid.ofFr F6 (Nat.le_refl _) (fun k h1 h2 e => by omega)
        have B5 := s1.trans (hb5.mono s1.size)
        have HRES : Hid (Bk W6 X w.heap.size W6.heap.size (.slice da dn dc) last is sa sc g0 g1 f0 f1 T R0 R1 Rb nl nd vn L0 L1 Lc qs oa oc ca ta tc ∧ Below w.heap.size w W6) := by
          have e := HIS.out.2
          have em := HM.out
          refine ⟨⟨by rw [← e, ← em]; exact rx6, ?_, ?_, ?_, ?_, ?_, ?_, ⟨s7, rx6.lt⟩, fun ad had => ⟨(s6 ad had).1, by have := (s6 ad had).2; omega⟩, ⟨by omega, ?_⟩, ⟨by omega, ?_⟩⟩, B5.trans (F6.below _ B5.size (fun i hi e => by omega))⟩
          · rw [← e, ← em]
            exact (s2.keep hb5).of (fun ad had => F6.block _ (by have := (s6 ad had).2; omega) (fun e => by have := (s6 ad had).2; omega))
          · rw [← e]; exact rowIs_fr (s3.of_block (hb5.block _ s3.lt)) F6 (fun e => by omega)
          · rw [← e]; exact rowIs_fr (s4.of_block (hb5.block _ s4.lt)) F6 (fun e => by omega)
          · exact ((((s8.mid (Mid.ofBelow hb5)).upper w45 (Nat.le_refl _)).mid md6).upper w56 (Nat.le_refl _)).lower (by omega)
          · exact ((((s9.mid (Mid.ofBelow hb5)).upper w45 (Nat.le_refl _)).mid md6).upper w56 (Nat.le_refl _)).lower (by omega)
          · rw [← e]; exact (tg.mid (md6.mono (by omega) (Nat.le_refl _))).wide (by omega) w56 (Nat.le_refl _)
          · have := s3.lt; omega
          · have := s4.lt; omega
        have HW6 : Hid (W6 = w5.setCell ⟨X, 8, none⟩ (.pointer (some ⟨T, 0, none⟩))) := hW6
        clear hnt tg hb5 s1 s2 s3 s4 s5 s6 s7 s8 s9 n1 n2 n3 n4 rx5 hW6 F6 rx6 hXl w45 w56 md6 B5 HS4
        go_wp2_with fail
        go_ret
        rw [← HW6.out]
        exact ⟨X, is, rfl, HIS.out.1, ⟨sa, sc, g0, g1, f0, f1, T, R0, R1, Rb, nl, nd, vn, L0, L1, Lc, qs, oa, oc, ca, ta, tc, HRES.out.1⟩, HRES.out.2⟩

end Go.Proofs.YtiahbicodlgmhaaGreatDoor.Z
