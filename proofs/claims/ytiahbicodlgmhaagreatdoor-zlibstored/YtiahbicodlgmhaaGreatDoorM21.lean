/- newTelling. -/
import Derived.Test.YtiahbicodlgmhaaGreatDoorM20
namespace Go.Proofs.YtiahbicodlgmhaaGreatDoor.Z
open Go.RowKit

theorem G_cut (L : Nat → Int) (K n : Nat) : ∀ N, n ≤ N → (∀ j, n ≤ j → j < N → L j = 0) → G L K N = G L K n := by
  intro N
  induction N with
  | zero => intro h _; rw [show n = 0 by omega]
  | succ N ih =>
    intro h hz
    rcases Nat.lt_or_ge N n with h' | h'
    · rw [show n = N + 1 by omega]
    · have := hz N h' (by omega)
      simp only [G]
      rw [this, ih h' (fun j a b => hz j a (by omega))]
      simp

theorem SM_cut (L : Nat → Int) (n : Nat) : ∀ N, n ≤ N → (∀ j, n ≤ j → j < N → L j = 0) → SM L N = SM L n := by
  intro N
  induction N with
  | zero => intro h _; rw [show n = 0 by omega]
  | succ N ih =>
    intro h hz
    rcases Nat.lt_or_ge N n with h' | h'
    · rw [show n = N + 1 by omega]
    · have := hz N h' (by omega)
      simp only [SM]
      rw [this, ih h' (fun j a b => hz j a (by omega))]
      simp

/-- The code of the first n lengths, where the others are 0. -/
theorem nw_cut {L : Nat → Int} {n N : Nat} {hf : Bool} (h : nw L N hf = 0) (hn : n ≤ N) (hz : ∀ j, n ≤ j → j < N → L j = 0) : nw L n hf = 0 := by
  obtain ⟨he, hc⟩ := nw_zero L N hf h
  obtain ⟨h288, hL, hG⟩ := er_zero L N he
  have e1 := G_cut L 15 n N hn hz
  have e2 := SM_cut L n N hn hz
  have ok : okL L n = true := (okL_iff L n).2 ⟨by omega, fun j hj => hL j (by omega)⟩
  have okN : okL L N = true := (okL_iff L N).2 ⟨h288, hL⟩
  have hG' : G L 15 n ≤ 32768 := by rw [← e1]; exact hG
  have er0 : er L n = 0 := by unfold er; rw [if_pos ok, if_neg (by omega)]
  unfold nw
  rw [if_pos er0, if_pos]
  rcases hc with h1 | ⟨_, h2, h3⟩
  · left
    unfold fu at h1 ⊢
    rw [okN] at h1
    rw [ok, ← e1]
    exact h1
  · right
    exact ⟨h2, by rw [← e2]; exact h3⟩

/-- The cells of a telling. -/
def tlc (a0 a1 : Value) (s0 s1 : Int) (od bc ct st : Value) : Nat → Value
  | 0 => a0
  | 1 => a1
  | 2 => .int .i64 s0
  | 3 => .int .i64 s1
  | 4 => od
  | 5 => bc
  | 6 => ct
  | _ => st

theorem Mid.ofFr {P : Nat → Prop} {lo K : Nat} {w w' : World} (h : Fr P w w') (hK : K ≤ w.heap.size) (hP : ∀ k, lo ≤ k → k < K → ¬ P k) : Mid lo K w w' :=
  ⟨fun k h1 h2 => h.block k (by omega) (hP k h1 h2), h.size⟩

/-- One of its two codes. -/
structure Td (w : World) (R lo K : Nat) (D : Nat → Int) (N least : Nat) (L : Nat → Int) (n : Nat) : Prop where
  cx : Cx w R lo K L n
  gb : Lim.Gb D N 15 L
  ls : least ≤ n
  le : n ≤ N
  zr : ∀ j, n ≤ j → j < N → L j = 0

theorem Td.mid {w w' : World} {R lo K : Nat} {D : Nat → Int} {N least : Nat} {L : Nat → Int} {n : Nat} (h : Td w R lo K D N least L n) (hm : Mid lo K w w') : Td w' R lo K D N least L n :=
  ⟨h.cx.mid hm, h.gb, h.ls, h.le, h.zr⟩

theorem Td.grow {w w' : World} {R lo K K' : Nat} {D : Nat → Int} {N least : Nat} {L : Nat → Int} {n : Nat} (h : Td w R lo K D N least L n) (hm : Mid lo K w w') (hk : K ≤ K') (hw : K' ≤ w'.heap.size) : Td w' R lo K' D N least L n :=
  ⟨(h.cx.mid hm).upper hk hw, h.gb, h.ls, h.le, h.zr⟩

/-- Two rows of lengths, one behind the other. -/
def cat2 (n : Nat) (L M : Nat → Int) (j : Nat) : Int := if j < n then L j else M (j - n)

theorem size144 : (Tryz.prog.info? 144).map (·.size) = some 8 := by kernel_rfl

/-- A row of one's own that is not empty. -/
theorem own_pl {w : World} {base n : Nat} {v : Value} {L : Nat → Int} (h : w.ownsRow base 3 1 v n (ivs L n)) (hn : 0 < n) :
    ∃ g c, v = .slice (some ⟨g, 0, none⟩) n c ∧ Ri w (some ⟨g, 0, none⟩) n c L ∧ base ≤ g ∧ g < w.heap.size := by
  have hlt := h.lt
  rcases h.2 with ⟨rfl, rfl⟩ | ⟨g, cap, cur, rfl, hg, hh, hle, hrest⟩
  · omega
  · refine ⟨g, cap, rfl, ⟨hle, (fun e => by cases e), fun ad had j hj => ?_⟩, hg, (hlt g rfl).2⟩
    cases had
    have := h.cells (g := g) rfl j (.int .i64 (L j)) (vals_get _ _ _ hj)
    simpa using this

theorem tlc_alloc (w : World) (ca : Nat) : (w.alloc (.cells #[.pointer none, .pointer none, .int .i64 0, .int .i64 0, .slice none 0 0, .pointer none, .slice (some ⟨ca, 0, none⟩) 19 19, .slice none 0 0] 144)).rowIs w.heap.size 144 8 (tlc (.pointer none) (.pointer none) 0 0 (.slice none 0 0) (.pointer none) (.slice (some ⟨ca, 0, none⟩) 19 19) (.slice none 0 0)) :=
  World.rowIs_alloc w _ 144 _ (fun i hi => by simp at hi; rcases i with _ | _ | _ | _ | _ | _ | _ | _ | i <;> first | rfl | omega)

/-- The counts' cells. -/
def c2 (g0 g1 : Nat) : Nat → Value
  | 0 => .slice (some ⟨g0, 0, none⟩) 286 286
  | _ => .slice (some ⟨g1, 0, none⟩) 30 30

theorem cat2_app (n m : Nat) (L M : Nat → Int) : ivs (cat2 n L M) (n + m) = ivs L n ++ ivs M m := by
  apply List.ext_getElem?
  intro i
  by_cases h1 : i < n
  · rw [List.getElem?_append_left (by rw [vals_len]; exact h1), vals_get _ _ _ h1, vals_get _ _ _ (by omega)]
    simp [cat2, h1]
  · rw [List.getElem?_append_right (by rw [vals_len]; omega), vals_len]
    by_cases h2 : i < n + m
    · rw [vals_get _ _ _ h2, vals_get _ _ _ (by omega)]
      simp [cat2, h1]
    · rw [List.getElem?_eq_none (by rw [vals_len]; omega), List.getElem?_eq_none (by rw [vals_len]; omega)]

theorem sy_small (D : Nat → Int) (n m : Nat) (h : n ≤ 2 ^ m) : (Lim.sy D n).length ≤ 2 ^ m := Nat.le_trans (Lim.sy_le D n) h

/-- A telling in memory; all of it lies from lo on, below K. -/
structure Tg (w : World) (T lo K : Nat) (D0 D1 : Nat → Int) (R0 R1 Rb nl nd vn : Nat) (L0 L1 Lc : Nat → Int) (qs : List Cl) (oa oc ca : Nat) (sa : Option Addr) (sc : Nat) : Prop where
  row : w.rowIs T 144 8 (tlc (.pointer (some ⟨R0, 0, none⟩)) (.pointer (some ⟨R1, 0, none⟩)) nl nd (.slice (some ⟨oa, 0, none⟩) vn oc) (.pointer (some ⟨Rb, 0, none⟩)) (.slice (some ⟨ca, 0, none⟩) 19 19) (.slice sa qs.length sc))
  t0 : Td w R0 lo K D0 286 257 L0 nl
  t1 : Td w R1 lo K D1 30 1 L1 nd
  cb : Cx w Rb lo K Lc 19
  gc : Lim.Gb (tl 0 (qs.map clst)) 19 7 Lc
  od : Ri w (some ⟨oa, 0, none⟩) vn oc (fun k => Lc (ord k))
  v4 : 4 ≤ vn
  v19 : vn ≤ 19
  vz : ∀ k, vn ≤ k → k < 19 → Lc (ord k) = 0
  ct : w.rowIs ca 3 19 (fun j => .int .i64 (tl 0 (qs.map clst) j))
  st : Ss w sa qs.length (qs.map clst)
  rn : Rns (cat2 nl L0 L1) (nl + nd) (nl + nd) qs
  bT : lo ≤ T ∧ T < K
  bo : lo ≤ oa ∧ oa < K
  bc : lo ≤ ca ∧ ca < K
  bs : ∀ ad, sa = some ad → lo ≤ ad.block ∧ ad.block < K

theorem ri_of {w w' : World} {b n c : Nat} {L : Nat → Int} (h : Ri w (some ⟨b, 0, none⟩) n c L) (hb : w'.heap[b]? = w.heap[b]?) : Ri w' (some ⟨b, 0, none⟩) n c L :=
  ⟨h.le, h.nul, fun ad had j hj => by
    cases had
    have := h.cells _ rfl j hj
    rw [Addr.add_lit] at this ⊢
    rw [World.cell?_of_block (a := ⟨b, 0 + j, none⟩) hb]
    exact this⟩

theorem Tg.mid {w w' : World} {T lo K : Nat} {D0 D1 : Nat → Int} {R0 R1 Rb nl nd vn : Nat} {L0 L1 Lc : Nat → Int} {qs : List Cl} {oa oc ca : Nat} {sa : Option Addr} {sc : Nat} (h : Tg w T lo K D0 D1 R0 R1 Rb nl nd vn L0 L1 Lc qs oa oc ca sa sc) (hm : Mid lo K w w') : Tg w' T lo K D0 D1 R0 R1 Rb nl nd vn L0 L1 Lc qs oa oc ca sa sc :=
  ⟨h.row.of_block (hm.blk _ h.bT.1 h.bT.2), h.t0.mid hm, h.t1.mid hm, h.cb.mid hm, h.gc, ri_of h.od (hm.blk _ h.bo.1 h.bo.2), h.v4, h.v19, h.vz, h.ct.of_block (hm.blk _ h.bc.1 h.bc.2), h.st.of (fun ad had => hm.blk _ (h.bs ad had).1 (h.bs ad had).2), h.rn, h.bT, h.bo, h.bc, h.bs⟩

theorem cl_lt {L : Nat → Int} {n a : Nat} {q : Cl} (h : Rn L n a q) : q.sym < 19 := by
  have ho := h.ok
  cases q with
  | len x => have : x ≤ 15 := ho; show x < 19; omega
  | _ => simp [Cl.sym]

theorem Rns.all {L : Nat → Int} {n a : Nat} {qs : List Cl} (h : Rns L n a qs) : ∀ q ∈ qs, q.sym < 19 := by
  induction h with
  | nil => intro q hq; cases hq
  | snoc a qs q _ hr ih =>
    intro x hx
    rcases List.mem_append.1 hx with h' | h'
    · exact ih x h'
    · obtain rfl : x = q := by simpa using h'
      exact cl_lt hr

theorem cat2_bound {n m : Nat} {L M : Nat → Int} (hL : ∀ j, j < n → 0 ≤ L j ∧ L j ≤ 15) (hM : ∀ j, j < m → 0 ≤ M j ∧ M j ≤ 15) : ∀ j, j < n + m → 0 ≤ cat2 n L M j ∧ cat2 n L M j ≤ 15 := by
  intro j hj
  unfold cat2
  split
  · exact hL j (by omega)
  · exact hM (j - n) (by omega)

/-- While the two codes are made. -/
def Tb (g0 g1 : Nat) (D0 D1 : Nat → Int) (w : World) (Cb Mb T : Nat) (rv iv : Value) (wr : World) : Prop :=
  Below w.heap.size w wr ∧ wr.rowIs Cb 60 2 (c2 g0 g1) ∧ wr.rowIs Mb 3 19 (fun _ => .int .i64 0) ∧
  ((iv = .int .i64 0 ∧ rv = .slice none 0 0 ∧ wr.rowIs T 144 8 (tlc (.pointer none) (.pointer none) 0 0 (.slice none 0 0) (.pointer none) (.slice (some ⟨Mb, 0, none⟩) 19 19) (.slice none 0 0))) ∨
   (iv = .int .i64 1 ∧ ∃ R0 n0 L0 K0, T < K0 ∧ Td wr R0 (T + 1) K0 D0 286 257 L0 n0 ∧ wr.ownsRow K0 3 1 rv n0 (ivs L0 n0) ∧ wr.rowIs T 144 8 (tlc (.pointer (some ⟨R0, 0, none⟩)) (.pointer none) n0 0 (.slice none 0 0) (.pointer none) (.slice (some ⟨Mb, 0, none⟩) 19 19) (.slice none 0 0))) ∨
   (iv = .int .i64 2 ∧ ∃ R0 n0 L0 R1 n1 L1, Td wr R0 (T + 1) wr.heap.size D0 286 257 L0 n0 ∧ Td wr R1 (T + 1) wr.heap.size D1 30 1 L1 n1 ∧ wr.ownsRow (T + 1) 3 1 rv (n0 + n1) (ivs (cat2 n0 L0 L1) (n0 + n1)) ∧ wr.rowIs T 144 8 (tlc (.pointer (some ⟨R0, 0, none⟩)) (.pointer (some ⟨R1, 0, none⟩)) n0 n1 (.slice none 0 0) (.pointer none) (.slice (some ⟨Mb, 0, none⟩) 19 19) (.slice none 0 0))))

theorem ix142 (W : World) : (Instr.index 142 (.agg #[.int .i64 257, .int .i64 1]) (.int .i64 0)).run Tryz.prog W = .ok (.int .i64 257) W ∧ (Instr.index 142 (.agg #[.int .i64 257, .int .i64 1]) (.int .i64 1)).run Tryz.prog W = .ok (.int .i64 1) W := ⟨by kernel_rfl, by kernel_rfl⟩

theorem ownsRow_base {w : World} {base base' e s n : Nat} {v : Value} {xs : List Value} (h : w.ownsRow base e s v n xs) (hb : base' ≤ base) : w.ownsRow base' e s v n xs := by
  refine ⟨h.1, ?_⟩
  rcases h.2 with h' | ⟨g, cap, cur, rfl, h1, h2⟩
  · exact .inl h'
  · exact .inr ⟨g, cap, cur, rfl, by omega, h2⟩

/-- The first of numbers. -/
theorem ri_front {w : World} {b n c m : Nat} {L : Nat → Int} (h : Ri w (some ⟨b, 0, none⟩) n c L) (hm : m ≤ n) : Ri w (some ⟨b, 0, none⟩) m c L :=
  ⟨by have := h.le; omega, (fun e => by cases e), fun ad had j hj => h.cells ad had j (by omega)⟩

set_option maxRecDepth 100000 in
set_option maxHeartbeats 4000000 in
theorem newTelling_any (g0 g1 : Nat) (D0 D1 : Nat → Int) (w : World) (h0 : Ri w (some ⟨g0, 0, none⟩) 286 286 D0) (h1 : Ri w (some ⟨g1, 0, none⟩) 30 30 D1) (hk0 : Lim.okc D0 286 = true) (hk1 : Lim.okc D1 30 = true) (hT : Tab w 1) :
    Calls Tryz.prog 69 #[.agg #[.slice (some ⟨g0, 0, none⟩) 286 286, .slice (some ⟨g1, 0, none⟩) 30 30]] w fun e w' => ∃ T R0 R1 Rb nl nd vn L0 L1 Lc qs oa oc ca sa sc, e = .returned (.pointer (some ⟨T, 0, none⟩)) ∧ Tg w' T w.heap.size w'.heap.size D0 D1 R0 R1 Rb nl nd vn L0 L1 Lc qs oa oc ca sa sc ∧ Below w.heap.size w w' := by
  obtain ⟨i0, hi, hz0, hz1, hz2⟩ := info_parts Tryz.info3
  have hmk : ∀ W, (Instr.makeSlice 59 (.int .i64 19) (.int .i64 19)).run Tryz.prog W = .ok (.slice (some ⟨W.heap.size, 0, none⟩) 19 19) (W.alloc (.cells (madeCells #[.int .i64 0] 19) 3)) := fun W => run_make_row (P := Tryz.prog) 59 3 i0 (.int .i64 0) Tryz.underlying59 hi hz0 hz1 rfl .i64 .i64 19 (by rw [hz2]; omega) (by omega) W
  have HK : Hid (Lim.okc D0 286 = true ∧ Lim.okc D1 30 = true) := ⟨hk0, hk1⟩
  have HD0 : Hid (∀ W, Below w.heap.size w W → Ri W (some ⟨g0, 0, none⟩) 286 286 D0) := fun W hW => h0.keep hW
  have HD1 : Hid (∀ W, Below w.heap.size w W → Ri W (some ⟨g1, 0, none⟩) 30 30 D1) := fun W hW => h1.keep hW
  have HTB : Hid (Tab w 1) := hT
  have a1 : Below w.heap.size w (w.alloc (Obj.cells #[.slice (some ⟨g0, 0, none⟩) 286 286, .slice (some ⟨g1, 0, none⟩) 30 30] 60)) := (Below.refl _ _).alloc (Nat.le_refl _) _
  have r1 : (w.alloc (Obj.cells #[.slice (some ⟨g0, 0, none⟩) 286 286, .slice (some ⟨g1, 0, none⟩) 30 30] 60)).rowIs w.heap.size 60 2 (c2 g0 g1) := World.rowIs_alloc w _ 60 _ (fun i hi => by simp at hi; rcases i with _ | _ | i <;> first | rfl | omega)
  have e1 : (w.alloc (Obj.cells #[.slice (some ⟨g0, 0, none⟩) 286 286, .slice (some ⟨g1, 0, none⟩) 30 30] 60)).heap.size = w.heap.size + 1 := by simp
  have a2 := a1.alloc a1.size (Obj.cells (madeCells #[.int .i64 0] 19) 3)
  have r2 := made_row (w.alloc (Obj.cells #[.slice (some ⟨g0, 0, none⟩) 286 286, .slice (some ⟨g1, 0, none⟩) 30 30] 60)) 19
  rw [e1] at r2
  have a3 := a2.alloc a2.size (Obj.cells #[.pointer none, .pointer none, .int .i64 0, .int .i64 0, .slice none 0 0, .pointer none, .slice (some ⟨w.heap.size + 1, 0, none⟩) 19 19, .slice none 0 0] 144)
  have r3 := tlc_alloc ((w.alloc (Obj.cells #[.slice (some ⟨g0, 0, none⟩) 286 286, .slice (some ⟨g1, 0, none⟩) 30 30] 60)).alloc (Obj.cells (madeCells #[.int .i64 0] 19) 3)) (w.heap.size + 1)
  rw [show ((w.alloc (Obj.cells #[.slice (some ⟨g0, 0, none⟩) 286 286, .slice (some ⟨g1, 0, none⟩) 30 30] 60)).alloc (Obj.cells (madeCells #[.int .i64 0] 19) 3)).heap.size = w.heap.size + 2 by simp] at r3
  obtain ⟨Cb, hCb⟩ : ∃ Cb, Cb = w.heap.size := ⟨_, rfl⟩
  obtain ⟨Mb, hMb⟩ : ∃ Mb, Mb = w.heap.size + 1 := ⟨_, rfl⟩
  obtain ⟨T, hTT⟩ : ∃ T, T = w.heap.size + 1 + 1 := ⟨_, rfl⟩
  have HA : Hid (Cb = w.heap.size ∧ Mb = w.heap.size + 1 ∧ T = w.heap.size + 1 + 1) := ⟨hCb, hMb, hTT⟩
  obtain ⟨W0, hW0⟩ : ∃ W0, W0 = ((w.alloc (Obj.cells #[.slice (some ⟨g0, 0, none⟩) 286 286, .slice (some ⟨g1, 0, none⟩) 30 30] 60)).alloc (Obj.cells (madeCells #[.int .i64 0] 19) 3)).alloc (Obj.cells #[.pointer none, .pointer none, .int .i64 0, .int .i64 0, .slice none 0 0, .pointer none, .slice (some ⟨w.heap.size + 1, 0, none⟩) 19 19, .slice none 0 0] 144) := ⟨_, rfl⟩
  have HST : Hid (Tb g0 g1 D0 D1 w Cb Mb T (.slice none 0 0) (.int .i64 0) W0) := by
    show Tb _ _ _ _ _ _ _ _ _ _ _
    rw [hW0, hCb, hMb, hTT]
    exact ⟨a3, (r1.alloc _).alloc _, r2.alloc _, .inl ⟨rfl, rfl, r3⟩⟩
  have HW0 : Hid (W0 = ((w.alloc (Obj.cells #[.slice (some ⟨g0, 0, none⟩) 286 286, .slice (some ⟨g1, 0, none⟩) 30 30] 60)).alloc (Obj.cells (madeCells #[.int .i64 0] 19) 3)).alloc (Obj.cells #[.pointer none, .pointer none, .int .i64 0, .int .i64 0, .slice none 0 0, .pointer none, .slice (some ⟨w.heap.size + 1, 0, none⟩) 19 19, .slice none 0 0] 144)) := hW0
  clear h0 h1 hk0 hk1 hT a1 r1 e1 a2 r2 a3 r3 hCb hMb hTT hW0
  go_enter Tryz.func69, Tryz.ntmps69
  go_wp2_with fail
  rw [← HW0.out, ← HA.out.2.2, ← HA.out.2.1, ← HA.out.1]
  clear hmk HW0
  go_loopw [4, 15] (fun rv iv wr => Hid (Tb g0 g1 D0 D1 w Cb Mb T rv iv wr)) (fun _ iv _ => 2 - (intOf iv).toNat)
  case atStart => exact HST
  case round =>
    clear HST
    obtain ⟨hB, hC, hM, hcase⟩ := hrel.out
    rcases hcase with ⟨rfl, rfl, hR⟩ | ⟨rfl, R0, n0, L0, K0, hTK, hT0, hO, hR⟩ | ⟨rfl, R0, n0, L0, R1, n1, L1, hT0, hT1, hO, hR⟩
    · have hix := (ix142 wr).1
      have cC := hC.cell (i := 0) (by omega)
      simp only [c2] at cC
      have hbst := best_any (some ⟨g0, 0, none⟩) 286 286 15 D0 wr (HD0.out wr hB) HK.out.1 (by omega) (by omega) (by omega) (sy_small _ _ _ (by omega))
      have HB : Hid (Below w.heap.size w wr) := hB
      have HC : Hid (wr.rowIs Cb 60 2 (c2 g0 g1)) := hC
      have HM : Hid (wr.rowIs Mb 3 19 (fun _ => .int .i64 0)) := hM
      have HR : Hid (wr.rowIs T 144 8 (tlc (.pointer none) (.pointer none) 0 0 (.slice none 0 0) (.pointer none) (.slice (some ⟨Mb, 0, none⟩) 19 19) (.slice none 0 0))) := hR
      have HO : Hid (True) := trivial
      clear hB hC hM hR hrel
      go_wp2_with fail
      refine hbst.mono ?_
      rintro e w1 ⟨B, L, rfl, hr, gb, hBB, hb1⟩
      have hcut := cut_any B 286 286 257 L w1 (Ri.row hr) (by omega) (by omega)
      have HR1 : Hid (w1.rowIs B 3 286 (fun j => .int .i64 (L j)) ∧ Lim.Gb D0 286 15 L ∧ wr.heap.size ≤ B ∧ Below wr.heap.size wr w1) := ⟨hr, gb, hBB, hb1⟩
      clear hbst hr gb hBB hb1 cC
      go_wp2_with fail
      refine hcut.mono ?_
      rintro e w2 ⟨n, rfl, n1', n2', n3, _, hw⟩
      subst w2
      have hcod := codeOf_any (some ⟨B, 0, none⟩) n 286 L w1.drew (ri_front (Ri.row HR1.out.1) n2').drew (nw_cut (HR1.out.2.1.nw (by omega) (by omega)) n2' n3)
      have HN : Hid (∀ j, n ≤ j → j < 286 → L j = 0) := n3
      clear hcut n3
      go_wp2_with fail
      go_region_with (go_at_call 101; refine hcod.mono ?_; rintro e w2 ⟨R, rfl, cx, hb2⟩; have b12 : Below wr.heap.size wr w2 := HR1.out.2.2.2.drew.trans (hb2.mono (HR1.out.2.2.2.drew.size)); have rT2 : w2.rowIs T 144 8 (tlc (.pointer none) (.pointer none) 0 0 (.slice none 0 0) (.pointer none) (.slice (some ⟨Mb, 0, none⟩) 19 19) (.slice none 0 0)) := HR.out.of_block (b12.block _ HR.out.lt); have ct0 := rT2.cell (i := 0) (by omega); have ft0 := rT2.frozen 0; simp only [tlc] at ct0)
      all_goals
        (try simp only [List.getElem_toArray, List.getElem_cons_zero, List.getElem_cons_succ, Act.put, List.setIfInBounds_toArray, List.set_cons_zero, List.set_cons_succ])
        have w12 : w1.drew.heap.size ≤ w2.heap.size := hb2.size
        have wr1 : wr.heap.size ≤ w1.drew.heap.size := HR1.out.2.2.2.drew.size
        have hTl : T < wr.heap.size := HR.out.lt
        obtain ⟨W4, hW4⟩ : ∃ W4, W4 = (w2.setCell ⟨T, 0, none⟩ (.pointer (some ⟨R, 0, none⟩))).setCell ⟨T, 2, none⟩ (.int .i64 n) := ⟨_, rfl⟩
        have rT3 := rT2.set 0 (.pointer (some ⟨R, 0, none⟩))
        have ct2 := rT3.cell (i := 2) (by omega)
        have ft2 := rT3.frozen 2
        simp only [tlc] at ct2
        have rT4 : W4.rowIs T 144 8 (tlc (.pointer (some ⟨R, 0, none⟩)) (.pointer none) n 0 (.slice none 0 0) (.pointer none) (.slice (some ⟨Mb, 0, none⟩) 19 19) (.slice none 0 0)) := by
          rw [hW4]
          exact (rT3.set 2 _).congr (fun i hi => by rcases i with _ | _ | _ | _ | _ | _ | _ | _ | i <;> first | rfl | omega)
        have F4 : Fr (fun k => k = T) w2 W4 := by
          rw [hW4]
          exact ((Fr.refl (fun k => k = T) w2).setCell rfl _).setCell rfl _
        have cx4 : Cx W4 R w1.drew.heap.size w2.heap.size L n := cx.mid (Mid.ofFr F4 (Nat.le_refl _) (fun k h1 h2 e => by omega))
        have rB4 : W4.rowIs B 3 286 (fun j => .int .i64 (L j)) := rowIs_fr (HR1.out.1.drew.of_block (hb2.block _ HR1.out.1.drew.lt)) F4 (fun e => by have := HR1.out.2.2.1; omega)
        have B4 : Below w.heap.size w W4 := (HB.out.trans (b12.mono HB.out.size)).trans (F4.below _ (HB.out.trans (b12.mono HB.out.size)).size (fun i hi e => by have := HA.out; omega))
        have C4 : W4.rowIs Cb 60 2 (c2 g0 g1) := rowIs_fr (HC.out.of_block (b12.block _ HC.out.lt)) F4 (fun e => by have := HA.out; omega)
        have M4 : W4.rowIs Mb 3 19 (fun _ => .int .i64 0) := rowIs_fr (HM.out.of_block (b12.block _ HM.out.lt)) F4 (fun e => by have := HA.out; omega)
        have HI4 : Hid (Cx W4 R w1.drew.heap.size w2.heap.size L n ∧ Below w.heap.size w W4 ∧ W4.rowIs Cb 60 2 (c2 g0 g1) ∧ W4.rowIs Mb 3 19 (fun _ => .int .i64 0) ∧ W4.rowIs T 144 8 (tlc (.pointer (some ⟨R, 0, none⟩)) (.pointer none) n 0 (.slice none 0 0) (.pointer none) (.slice (some ⟨Mb, 0, none⟩) 19 19) (.slice none 0 0)) ∧ wr.heap.size ≤ w1.drew.heap.size ∧ w2.heap.size ≤ W4.heap.size) := ⟨cx4, B4, C4, M4, rT4, wr1, F4.size⟩
        have HB4 : Hid (Ri W4 (some ⟨B, 0, none⟩) n 286 L) := ri_front (Ri.row rB4) n2'
        have hn9 : n ≤ 300 := by omega
        have HW4 : Hid (W4 = (w2.setCell ⟨T, 0, none⟩ (.pointer (some ⟨R, 0, none⟩))).setCell ⟨T, 2, none⟩ (.int .i64 n)) := hW4
        clear hcod cx hb2 b12 rT2 ct0 ft0 rT3 rT4 F4 cx4 rB4 B4 C4 M4 hW4 w12 wr1
        go_wp2_with (at_builtin; rw [← HW4.out]; refine wpList_append_own _ rfl _ _ 59 rfl W4.heap.size 3 i0 (.int .i64 0) 1 8 Tryz.underlying59 hi hz0 hz1 hz2 rfl (by decide) (.slice none 0 0) 0 [] rfl (World.ownsRow_nil _ _ _ _) ⟨B, 0, none⟩ n 286 (ivs L n) rfl (by rw [vals_len]; omega) (HB4.out.cellsOf _ rfl) (ivs_one _ _) (by unfold maxLen; omega) (by omega) (Nat.le_refl _) ?_; intro v5 w5 o5 g5 n5)
        obtain ⟨cx4, B4, C4, M4, rT4, wr1, w24⟩ := HI4.out
        have hTw := HA.out
        have F5 : Fr (fun k => ((.slice none 0 0) : Value).ownBlock = some k) W4 w5 := (Fr.refl _ W4).grown g5 (fun k _ e => e)
        have hown : ∀ k, ((.slice none 0 0) : Value).ownBlock = some k → T < k ∧ k < wr.heap.size := fun k hk => by
          cases hk
        have HTB5 : Hid (Tb g0 g1 D0 D1 w Cb Mb T v5 (.int .i64 1) w5) := by
          have cx5 : Cx w5 R w1.drew.heap.size w2.heap.size L n := cx4.mid (Mid.ofFr F5 w24 (fun k h1 h2 e => by have := hown k e; omega))
          refine ⟨B4.grown g5 B4.size (fun q hq => by have := hown q hq; omega), rowIs_fr C4 F5 (fun e => by have := hown _ e; omega), rowIs_fr M4 F5 (fun e => by have := hown _ e; omega), .inr (.inl ⟨rfl, R, n, L, W4.heap.size, rT4.lt, ?_, ?_, rowIs_fr rT4 F5 (fun e => by have := hown _ e; omega)⟩)⟩
          · exact ⟨(cx5.lower (by omega)).upper w24 F5.size, HR1.out.2.1, n1', n2', HN.out⟩
          · simpa using o5
        clear o5 g5 n5 HI4 HB4 cx4 B4 C4 M4 rT4 F5
        go_roundw
        case rel => exact HTB5
        case measure => simp [intOf]
    · have hix := (ix142 wr).2
      have cC := hC.cell (i := 1) (by omega)
      simp only [c2] at cC
      have hbst := best_any (some ⟨g1, 0, none⟩) 30 30 15 D1 wr (HD1.out wr hB) HK.out.2 (by omega) (by omega) (by omega) (sy_small _ _ _ (by omega))
      have HB : Hid (Below w.heap.size w wr) := hB
      have HC : Hid (wr.rowIs Cb 60 2 (c2 g0 g1)) := hC
      have HM : Hid (wr.rowIs Mb 3 19 (fun _ => .int .i64 0)) := hM
      have HR : Hid (wr.rowIs T 144 8 (tlc (.pointer (some ⟨R0, 0, none⟩)) (.pointer none) n0 0 (.slice none 0 0) (.pointer none) (.slice (some ⟨Mb, 0, none⟩) 19 19) (.slice none 0 0))) := hR
      have HO : Hid (wr.ownsRow K0 3 1 u4 n0 (ivs L0 n0)) := hO
      have HT0 : Hid (Td wr R0 (T + 1) K0 D0 286 257 L0 n0) := hT0
      clear hB hC hM hR hrel hT0 hO
      go_wp2_with fail
      refine hbst.mono ?_
      rintro e w1 ⟨B, L, rfl, hr, gb, hBB, hb1⟩
      have hcut := cut_any B 30 30 1 L w1 (Ri.row hr) (by omega) (by omega)
      have HR1 : Hid (w1.rowIs B 3 30 (fun j => .int .i64 (L j)) ∧ Lim.Gb D1 30 15 L ∧ wr.heap.size ≤ B ∧ Below wr.heap.size wr w1) := ⟨hr, gb, hBB, hb1⟩
      clear hbst hr gb hBB hb1 cC
      go_wp2_with fail
      refine hcut.mono ?_
      rintro e w2 ⟨n, rfl, n1', n2', n3, _, hw⟩
      subst w2
      have hcod := codeOf_any (some ⟨B, 0, none⟩) n 30 L w1.drew (ri_front (Ri.row HR1.out.1) n2').drew (nw_cut (HR1.out.2.1.nw (by omega) (by omega)) n2' n3)
      have HN : Hid (∀ j, n ≤ j → j < 30 → L j = 0) := n3
      clear hcut n3
      go_wp2_with fail
      go_region_with (go_at_call 101; refine hcod.mono ?_; rintro e w2 ⟨R, rfl, cx, hb2⟩; have b12 : Below wr.heap.size wr w2 := HR1.out.2.2.2.drew.trans (hb2.mono (HR1.out.2.2.2.drew.size)); have rT2 : w2.rowIs T 144 8 (tlc (.pointer (some ⟨R0, 0, none⟩)) (.pointer none) n0 0 (.slice none 0 0) (.pointer none) (.slice (some ⟨Mb, 0, none⟩) 19 19) (.slice none 0 0)) := HR.out.of_block (b12.block _ HR.out.lt); have ct0 := rT2.cell (i := 1) (by omega); have ft0 := rT2.frozen 1; simp only [tlc] at ct0)
      all_goals
        (try simp only [List.getElem_toArray, List.getElem_cons_zero, List.getElem_cons_succ, Act.put, List.setIfInBounds_toArray, List.set_cons_zero, List.set_cons_succ])
        have w12 : w1.drew.heap.size ≤ w2.heap.size := hb2.size
        have wr1 : wr.heap.size ≤ w1.drew.heap.size := HR1.out.2.2.2.drew.size
        have hTl : T < wr.heap.size := HR.out.lt
        obtain ⟨W4, hW4⟩ : ∃ W4, W4 = (w2.setCell ⟨T, 1, none⟩ (.pointer (some ⟨R, 0, none⟩))).setCell ⟨T, 3, none⟩ (.int .i64 n) := ⟨_, rfl⟩
        have rT3 := rT2.set 1 (.pointer (some ⟨R, 0, none⟩))
        have ct2 := rT3.cell (i := 3) (by omega)
        have ft2 := rT3.frozen 3
        simp only [tlc] at ct2
        have rT4 : W4.rowIs T 144 8 (tlc (.pointer (some ⟨R0, 0, none⟩)) (.pointer (some ⟨R, 0, none⟩)) n0 n (.slice none 0 0) (.pointer none) (.slice (some ⟨Mb, 0, none⟩) 19 19) (.slice none 0 0)) := by
          rw [hW4]
          exact (rT3.set 3 _).congr (fun i hi => by rcases i with _ | _ | _ | _ | _ | _ | _ | _ | i <;> first | rfl | omega)
        have F4 : Fr (fun k => k = T) w2 W4 := by
          rw [hW4]
          exact ((Fr.refl (fun k => k = T) w2).setCell rfl _).setCell rfl _
        have cx4 : Cx W4 R w1.drew.heap.size w2.heap.size L n := cx.mid (Mid.ofFr F4 (Nat.le_refl _) (fun k h1 h2 e => by omega))
        have rB4 : W4.rowIs B 3 30 (fun j => .int .i64 (L j)) := rowIs_fr (HR1.out.1.drew.of_block (hb2.block _ HR1.out.1.drew.lt)) F4 (fun e => by have := HR1.out.2.2.1; omega)
        have B4 : Below w.heap.size w W4 := (HB.out.trans (b12.mono HB.out.size)).trans (F4.below _ (HB.out.trans (b12.mono HB.out.size)).size (fun i hi e => by have := HA.out; omega))
        have C4 : W4.rowIs Cb 60 2 (c2 g0 g1) := rowIs_fr (HC.out.of_block (b12.block _ HC.out.lt)) F4 (fun e => by have := HA.out; omega)
        have M4 : W4.rowIs Mb 3 19 (fun _ => .int .i64 0) := rowIs_fr (HM.out.of_block (b12.block _ HM.out.lt)) F4 (fun e => by have := HA.out; omega)
        have hn0 := HT0.out.le
        have HO4 : Hid (W4.ownsRow K0 3 1 u4 n0 (ivs L0 n0) ∧ Td W4 R0 (T + 1) K0 D0 286 257 L0 n0 ∧ K0 ≤ W4.heap.size) := ⟨ownsRow_fr (own_keep HO.out b12) F4 (fun k hk e => by have := (HO.out.lt k hk).1; omega), (HT0.out.mid (Mid.ofBelow (b12.mono HT0.out.cx.K_le))).mid (Mid.ofFr F4 (Nat.le_trans HT0.out.cx.K_le (Nat.le_trans wr1 w12)) (fun k h1 h2 e => by omega)), Nat.le_trans HT0.out.cx.K_le (Nat.le_trans wr1 (Nat.le_trans w12 F4.size))⟩
        have HI4 : Hid (Cx W4 R w1.drew.heap.size w2.heap.size L n ∧ Below w.heap.size w W4 ∧ W4.rowIs Cb 60 2 (c2 g0 g1) ∧ W4.rowIs Mb 3 19 (fun _ => .int .i64 0) ∧ W4.rowIs T 144 8 (tlc (.pointer (some ⟨R0, 0, none⟩)) (.pointer (some ⟨R, 0, none⟩)) n0 n (.slice none 0 0) (.pointer none) (.slice (some ⟨Mb, 0, none⟩) 19 19) (.slice none 0 0)) ∧ wr.heap.size ≤ w1.drew.heap.size ∧ w2.heap.size ≤ W4.heap.size) := ⟨cx4, B4, C4, M4, rT4, wr1, F4.size⟩
        have HB4 : Hid (Ri W4 (some ⟨B, 0, none⟩) n 30 L) := ri_front (Ri.row rB4) n2'
        have hn9 : n ≤ 300 := by omega
        have HW4 : Hid (W4 = (w2.setCell ⟨T, 1, none⟩ (.pointer (some ⟨R, 0, none⟩))).setCell ⟨T, 3, none⟩ (.int .i64 n)) := hW4
        clear hcod cx hb2 b12 rT2 ct0 ft0 rT3 rT4 F4 cx4 rB4 B4 C4 M4 hW4 w12 wr1
        go_wp2_with (at_builtin; rw [← HW4.out]; refine wpList_append_own _ rfl _ _ 59 rfl K0 3 i0 (.int .i64 0) 1 8 Tryz.underlying59 hi hz0 hz1 hz2 rfl (by decide) u4 n0 _ rfl HO4.out.1 ⟨B, 0, none⟩ n 30 (ivs L n) rfl (by rw [vals_len]; omega) (HB4.out.cellsOf _ rfl) (ivs_one _ _) (by unfold maxLen; omega) (by omega) HO4.out.2.2 ?_; intro v5 w5 o5 g5 n5)
        obtain ⟨cx4, B4, C4, M4, rT4, wr1, w24⟩ := HI4.out
        have hTw := HA.out
        have F5 : Fr (fun k => (u4 : Value).ownBlock = some k) W4 w5 := (Fr.refl _ W4).grown g5 (fun k _ e => e)
        have hown : ∀ k, (u4 : Value).ownBlock = some k → T < k ∧ k < wr.heap.size := fun k hk => by
          have := HO.out.lt k hk; omega
        have HTB5 : Hid (Tb g0 g1 D0 D1 w Cb Mb T v5 (.int .i64 2) w5) := by
          have cx5 : Cx w5 R w1.drew.heap.size w2.heap.size L n := cx4.mid (Mid.ofFr F5 w24 (fun k h1 h2 e => by have := hown k e; omega))
          refine ⟨B4.grown g5 B4.size (fun q hq => by have := hown q hq; omega), rowIs_fr C4 F5 (fun e => by have := hown _ e; omega), rowIs_fr M4 F5 (fun e => by have := hown _ e; omega), .inr (.inr ⟨rfl, R0, n0, L0, R, n, L, ?_, ?_, ?_, rowIs_fr rT4 F5 (fun e => by have := hown _ e; omega)⟩)⟩
          · have h5 := HO4.out.2.1.mid (Mid.ofFr F5 HO4.out.2.2 (fun k h1 h2 e => by have := (HO.out.lt k e).1; omega))
            exact h5.grow (Mid.refl _ _ _) (Nat.le_trans HO4.out.2.2 F5.size) (Nat.le_refl _)
          · exact ⟨(cx5.lower (by omega)).upper (Nat.le_trans w24 F5.size) (Nat.le_refl _), HR1.out.2.1, n1', n2', HN.out⟩
          · rw [cat2_app]
            exact ownsRow_base o5 (by omega)
        clear o5 g5 n5 HI4 HB4 cx4 B4 C4 M4 rT4 F5 HO4
        go_roundw
        case rel => exact HTB5
        case measure => simp [intOf]
    · obtain ⟨g, c, rfl, hri, hg1, hg2⟩ := own_pl hO (by have := hT0.ls; omega)
      have n0l := hT0.ls
      have n0u := hT0.le
      have n1l := hT1.ls
      have n1u := hT1.le
      have hlm := cat2_bound (n := n0) (m := n1) (L := L0) (M := L1) (fun j hj => hT0.gb.lm (by omega) j (by omega)) (fun j hj => hT1.gb.lm (by omega) j (by omega))
      have hrns := runs_any g (n0 + n1) c (cat2 n0 L0 L1) wr hri (by omega) hlm
      have HS : Hid (Below w.heap.size w wr ∧ wr.rowIs Mb 3 19 (fun _ => .int .i64 0) ∧ Td wr R0 (T + 1) wr.heap.size D0 286 257 L0 n0 ∧ Td wr R1 (T + 1) wr.heap.size D1 30 1 L1 n1 ∧ wr.rowIs T 144 8 (tlc (.pointer (some ⟨R0, 0, none⟩)) (.pointer (some ⟨R1, 0, none⟩)) n0 n1 (.slice none 0 0) (.pointer none) (.slice (some ⟨Mb, 0, none⟩) 19 19) (.slice none 0 0))) := ⟨hB, hM, hT0, hT1, hR⟩
      clear hrel hB hC hM hT0 hT1 hR hO hlm hri
      go_wp2_with fail
      refine hrns.mono ?_
      rintro e w1 ⟨v, qs, rfl, hqs, ho, hb1⟩
      obtain ⟨sa, sc, rfl, hsc, hss, _, hsb⟩ := own_ss ho
      obtain ⟨s1, s2, s3, s4, s5⟩ := HS.out
      have B1 := s1.trans (hb1.mono s1.size)
      have rT1 := s5.of_block (hb1.block _ s5.lt)
      have ct7 := rT1.cell (i := 7) (by omega)
      have ft7 := rT1.frozen 7
      simp only [tlc] at ct7
      obtain ⟨m, hm⟩ : ∃ m, m = qs.length := ⟨_, rfl⟩
      obtain ⟨W2, hW2⟩ : ∃ W2, W2 = w1.setCell ⟨T, 7, none⟩ (.slice sa m sc) := ⟨_, rfl⟩
      have F2 : Fr (fun k => k = T) w1 W2 := by rw [hW2]; exact (Fr.refl (fun k => k = T) w1).setCell rfl _
      have rT2 : W2.rowIs T 144 8 (tlc (.pointer (some ⟨R0, 0, none⟩)) (.pointer (some ⟨R1, 0, none⟩)) n0 n1 (.slice none 0 0) (.pointer none) (.slice (some ⟨Mb, 0, none⟩) 19 19) (.slice sa m sc)) := by
        rw [hW2]
        exact (rT1.set 7 _).congr (fun i hi => by rcases i with _ | _ | _ | _ | _ | _ | _ | _ | i <;> first | rfl | omega)
      have hTw := HA.out
      have B2 : Below w.heap.size w W2 := B1.trans (F2.below _ B1.size (fun i hi e => by omega))
      have M2 : W2.rowIs Mb 3 19 (fun _ => .int .i64 0) := rowIs_fr (s2.of_block (hb1.block _ s2.lt)) F2 (fun e => by omega)
      have t2 : Td W2 R0 (T + 1) W2.heap.size D0 286 257 L0 n0 := (s3.grow (Mid.ofBelow hb1) hb1.size (Nat.le_refl _)).grow (Mid.ofFr F2 (Nat.le_refl _) (fun k h1 h2 e => by omega)) F2.size (Nat.le_refl _)
      have t2' : Td W2 R1 (T + 1) W2.heap.size D1 30 1 L1 n1 := (s4.grow (Mid.ofBelow hb1) hb1.size (Nat.le_refl _)).grow (Mid.ofFr F2 (Nat.le_refl _) (fun k h1 h2 e => by omega)) F2.size (Nat.le_refl _)
      have hsb' : ∀ ad, sa = some ad → T < ad.block ∧ ad.block < W2.heap.size := fun ad had => by
        have h1 := hsb ad had
        have h2 := (ho.lt ad.block h1.1)
        have h3 := s5.lt
        have h4 := F2.size
        exact ⟨by omega, by omega⟩
      have hss2 : Ss W2 sa qs.length (qs.map clst) := hss.of (fun ad had => F2.block _ (by have := (hsb ad had).1; exact (ho.lt _ this).2) (fun e => by have := hsb' ad had; omega))
      have HF : Hid (Below w.heap.size w W2 ∧ Td W2 R0 (T + 1) W2.heap.size D0 286 257 L0 n0 ∧ Td W2 R1 (T + 1) W2.heap.size D1 30 1 L1 n1 ∧ W2.rowIs T 144 8 (tlc (.pointer (some ⟨R0, 0, none⟩)) (.pointer (some ⟨R1, 0, none⟩)) n0 n1 (.slice none 0 0) (.pointer none) (.slice (some ⟨Mb, 0, none⟩) 19 19) (.slice sa m sc)) ∧ (∀ ad, sa = some ad → T < ad.block ∧ ad.block < W2.heap.size) ∧ Ss W2 sa qs.length (qs.map clst) ∧ Rns (cat2 n0 L0 L1) (n0 + n1) (n0 + n1) qs) := ⟨B2, t2, t2', rT2, hsb', hss2, hqs⟩
      have HMB : Hid (W2.rowIs Mb 3 19 (fun j => .int .i64 (tl 0 ((qs.map clst).take 0) j))) := M2.congr (fun j hj => by simp [tl])
      have HQM : Hid (m = qs.length) := hm
      have hm4 : m ≤ 400 := by have := hqs.len; omega
      have HW2 : Hid (W2 = w1.setCell ⟨T, 7, none⟩ (.slice sa m sc)) := hW2
      have rT2c := rT2.cell (i := 7) (by omega)
      simp only [tlc] at rT2c
      rw [hW2] at rT2c
      rw [← hm]
      clear hrns HS hqs ho hss hsb s1 s2 s3 s4 s5 B1 rT1 hb1 hsc hW2 F2 rT2 B2 M2 t2 t2' hsb' hss2 hm hTw
      go_wp2_with fail
      rw [← HW2.out]
      clear ct7 ft7 rT2c HW2
      go_loopw [53] (fun iv wr => ∃ k : Nat, k ≤ m ∧ iv = .int .i64 k ∧ Hid (wr.rowIs Mb 3 19 (fun j => .int .i64 (tl 0 ((qs.map clst).take k) j))) ∧ Hid (Fr (fun b => b = Mb) W2 wr)) (fun iv _ => m - (intOf iv).toNat)
      case atStart => exact ⟨0, by omega, rfl, HMB, Fr.refl _ _⟩
      case round =>
        clear HMB
        obtain ⟨k, hk, rfl, HM, HFR⟩ := hrel
        obtain ⟨f1, f2, f3, f4, f5, f6, f7⟩ := HF.out
        have hTw := HA.out
        have rTr : wr.rowIs T 144 8 (tlc (.pointer (some ⟨R0, 0, none⟩)) (.pointer (some ⟨R1, 0, none⟩)) n0 n1 (.slice none 0 0) (.pointer none) (.slice (some ⟨Mb, 0, none⟩) 19 19) (.slice sa m sc)) := rowIs_fr f4 HFR.out (fun e => by omega)
        have a6 := rTr.cell (i := 6) (by omega)
        simp only [tlc] at a6
        by_cases hlt : k < m
        · have hqk : k < qs.length := by have := HQM.out; omega
          obtain ⟨b, off, hsa, x0, x1, x2, x3⟩ := f6.cells k hqk
          have hbl := f5 _ hsa
          simp only at hbl
          have hblk : wr.heap[b]? = W2.heap[b]? := HFR.out.block b hbl.2 (fun e => by omega)
          have y0 : wr.cell? ⟨b, off + k * 4, none⟩ = some (.int .i64 ((qs.map clst).getD k sz0).1) := by rw [World.cell?_of_block (a := ⟨b, off + k * 4, none⟩) hblk]; exact x0
          have y1 : wr.cell? ⟨b, off + k * 4 + 1, none⟩ = some (.int .i64 ((qs.map clst).getD k sz0).2.1) := by rw [World.cell?_of_block (a := ⟨b, off + k * 4 + 1, none⟩) hblk]; exact x1
          have y2 : wr.cell? ⟨b, off + k * 4 + 2, none⟩ = some (.int .i64 ((qs.map clst).getD k sz0).2.2.1) := by rw [World.cell?_of_block (a := ⟨b, off + k * 4 + 2, none⟩) hblk]; exact x2
          have y3 : wr.cell? ⟨b, off + k * 4 + 3, none⟩ = some (.int .i64 ((qs.map clst).getD k sz0).2.2.2) := by rw [World.cell?_of_block (a := ⟨b, off + k * 4 + 3, none⟩) hblk]; exact x3
          have hgd : (qs.map clst).getD k sz0 = clst (qs[k]'hqk) := by simp [List.getD, hqk]
          have hsy := clst_sym (qs[k]'hqk)
          have h19 := f7.all (qs[k]'hqk) (by simp)
          have htk : (qs.map clst).take (k + 1) = (qs.map clst).take k ++ [(qs.map clst).getD k sz0] := Lzz.take_one _ sz0 k (by simp; omega)
          obtain ⟨y, hy⟩ : ∃ y, y = (qs[k]'hqk).sym := ⟨_, rfl⟩
          rw [hgd] at y0 y1 y2 y3 htk
          rw [hsy.1] at y0
          rw [hsy.2, ← hy] at y1
          rw [← hy] at h19
          have hcs : (clst (qs[k]'hqk)).1 = 0 ∧ (clst (qs[k]'hqk)).2.1 = (y : Int) := ⟨hsy.1, by rw [hsy.2, hy]⟩
          obtain ⟨st, hst⟩ : ∃ st, st = clst (qs[k]'hqk) := ⟨_, rfl⟩
          rw [← hst] at y2 y3 htk hcs
          obtain ⟨q0, q1, q2, q3⟩ := st
          simp only at y2 y3 hcs
          obtain ⟨tv, htv⟩ : ∃ tv, tv = tl 0 ((qs.map clst).take k) y := ⟨_, rfl⟩
          have hbd := tl_bound 0 ((qs.map clst).take k) y
          rw [← htv, List.length_take, List.length_map] at hbd
          have bX : Below wr.heap.size wr (wr.alloc (Obj.cells #[Value.int .i64 0, Value.int .i64 y, Value.int .i64 q2, Value.int .i64 q3] 109)) := (Below.refl _ _).alloc (Nat.le_refl _) _
          have rMX := (HM.out.of_block (bX.block _ HM.out.lt)).drew
          have rTX := (rTr.of_block (bX.block _ rTr.lt)).drew
          have z6 := rTX.cell (i := 6) (by omega)
          have zm := rMX.cell (i := y) h19
          have zf := rMX.frozen y
          simp only [tlc] at z6
          rw [← htv] at zm
          have HRM : Hid (((wr.alloc (Obj.cells #[Value.int .i64 0, Value.int .i64 y, Value.int .i64 q2, Value.int .i64 q3] 109)).drew.setCell ⟨Mb, y, none⟩ (.int .i64 (tv + 1))).rowIs Mb 3 19 (fun j => .int .i64 (tl 0 ((qs.map clst).take (k + 1)) j))) := by
            refine (rMX.set y _).congr (fun j hj => ?_)
            rw [htk, tl_app, tl_one, hcs.1, hcs.2]
            by_cases hjy : j = y
            · subst hjy
              simp [htv]
            · have : ¬ (y : Int) = (j : Int) := by omega
              simp [hjy, this]
          have HFX : Hid (Fr (fun b => b = Mb) W2 ((wr.alloc (Obj.cells #[Value.int .i64 0, Value.int .i64 y, Value.int .i64 q2, Value.int .i64 q3] 109)).drew.setCell ⟨Mb, y, none⟩ (.int .i64 (tv + 1)))) := ((HFR.out.alloc _).drew).setCell rfl _
          have hb0 : 0 ≤ tv := hbd.1
          have hb4 : tv ≤ 400 := by omega
          subst hsa
          clear f1 f2 f3 f4 f5 f6 f7 hTw rTr x0 x1 x2 x3 hbl hblk hgd hsy htk hy hcs hst htv hbd bX rMX rTX HM HFR hqk a6
          go_wp2_with fail
          go_region
          go_wp2
          go_roundw
          case rel => exact ⟨k + 1, by omega, by go_num, HRM, HFX⟩
          case measure => simp [intOf]; omega
        · obtain rfl : k = m := by omega
          have hfull : (qs.map clst).take k = qs.map clst := by rw [HQM.out, ← List.length_map (f := clst), List.take_length]
          have rM : wr.rowIs Mb 3 19 (fun j => .int .i64 (tl 0 (qs.map clst) j)) := by have := HM.out; rw [hfull] at this; exact this
          have hokc : Lim.okc (tl 0 (qs.map clst)) 19 = true := (Lim.okc_iff _ 19).2 ⟨by omega, fun j _ => by
            have := tl_bound 0 (qs.map clst) j
            rw [List.length_map] at this
            have := HQM.out
            exact ⟨by omega, by omega⟩⟩
          have hbst := best_any (some ⟨Mb, 0, none⟩) 19 19 7 (tl 0 (qs.map clst)) wr (Ri.row rM) hokc (by omega) (by omega) (by omega) (sy_small _ _ _ (by omega))
          have Br : Below w.heap.size w wr := f1.trans (HFR.out.below _ f1.size (fun i hi e => by omega))
          have md : Mid (T + 1) W2.heap.size W2 wr := Mid.ofFr HFR.out (Nat.le_refl _) (fun k h1 h2 e => by omega)
          have g2 : Td wr R0 (T + 1) wr.heap.size D0 286 257 L0 n0 := f2.grow md md.sz (Nat.le_refl _)
          have g3 : Td wr R1 (T + 1) wr.heap.size D1 30 1 L1 n1 := f3.grow md md.sz (Nat.le_refl _)
          have g5 : ∀ ad, sa = some ad → T < ad.block ∧ ad.block < wr.heap.size := fun ad had => ⟨(f5 ad had).1, by have := (f5 ad had).2; have := md.sz; omega⟩
          have g6 : Ss wr sa qs.length (qs.map clst) := f6.of (fun ad had => HFR.out.block _ (f5 ad had).2 (fun e => by have := f5 ad had; omega))
          have HG : Hid (Below w.heap.size w wr ∧ Td wr R0 (T + 1) wr.heap.size D0 286 257 L0 n0 ∧ Td wr R1 (T + 1) wr.heap.size D1 30 1 L1 n1 ∧ wr.rowIs T 144 8 (tlc (.pointer (some ⟨R0, 0, none⟩)) (.pointer (some ⟨R1, 0, none⟩)) n0 n1 (.slice none 0 0) (.pointer none) (.slice (some ⟨Mb, 0, none⟩) 19 19) (.slice sa k sc)) ∧ (∀ ad, sa = some ad → T < ad.block ∧ ad.block < wr.heap.size) ∧ Ss wr sa qs.length (qs.map clst) ∧ Rns (cat2 n0 L0 L1) (n0 + n1) (n0 + n1) qs ∧ wr.rowIs Mb 3 19 (fun j => .int .i64 (tl 0 (qs.map clst) j))) := ⟨Br, g2, g3, rTr, g5, g6, f7, rM⟩
          clear f1 f2 f3 f4 f5 f6 f7 hfull rM hokc Br md g2 g3 g5 g6 HM HFR rTr HF hTw
          go_wp2_with fail
          refine hbst.mono ?_
          rintro e w1 ⟨B, Lc, rfl, rB, gb, hBB, hb1⟩
          have hcod := codeOf_any (some ⟨B, 0, none⟩) 19 19 Lc w1 (Ri.row rB) (gb.nw (by omega) (by omega))
          have H1 : Hid (w1.rowIs B 3 19 (fun j => .int .i64 (Lc j)) ∧ Lim.Gb (tl 0 (qs.map clst)) 19 7 Lc ∧ wr.heap.size ≤ B ∧ Below wr.heap.size wr w1) := ⟨rB, gb, hBB, hb1⟩
          clear hbst rB gb hBB hb1 a6
          go_wp2_with fail
          refine hcod.mono ?_
          rintro e w2 ⟨Rb, rfl, cxb, hb2⟩
          have hTw := HA.out
          obtain ⟨g1, g2, g3, g4, g5, g6, g7, g8⟩ := HG.out
          obtain ⟨k1, k2, k3, k4⟩ := H1.out
          have b12 : Below wr.heap.size wr w2 := k4.trans (hb2.mono k4.size)
          have rT2 := g4.of_block (b12.block _ g4.lt)
          have ct5 := rT2.cell (i := 5) (by omega)
          have ft5 := rT2.frozen 5
          simp only [tlc] at ct5
          have hTl := g4.lt
          have w1r := k4.size
          have w12 := hb2.size
          obtain ⟨W3, hW3⟩ : ∃ W3, W3 = w2.setCell ⟨T, 5, none⟩ (.pointer (some ⟨Rb, 0, none⟩)) := ⟨_, rfl⟩
          have F3 : Fr (fun k => k = T) w2 W3 := by rw [hW3]; exact (Fr.refl (fun k => k = T) w2).setCell rfl _
          have rT3 : W3.rowIs T 144 8 (tlc (.pointer (some ⟨R0, 0, none⟩)) (.pointer (some ⟨R1, 0, none⟩)) n0 n1 (.slice none 0 0) (.pointer (some ⟨Rb, 0, none⟩)) (.slice (some ⟨Mb, 0, none⟩) 19 19) (.slice sa k sc)) := by
            rw [hW3]
            exact (rT2.set 5 _).congr (fun i hi => by rcases i with _ | _ | _ | _ | _ | _ | _ | _ | i <;> first | rfl | omega)
          have md3 : Mid (T + 1) w2.heap.size w2 W3 := Mid.ofFr F3 (Nat.le_refl _) (fun k h1 h2 e => by omega)
          have B2 := g1.trans (b12.mono g1.size)
          have B3 : Below w.heap.size w W3 := B2.trans (F3.below _ B2.size (fun i hi e => by omega))
          have t3 : Td W3 R0 (T + 1) W3.heap.size D0 286 257 L0 n0 := (g2.grow (Mid.ofBelow b12) b12.size (Nat.le_refl _)).grow md3 md3.sz (Nat.le_refl _)
          have t3' : Td W3 R1 (T + 1) W3.heap.size D1 30 1 L1 n1 := (g3.grow (Mid.ofBelow b12) b12.size (Nat.le_refl _)).grow md3 md3.sz (Nat.le_refl _)
          have cx3 : Cx W3 Rb (T + 1) W3.heap.size Lc 19 := ((cxb.lower (by omega)).mid md3).upper md3.sz (Nat.le_refl _)
          have s3 : Ss W3 sa qs.length (qs.map clst) := (g6.keep b12).of (fun ad had => F3.block _ (by have := (g5 ad had).2; omega) (fun e => by have := (g5 ad had).1; omega))
          have m3 : W3.rowIs Mb 3 19 (fun j => .int .i64 (tl 0 (qs.map clst) j)) := rowIs_fr (g8.of_block (b12.block _ g8.lt)) F3 (fun e => by omega)
          have rB3 : W3.rowIs B 3 19 (fun j => .int .i64 (Lc j)) := rowIs_fr (k1.of_block (hb2.block _ k1.lt)) F3 (fun e => by omega)
          have tb3 : Tab W3 1 := fun j hj => by
            have := HTB.out j hj
            rw [B3.cell (World.block_lt_of_cell? w _ this)]
            exact this
          have hin := inOrder_z B Lc W3 (Ri.row rB3) tb3
          have HG3 : Hid (Below w.heap.size w W3 ∧ Td W3 R0 (T + 1) W3.heap.size D0 286 257 L0 n0 ∧ Td W3 R1 (T + 1) W3.heap.size D1 30 1 L1 n1 ∧ Cx W3 Rb (T + 1) W3.heap.size Lc 19 ∧ W3.rowIs T 144 8 (tlc (.pointer (some ⟨R0, 0, none⟩)) (.pointer (some ⟨R1, 0, none⟩)) n0 n1 (.slice none 0 0) (.pointer (some ⟨Rb, 0, none⟩)) (.slice (some ⟨Mb, 0, none⟩) 19 19) (.slice sa k sc)) ∧ (∀ ad, sa = some ad → T < ad.block ∧ ad.block < W3.heap.size) ∧ Ss W3 sa qs.length (qs.map clst) ∧ W3.rowIs Mb 3 19 (fun j => .int .i64 (tl 0 (qs.map clst) j))) := ⟨B3, t3, t3', cx3, rT3, fun ad had => ⟨(g5 ad had).1, by have := (g5 ad had).2; have := F3.size; omega⟩, s3, m3⟩
          have HQ7 : Hid (Rns (cat2 n0 L0 L1) (n0 + n1) (n0 + n1) qs ∧ Lim.Gb (tl 0 (qs.map clst)) 19 7 Lc) := ⟨g7, k2⟩
          have HW3 : Hid (W3 = w2.setCell ⟨T, 5, none⟩ (.pointer (some ⟨Rb, 0, none⟩))) := hW3
          clear hcod cxb hb2 g1 g2 g3 g4 g5 g6 g7 g8 k1 k2 k3 k4 b12 rT2 hTl w1r w12 hW3 F3 rT3 md3 B2 B3 t3 t3' cx3 s3 m3 rB3 tb3 HG H1 hTw
          go_wp2_with fail
          rw [← HW3.out]
          clear ct5 ft5 HW3
          refine hin.mono ?_
          rintro e w4 ⟨v4, rfl, o4, b4⟩
          obtain ⟨oa, oc, rfl, ri4, ob1, ob2⟩ := own_pl o4 (by omega)
          have hcut := cut_any oa 19 oc 4 (fun k => Lc (ord k)) w4 ri4 (by omega) (by omega)
          have H4 : Hid (Ri w4 (some ⟨oa, 0, none⟩) 19 oc (fun k => Lc (ord k)) ∧ W3.heap.size ≤ oa ∧ oa < w4.heap.size ∧ Below W3.heap.size W3 w4) := ⟨ri4, ob1, ob2, b4⟩
          clear hin o4 ri4 ob1 ob2 b4
          go_wp2_with fail
          refine hcut.mono ?_
          rintro e w5 ⟨vn, rfl, v1, v2, v3, _, hw⟩
          subst w5
          obtain ⟨g1, g2, g3, g4, g5, g6, g7, g8⟩ := HG3.out
          obtain ⟨k1, k2, k3, k4⟩ := H4.out
          have rT4 := g5.of_block (k4.block _ g5.lt)
          have ct4 := rT4.cell (i := 4) (by omega)
          have ft4 := rT4.frozen 4
          simp only [tlc] at ct4
          have hTl := g5.lt
          have hTw := HA.out
          obtain ⟨W5, hW5⟩ : ∃ W5, W5 = w4.setCell ⟨T, 4, none⟩ (.slice (some ⟨oa, 0, none⟩) vn oc) := ⟨_, rfl⟩
          have F5 : Fr (fun k => k = T) w4 W5 := by rw [hW5]; exact (Fr.refl (fun k => k = T) w4).setCell rfl _
          have rT5 : W5.rowIs T 144 8 (tlc (.pointer (some ⟨R0, 0, none⟩)) (.pointer (some ⟨R1, 0, none⟩)) n0 n1 (.slice (some ⟨oa, 0, none⟩) vn oc) (.pointer (some ⟨Rb, 0, none⟩)) (.slice (some ⟨Mb, 0, none⟩) 19 19) (.slice sa k sc)) := by
            rw [hW5]
            exact (rT4.set 4 _).congr (fun i hi => by rcases i with _ | _ | _ | _ | _ | _ | _ | _ | i <;> first | rfl | omega)
          have md5 : Mid (T + 1) w4.heap.size w4 W5 := Mid.ofFr F5 (Nat.le_refl _) (fun k h1 h2 e => by omega)
          have B4 := g1.trans (k4.mono g1.size)
          have B5 : Below w.heap.size w W5 := B4.trans (F5.below _ B4.size (fun i hi e => by omega))
          have HRES : Hid (Tg W5 T w.heap.size W5.heap.size D0 D1 R0 R1 Rb n0 n1 vn L0 L1 Lc qs oa oc Mb sa sc ∧ Below w.heap.size w W5) := by
            refine ⟨⟨by rw [← HQM.out]; exact rT5, ?_, ?_, ?_, HQ7.out.2, ?_, v1, v2, v3, ?_, ?_, HQ7.out.1, ⟨by omega, rT5.lt⟩, ⟨by have := B4.size; omega, by have := F5.size; omega⟩, ⟨by omega, ?_⟩, fun ad had => ⟨by have := (g6 ad had).1; omega, by have := (g6 ad had).2; have := F5.size; have := k4.size; omega⟩⟩, B5⟩
            · have := (g2.grow (Mid.ofBelow k4) k4.size (Nat.le_refl _)).grow md5 md5.sz (Nat.le_refl _)
              exact ⟨this.cx.lower (by omega), this.gb, this.ls, this.le, this.zr⟩
            · have := (g3.grow (Mid.ofBelow k4) k4.size (Nat.le_refl _)).grow md5 md5.sz (Nat.le_refl _)
              exact ⟨this.cx.lower (by omega), this.gb, this.ls, this.le, this.zr⟩
            · exact ((((g4.mid (Mid.ofBelow k4)).upper k4.size (Nat.le_refl _)).mid md5).upper md5.sz (Nat.le_refl _)).lower (by omega)
            · exact ri_of (ri_front k1 v2) (F5.block _ k3 (fun e => by omega))
            · exact rowIs_fr (g8.of_block (k4.block _ g8.lt)) F5 (fun e => by omega)
            · exact (g7.keep k4).of (fun ad had => F5.block _ (by have := (g6 ad had).2; have := k4.size; omega) (fun e => by have := (g6 ad had).1; omega))
            · have := g8.lt; have := k4.size; have := F5.size; omega
          have HW5 : Hid (W5 = w4.setCell ⟨T, 4, none⟩ (.slice (some ⟨oa, 0, none⟩) vn oc)) := hW5
          clear g1 g2 g3 g4 g5 g6 g7 g8 k1 k2 k3 k4 rT4 hTl hW5 F5 rT5 md5 B4 B5 hcut HG3 H4 HQ7 hTw
          go_wp2_with fail
          go_ret
          rw [← HW5.out]
          exact ⟨T, R0, R1, Rb, n0, n1, vn, L0, L1, Lc, qs, oa, oc, Mb, sa, sc, rfl, HRES.out.1, HRES.out.2⟩

end Go.Proofs.YtiahbicodlgmhaaGreatDoor.Z
