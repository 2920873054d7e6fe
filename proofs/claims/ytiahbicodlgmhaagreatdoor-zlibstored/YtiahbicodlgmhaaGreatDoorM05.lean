/- WNews, WLow, WMem, WReader, WHelp. -/
import Derived.Test.YtiahbicodlgmhaaGreatDoorM04
import Derived.Test.YtiahbicodlgmhaaGreatDoorM01
/- New of any lengths. -/
namespace Go.Proofs.YtiahbicodlgmhaaGreatDoor
open Go.RowKit

set_option maxRecDepth 100000 in
set_option maxHeartbeats 1000000 in
theorem new_err (ao : Option Addr) (n c : Nat) (L : Nat → Int) (half : Bool) (w : World) (h : Ri w ao n c L) (he : er L n ≠ 0) :
    Calls Tryz.prog 89 #[.slice ao n c, .bool half] w fun e w' => e = .returned (.tuple #[.pointer none, .int .i64 (er L n)]) ∧ Below w.heap.size w w' := by
  have z64 := zero64
  have q1 : (er L n == 0) = false := by simp [he]
  have hc := checked_all ao n c L w h
  generalize er L n = x at *
  clear he
  go_enter Tryz.func89, Tryz.ntmps89
  go_wp2_with (first
    | (go_at_call 115; refine hc.mono ?_; rintro e w1 ⟨cc, rfl, _, hb⟩)
    | (refine wpList_st rfl 158 _ _ rfl w1.heap.size rfl (fun j => .int .i64 (cc j)) rfl (box_row w1 (fun _ => 0)) size64 (fun j => rfl) ?_; intro w3 h3 f3))
  go_ret2
  exact ⟨rfl, (hb.alloc hb.size _).trans (f3.below _ (by have := hb.size; simp; omega) (fun i hi e => by have := hb.size; omega))⟩

set_option maxRecDepth 100000 in
set_option maxHeartbeats 1000000 in
theorem new_part (ao : Option Addr) (n c : Nat) (L : Nat → Int) (half : Bool) (w : World) (h : Ri w ao n c L) (he : er L n = 0) (hfu : fu L n = false) (hh : half = false ∨ (half = true ∧ hv (C L n) = false)) :
    Calls Tryz.prog 89 #[.slice ao n c, .bool half] w fun e w' => e = .returned (.tuple #[.pointer none, .int .i64 2]) ∧ Below w.heap.size w w' := by
  have z64 := zero64
  have hc := checked_all ao n c L w h
  rw [he, hfu] at hc
  rcases hh with rfl | ⟨rfl, hhv⟩
  · go_enter Tryz.func89, Tryz.ntmps89
    go_wp2_with (first
      | (go_at_call 115; refine hc.mono ?_; rintro e w1 ⟨cc, rfl, hcc, hb⟩; obtain rfl := hcc rfl)
      | (refine wpList_st rfl 158 _ _ rfl w1.heap.size rfl (fun j => .int .i64 (C L n j)) rfl (box_row w1 (fun _ => 0)) size64 (fun j => rfl) ?_; intro w3 h3 f3))
    go_ret2
    exact ⟨rfl, (hb.alloc hb.size _).trans (f3.below _ (by have := hb.size; simp; omega) (fun i hi e => by have := hb.size; omega))⟩
  · go_enter Tryz.func89, Tryz.ntmps89
    go_wp2_with (first
      | (go_at_call 115; refine hc.mono ?_; rintro e w1 ⟨cc, rfl, hcc, hb⟩; obtain rfl := hcc rfl)
      | (refine wpList_st rfl 158 _ _ rfl w1.heap.size rfl (fun j => .int .i64 (C L n j)) rfl (box_row w1 (fun _ => 0)) size64 (fun j => rfl) ?_; intro w3 h3 f3; have B3 : Below w.heap.size w w3 := (hb.alloc hb.size _).trans (f3.below _ (by have := hb.size; simp; omega) (fun i hi e => by have := hb.size; omega)))
      | (refine wpList_ldW (by rfl) 158 _ rfl w1.heap.size rfl _ h3 16 (by omega) Tryz.underlying158 rfl size64 ?_)
      | (go_at_call 116; refine (half_any (C L n) _).mono ?_; rintro e w3' ⟨rfl, b3'⟩; rw [hhv]; have B3' := B3.trans (b3'.mono B3.size)))
    go_ret2
    exact ⟨rfl, B3'⟩

/-- The code of these lengths, somewhere below K. -/
def Cod (w : World) (R K : Nat) (L : Nat → Int) (n : Nat) : Prop := ∃ la lc cg sg sy M dp, IsC w R K L n la lc cg sg sy M dp

theorem Cod.keep {w w' : World} {R K : Nat} {L : Nat → Int} {n : Nat} (h : Cod w R K L n) (hb : Below K w w') : Cod w' R K L n := by
  obtain ⟨la, lc, cg, sg, sy, M, dp, h⟩ := h
  exact ⟨la, lc, cg, sg, sy, M, dp, h.keep hb⟩

theorem Cod.kw {w : World} {R K : Nat} {L : Nat → Int} {n : Nat} (h : Cod w R K L n) : K ≤ w.heap.size := by
  obtain ⟨la, lc, cg, sg, sy, M, dp, h⟩ := h
  exact h.kw

theorem Cod.ok {w : World} {R K : Nat} {L : Nat → Int} {n : Nat} (h : Cod w R K L n) : er L n = 0 := by
  obtain ⟨la, lc, cg, sg, sy, M, dp, h⟩ := h
  exact h.ok

theorem half_sum (L : Nat → Int) (n : Nat) (he : er L n = 0) : hv (C L n) = true ↔ SM L n ≤ 1 := by
  obtain ⟨_, hL, _⟩ := er_zero L n he
  rw [hv_iff, half_iff L n hL]

theorem nw_zero (L : Nat → Int) (n : Nat) (half : Bool) (h : nw L n half = 0) : er L n = 0 ∧ (fu L n = true ∨ (fu L n = false ∧ half = true ∧ SM L n ≤ 1)) := by
  unfold nw at h
  by_cases he : er L n = 0
  · rw [if_pos he] at h
    refine ⟨he, ?_⟩
    by_cases hc : fu L n = true ∨ (half = true ∧ SM L n ≤ 1)
    · rcases hc with h1 | h1
      · exact .inl h1
      · by_cases hf : fu L n = true
        · exact .inl hf
        · exact .inr ⟨by simpa using hf, h1⟩
    · rw [if_neg hc] at h; omega
  · rw [if_neg he] at h; exact absurd h he

theorem nw_other (L : Nat → Int) (n : Nat) (half : Bool) (h : nw L n half ≠ 0) : (er L n ≠ 0 ∧ nw L n half = er L n) ∨ (er L n = 0 ∧ nw L n half = 2 ∧ fu L n = false ∧ (half = false ∨ (half = true ∧ ¬ SM L n ≤ 1))) := by
  unfold nw at h ⊢
  by_cases he : er L n = 0
  · rw [if_pos he] at h ⊢
    right
    by_cases hc : fu L n = true ∨ (half = true ∧ SM L n ≤ 1)
    · rw [if_pos hc] at h; exact absurd rfl h
    · rw [if_neg hc]
      refine ⟨he, rfl, ?_, ?_⟩
      · cases hf : fu L n
        · rfl
        · exact absurd (.inl hf) hc
      · cases half
        · exact .inl rfl
        · exact .inr ⟨rfl, fun h' => hc (.inr ⟨rfl, h'⟩)⟩
  · rw [if_neg he] at h ⊢
    exact .inl ⟨he, rfl⟩

theorem new_yes (ao : Option Addr) (n c : Nat) (L : Nat → Int) (half : Bool) (w : World) (h : Ri w ao n c L) (hn : nw L n half = 0) :
    Calls Tryz.prog 89 #[.slice ao n c, .bool half] w fun e w' => ∃ R K, e = .returned (.tuple #[.pointer (some ⟨R, 0, none⟩), .int .i64 0]) ∧ Cod w' R K L n ∧ Below w.heap.size w w' := by
  obtain ⟨he, hc⟩ := nw_zero L n half hn
  obtain ⟨M, hM⟩ := Int.eq_ofNat_of_zero_le (pl_nn L n 16).1
  refine (new_go ao n c L half w h he ?_ M hM).mono ?_
  · rcases hc with h1 | ⟨h1, h2, h3⟩
    · exact .inl h1
    · exact .inr ⟨h1, h2, (half_sum L n he).2 h3⟩
  · rintro e w' ⟨R, rfl, ⟨K, la, lc, cg, sg, sy, dp, hC, _⟩, hb⟩
    exact ⟨R, K, rfl, ⟨la, lc, cg, sg, sy, M, dp, hC⟩, hb⟩

/-- Blocks from lo on and below K stay. -/
structure Mid (lo K : Nat) (w w' : World) : Prop where
  blk : ∀ k, lo ≤ k → k < K → w'.heap[k]? = w.heap[k]?
  sz : w.heap.size ≤ w'.heap.size

theorem Mid.refl (lo K : Nat) (w : World) : Mid lo K w w := ⟨fun _ _ _ => rfl, Nat.le_refl _⟩
theorem Mid.trans {lo K : Nat} {a b c : World} (h : Mid lo K a b) (k : Mid lo K b c) : Mid lo K a c := ⟨fun i h1 h2 => (k.blk i h1 h2).trans (h.blk i h1 h2), Nat.le_trans h.sz k.sz⟩
theorem Mid.mono {lo lo' K K' : Nat} {w w' : World} (h : Mid lo K w w') (h1 : lo ≤ lo') (h2 : K' ≤ K) : Mid lo' K' w w' := ⟨fun i a b => h.blk i (by omega) (by omega), h.sz⟩
theorem Mid.drew {lo K : Nat} {w w' : World} (h : Mid lo K w w') : Mid lo K w w'.drew := ⟨h.blk, h.sz⟩
theorem Mid.ofBelow {lo K : Nat} {w w' : World} (h : Below K w w') : Mid lo K w w' := ⟨fun i _ b => h.block i b, h.size⟩

/-- A code as far as writing asks; all of it lies from lo on, below K. -/
def Cx (w : World) (R lo K : Nat) (L : Nat → Int) (n : Nat) : Prop := ∃ la lc cg sg sy M dp, IsC w R K L n la lc cg sg sy M dp ∧ lo ≤ R ∧ lo ≤ cg ∧ lo ≤ sg ∧ ∀ ad, la = some ad → lo ≤ ad.block

theorem IsC.mid {w w' : World} {R lo K : Nat} {L : Nat → Int} {n : Nat} {la : Option Addr} {lc cg sg : Nat} {sy : Nat → Int} {M dp : Nat} (h : IsC w R K L n la lc cg sg sy M dp) (h1 : lo ≤ R) (h2 : lo ≤ cg) (h3 : lo ≤ sg) (h4 : ∀ ad, la = some ad → lo ≤ ad.block) (hb : Mid lo K w w') : IsC w' R K L n la lc cg sg sy M dp :=
  ⟨h.row.of_block (hb.blk _ h1 h.bR), ⟨h.rl.le, h.rl.nul, fun ad had j hj => by
    have hbk : (ad.add j).block = ad.block := by unfold Addr.add; split <;> rfl
    have e : w'.heap[(ad.add j).block]? = w.heap[(ad.add j).block]? := by rw [hbk]; exact hb.blk _ (h4 ad had) (h.bl ad had)
    rw [World.cell?_of_block e]
    exact h.rl.cells ad had j hj⟩, h.rc.of_block (hb.blk _ h2 h.bc), h.rs.of_block (hb.blk _ h3 h.bs), h.sym, h.m, h.dp15, h.dpx, h.dpe, h.bl, h.bR, h.bc, h.bs, Nat.le_trans h.kw hb.sz, h.ok⟩

theorem Cx.mid {w w' : World} {R lo K : Nat} {L : Nat → Int} {n : Nat} (h : Cx w R lo K L n) (hb : Mid lo K w w') : Cx w' R lo K L n := by
  obtain ⟨la, lc, cg, sg, sy, M, dp, h, h1, h2, h3, h4⟩ := h
  exact ⟨la, lc, cg, sg, sy, M, dp, h.mid h1 h2 h3 h4 hb, h1, h2, h3, h4⟩

theorem Cx.cod {w : World} {R lo K : Nat} {L : Nat → Int} {n : Nat} (h : Cx w R lo K L n) : Cod w R K L n := by
  obtain ⟨la, lc, cg, sg, sy, M, dp, h, _⟩ := h
  exact ⟨la, lc, cg, sg, sy, M, dp, h⟩

theorem Cx.lower {w : World} {R lo lo' K : Nat} {L : Nat → Int} {n : Nat} (h : Cx w R lo K L n) (hl : lo' ≤ lo) : Cx w R lo' K L n := by
  obtain ⟨la, lc, cg, sg, sy, M, dp, h, h1, h2, h3, h4⟩ := h
  exact ⟨la, lc, cg, sg, sy, M, dp, h, by omega, by omega, by omega, fun ad had => by have := h4 ad had; omega⟩

theorem Cx.upper {w : World} {R lo K K' : Nat} {L : Nat → Int} {n : Nat} (h : Cx w R lo K L n) (hk : K ≤ K') (hw : K' ≤ w.heap.size) : Cx w R lo K' L n := by
  obtain ⟨la, lc, cg, sg, sy, M, dp, h, h1, h2, h3, h4⟩ := h
  exact ⟨la, lc, cg, sg, sy, M, dp, ⟨h.row, h.rl, h.rc, h.rs, h.sym, h.m, h.dp15, h.dpx, h.dpe, fun ad had => by have := h.bl ad had; omega, by have := h.bR; omega, by have := h.bc; omega, by have := h.bs; omega, hw, h.ok⟩, h1, h2, h3, h4⟩

theorem Cx.K_le {w : World} {R lo K : Nat} {L : Nat → Int} {n : Nat} (h : Cx w R lo K L n) : K ≤ w.heap.size := h.cod.kw

theorem Cx.ok {w : World} {R lo K : Nat} {L : Nat → Int} {n : Nat} (h : Cx w R lo K L n) : er L n = 0 := h.cod.ok

theorem new_cx (ao : Option Addr) (n c : Nat) (L : Nat → Int) (half : Bool) (w : World) (h : Ri w ao n c L) (hn : nw L n half = 0) :
    Calls Tryz.prog 89 #[.slice ao n c, .bool half] w fun e w' => ∃ R, e = .returned (.tuple #[.pointer (some ⟨R, 0, none⟩), .int .i64 0]) ∧ Cx w' R w.heap.size w'.heap.size L n ∧ Below w.heap.size w w' := by
  obtain ⟨he, hc⟩ := nw_zero L n half hn
  obtain ⟨M, hM⟩ := Int.eq_ofNat_of_zero_le (pl_nn L n 16).1
  refine (new_go ao n c L half w h he ?_ M hM).mono ?_
  · rcases hc with h1 | ⟨h1, h2, h3⟩
    · exact .inl h1
    · exact .inr ⟨h1, h2, (half_sum L n he).2 h3⟩
  · rintro e w' ⟨R, rfl, ⟨K, la, lc, cg, sg, sy, dp, hC, h1, h2, h3, h4⟩, hb⟩
    have hx : Cx w' R w.heap.size K L n := ⟨la, lc, cg, sg, sy, M, dp, hC, h1, h2, h3, h4⟩
    exact ⟨R, rfl, hx.upper hC.kw (Nat.le_refl _), hb⟩

theorem new_no (ao : Option Addr) (n c : Nat) (L : Nat → Int) (half : Bool) (w : World) (h : Ri w ao n c L) (hn : nw L n half ≠ 0) :
    Calls Tryz.prog 89 #[.slice ao n c, .bool half] w fun e w' => e = .returned (.tuple #[.pointer none, .int .i64 (nw L n half)]) ∧ Below w.heap.size w w' := by
  rcases nw_other L n half hn with ⟨he, hx⟩ | ⟨he, hx, hfu, hh⟩
  · rw [hx]
    exact new_err ao n c L half w h he
  · rw [hx]
    refine new_part ao n c L half w h he hfu ?_
    rcases hh with h1 | ⟨h1, h2⟩
    · exact .inl h1
    · refine .inr ⟨h1, ?_⟩
      cases hq : hv (C L n)
      · rfl
      · exact absurd ((half_sum L n he).1 hq) h2

end Go.Proofs.YtiahbicodlgmhaaGreatDoor

/- mayBe, lowest, Turn. -/
namespace Go.Proofs.YtiahbicodlgmhaaGreatDoor
open Go.RowKit

theorem Tryz.info5 : (Tryz.prog.info? 5).map (fun i => (i.zero, i.size, i.bytes)) = some (some (.int .u8 0), 1, 1) := by kernel_rfl
theorem Tryz.info4 : (Tryz.prog.info? 4).map (fun i => (i.zero, i.size, i.bytes)) = some (some (.bool false), 1, 1) := by kernel_rfl

theorem mayBe_no (n : Int) (w : World) (h : n < 0 ∨ 24 < n) : Calls Tryz.prog 85 #[.int .i64 n] w fun e w' => e = .returned (.bool false) ∧ w' = w := by
  by_cases h0 : n < 0
  · have hd : decide (0 ≤ n) = false := by simp; omega
    clear h
    go_enter Tryz.func85, Tryz.ntmps85
    go_wp2
    go_ret
    exact ⟨rfl, rfl⟩
  · have hd : decide (0 ≤ n) = true := by simp; omega
    have hd2 : decide (n ≤ 24) = false := by simp; omega
    clear h
    go_enter Tryz.func85, Tryz.ntmps85
    go_wp2
    go_ret
    exact ⟨rfl, rfl⟩

theorem mayBe_yes (n : Nat) (w : World) (h : n ≤ 24) : Calls Tryz.prog 85 #[.int .i64 n] w fun e w' => e = .returned (.bool true) ∧ w' = w := by
  have hd : decide (0 ≤ (n : Int)) = true := by simp
  have hd2 : decide ((n : Int) ≤ 24) = true := by simp; omega
  go_enter Tryz.func85, Tryz.ntmps85
  go_wp2
  go_ret
  exact ⟨rfl, rfl⟩

theorem lowest_any (v : Int) (n : Nat) (w : World) (h : n ≤ 24) (h0 : 0 ≤ v) (h1 : v < 18446744073709551616) : Calls Tryz.prog 86 #[.int .u64 v, .int .i64 n] w fun e w' => e = .returned (.int .u64 (v % 2 ^ n)) ∧ w' = w := by
  have hp := p2 n
  have hle := p2_le n 24 h
  have e1 : IntKind.u64.wrap (2 ^ n) = 2 ^ n := wraps_u64 _ (by omega) (by omega)
  have e2 : IntKind.u64.wrap (2 ^ n - 1) = 2 ^ n - 1 := wraps_u64 _ (by omega) (by omega)
  have e3 := u64_mask v n h h0 h1
  clear hp hle
  go_enter Tryz.func86, Tryz.ntmps86
  go_wp2
  go_ret
  exact ⟨rfl, rfl⟩

theorem turn_step (t v : Int) (k : Nat) (hk : k < 24) (t0 : 0 ≤ t) (t1 : t < 2 ^ k) : bits .or .i64 (wrap64 (t * 2)) (bits .and .i64 v 1) = 2 * t + v % 2 := by
  have hle := p2_le k 24 (by omega)
  rw [or_comm', i64_one, show t * 2 = t * 2 ^ 1 from rfl, i64_put 1 24 _ _ (by omega) (by omega) t0 (by omega) (by omega)]
  omega

end Go.Proofs.YtiahbicodlgmhaaGreatDoor

/- A thing whose slice may move; bytes.Clone. -/
namespace Go.Proofs.YtiahbicodlgmhaaGreatDoor
open Go.RowKit

/-- The blocks of a writer. -/
def Of (R : Nat) (v : Value) (k : Nat) : Prop := k = R ∨ v.ownBlock = some k

theorem row_after {wr w5 : World} {R t nc : Nat} {v' : Value} {f : Nat → Value} {O : Obj} (rr : wr.rowIs R t nc f) (sep : v'.ownBlock ≠ some R) (gr : (wr.drew.alloc O).grownBy w5 v'.ownBlock) : w5.rowIs R t nc f :=
  rowIs_fr rr (((Fr.refl (fun k => v'.ownBlock = some k) wr).drew.alloc _).grown gr (fun _ _ hk => hk)) sep

/-- Behind an append onto the slice in cell 0 of block R, and its store. -/
theorem pushed {w wr w5 : World} {R g5 c5 m e t nc : Nat} {v v' : Value} {xs : List Value} {f : Nat → Value} {O : Obj} (rr : wr.rowIs R t nc f) (sep : v'.ownBlock ≠ some R) (fr : Fr (Of R v) w wr)
    (hv : v'.ownBlock = v.ownBlock ∨ ∀ k, v'.ownBlock = some k → w.heap.size ≤ k) (o5 : w5.ownsRow 0 e 1 (.slice (some ⟨g5, 0, none⟩) m c5) m xs) (gr : (wr.drew.alloc O).grownBy w5 v'.ownBlock)
    (l5 : v'.ownBlock = some g5 ∨ g5 = wr.heap.size + 1) :
    (w5.setCell ⟨R, 0, none⟩ (.slice (some ⟨g5, 0, none⟩) m c5)).rowIs R t nc (fun j => if j = 0 then (.slice (some ⟨g5, 0, none⟩) m c5) else f j) ∧
    (w5.setCell ⟨R, 0, none⟩ (.slice (some ⟨g5, 0, none⟩) m c5)).ownsRow 0 e 1 (.slice (some ⟨g5, 0, none⟩) m c5) m xs ∧ g5 ≠ R ∧
    Fr (Of R v) w (w5.setCell ⟨R, 0, none⟩ (.slice (some ⟨g5, 0, none⟩) m c5)) ∧ (some g5 = v.ownBlock ∨ w.heap.size ≤ g5) := by
  have hne : g5 ≠ R := by
    rintro rfl
    rcases l5 with h | h
    · exact sep h
    · have := rr.lt; omega
  have hold : ∀ i, i < w.heap.size → v'.ownBlock = some i → Of R v i := fun i hi hk => by
    rcases hv with h | h
    · exact .inr (h ▸ hk)
    · have := h i hk; omega
  have r5 := row_after rr sep gr
  refine ⟨r5.set 0 _, ownsRow_fr o5 ((Fr.refl (fun k => k = R) w5).setCell rfl _) (fun k hk e => hne (by cases hk; exact e)), hne, ?_, ?_⟩
  · exact ((fr.drew.alloc _).grown gr hold).setCell (.inl rfl) _
  · rcases l5 with h | h
    · rcases hv with h' | h'
      · exact .inl (by rw [← h', h])
      · exact .inr (h' _ h)
    · have := fr.size
      exact .inr (by omega)

/-- What a call on the thing in block R, whose slice was v and is v', has turned. -/
structure Step (R : Nat) (v v' : Value) (w w' : World) : Prop where
  fr : Fr (Of R v) w w'
  own : v'.ownBlock = v.ownBlock ∨ ∀ k, v'.ownBlock = some k → w.heap.size ≤ k

theorem Step.refl (R : Nat) (v : Value) (w : World) : Step R v v w w := ⟨Fr.refl _ _, .inl rfl⟩

theorem Step.back {R : Nat} {v v' : Value} {w w' : World} (h : Step R v v' w w') : ∀ i, i < w.heap.size → Of R v' i → Of R v i := by
  rintro i hi (rfl | hk)
  · exact .inl rfl
  · rcases h.own with e | e
    · exact .inr (e ▸ hk)
    · have := e i hk; omega

theorem Step.trans {R : Nat} {v v1 v2 : Value} {w w1 w2 : World} (h : Step R v v1 w w1) (k : Step R v1 v2 w1 w2) : Step R v v2 w w2 :=
  ⟨h.fr.trans k.fr h.back, by
    rcases k.own with e | e
    · rw [e]; exact h.own
    · exact .inr (fun i hi => Nat.le_trans h.fr.size (e i hi))⟩

theorem Step.below {R : Nat} {v v' : Value} {w w' : World} (h : Step R v v' w w') (B : Nat) (hB : B ≤ w.heap.size) (hR : ∀ k, Of R v k → B ≤ k) : Below B w w' :=
  h.fr.below B hB (fun i hi hk => by have := hR i hk; omega)

theorem Step.from {R : Nat} {v v' : Value} {w w' : World} (h : Step R v v' w w') (B : Nat) (hB : B ≤ w.heap.size) (hR : ∀ k, Of R v k → B ≤ k) : ∀ k, Of R v' k → B ≤ k := by
  intro k hk
  rcases Nat.lt_or_ge k w.heap.size with hlt | hge
  · exact hR k (h.back k hlt hk)
  · omega

theorem Step.apart {R : Nat} {v v' : Value} {w w' : World} (h : Step R v v' w w') (Q : Nat → Prop) (hQ : ∀ k, Q k → k < w.heap.size) (hR : ∀ k, Of R v k → ¬ Q k) : ∀ k, Of R v' k → ¬ Q k := by
  intro k hk hq
  exact hR k (h.back k (hQ k hq) hk) hq

theorem Step.drew {R : Nat} {v v' : Value} {w w' : World} (h : Step R v v' w w') : Step R v v' w w'.drew := ⟨h.fr.drew, h.own⟩

/-- A row of one's own, as a slice. -/
theorem own_rd {w : World} {base n : Nat} {v : Value} {xs : List Int} (h : w.ownsRow base 5 1 v n (xs.map (Value.int .u8))) (hb : ∀ x ∈ xs, 0 ≤ x ∧ x < 256) :
    ∃ ao c, v = .slice ao n c ∧ Rd w ao n c xs ∧ ∀ ad, ao = some ad → v.ownBlock = some ad.block ∧ base ≤ ad.block := by
  rcases h.2 with ⟨rfl, rfl⟩ | ⟨g, cap, cur, rfl, hg, _⟩
  · have hx : xs = [] := List.eq_nil_of_length_eq_zero (by simpa using h.1)
    subst hx
    exact ⟨none, 0, rfl, Rd.nil _, fun ad had => by cases had⟩
  · exact ⟨_, _, rfl, Rd.ofOwn h hb, fun ad had => by cases had; exact ⟨rfl, hg⟩⟩

set_option maxHeartbeats 400000 in
theorem clone_any (ao : Option Addr) (n c : Nat) (xs : List Int) (w : World) (h : Rd w ao n c xs) (hn : n ≤ 140737488351232) :
    Calls Tryz.prog 47 #[.slice ao n c] w fun e w' => ∃ v', e = .returned v' ∧ w'.ownsRow w.heap.size 5 1 v' n (xs.map (Value.int .u8)) ∧ Below w.heap.size w w' := by
  obtain ⟨i0, hi, hz0, hz1, hz2⟩ := info_parts Tryz.info5
  cases ao with
  | none =>
    obtain ⟨rfl, rfl⟩ := h.nul rfl
    have hx : xs = [] := List.eq_nil_of_length_eq_zero h.len
    subst hx
    have hq := fun w => Lib.run_eql_slice_nil (P := Tryz.prog) w 22 5 none 0 0 0 0 Tryz.underlying22
    go_enter Tryz.func47, Tryz.ntmps47
    go_wp2
    go_ret
    exact ⟨_, rfl, World.ownsRow_nil _ _ _ _, Below.refl _ _⟩
  | some ad =>
    have hcells := h.cellsOf ad rfl
    have hl := h.len
    clear h
    have hq := fun w => Lib.run_eql_slice_nil (P := Tryz.prog) w 22 5 (some ad) n c 0 0 Tryz.underlying22
    go_enter Tryz.func47, Tryz.ntmps47
    go_wp2_with (at_builtin; refine wpList_append_own _ rfl _ _ 22 rfl w.heap.size 5 i0 (.int .u8 0) 1 1 Tryz.underlying22 hi hz0 hz1 hz2 rfl (by decide) _ 0 [] rfl ?_ ad n c (xs.map (Value.int .u8)) rfl ?_ ?_ (ints_oneCell _ _) ?_ ?_ ?_ ?_)
    · exact World.ownsRow_lit (base := w.heap.size) (e := 5) (size := 1) w #[] 0 (Nat.le_refl _) (by unfold maxLen; omega) rfl
    · simpa using hl
    · intro j u hu
      have hc := hcells j u hu
      rw [((Below.refl _ _).alloc (Nat.le_refl _) _ : Below w.heap.size w (w.alloc (.cells #[] 5))).cell (World.block_lt_of_cell? w _ hc)]
      exact hc
    · unfold maxLen; omega
    · omega
    · simp
    · intro v' w2 hown2 hgrow2 hv'
      have hb2 : Below w.heap.size w w2 := ((Below.refl _ _).alloc (Nat.le_refl _) _).grown hgrow2 (by simp) (fun q hq => by cases hq; exact Nat.le_refl _)
      clear hgrow2 hcells hv'
      go_wp2
      go_ret
      exact ⟨_, rfl, by simpa using hown2, hb2⟩

/-- How many bits there are behind Align. -/
def al (len : Nat) : Nat := (len + 7) / 8 * 8

end Go.Proofs.YtiahbicodlgmhaaGreatDoor

/- A reader of bits: NewReader, Left, Past, Align, Get. -/
namespace Go.Proofs.YtiahbicodlgmhaaGreatDoor
open Go.RowKit

/-- A reader's cells. -/
def rcells (sl : Value) (a wd h : Int) : Nat → Value
  | 0 => sl
  | 1 => .int .i64 a
  | 2 => .int .u64 wd
  | _ => .int .i64 h

/-- Block R is a reader of the n bytes of X, of which a were touched and p bits taken; h bits wait in its word. -/
structure RRaw (w : World) (R : Nat) (ao : Option Addr) (n c : Nat) (X : Int) (a p h : Nat) : Prop where
  row : w.rowIs R 101 4 (rcells (.slice ao n c) a (X / 2 ^ p % 2 ^ h) h)
  rd : Rd w ao n c (by8 X n)
  sep : ∀ ad, ao = some ad → ad.block ≠ R
  sum : p + h = 8 * a
  le : a ≤ n
  lim : n ≤ 1000000000

/-- Block R is a reader of the n bytes of X, of which p bits were taken. -/
def IsR (w : World) (R : Nat) (ao : Option Addr) (n c : Nat) (X : Int) (p : Nat) : Prop := RRaw w R ao n c X ((p + 7) / 8) p (8 * ((p + 7) / 8) - p)

theorem RRaw.fr {P : Nat → Prop} {w w' : World} {R : Nat} {ao : Option Addr} {n c : Nat} {X : Int} {a p h : Nat} (r : RRaw w R ao n c X a p h) (hf : Fr P w w') (hR : ¬ P R) (hs : ∀ ad, ao = some ad → 0 < n → ¬ P ad.block) : RRaw w' R ao n c X a p h :=
  ⟨rowIs_fr r.row hf hR, r.rd.fr hf hs, r.sep, r.sum, r.le, r.lim⟩

theorem IsR.fr {P : Nat → Prop} {w w' : World} {R : Nat} {ao : Option Addr} {n c : Nat} {X : Int} {p : Nat} (r : IsR w R ao n c X p) (hf : Fr P w w') (hR : ¬ P R) (hs : ∀ ad, ao = some ad → 0 < n → ¬ P ad.block) : IsR w' R ao n c X p :=
  RRaw.fr r hf hR hs

theorem IsR.keep {w w' : World} {R : Nat} {ao : Option Addr} {n c : Nat} {X : Int} {p : Nat} (r : IsR w R ao n c X p) (hb : Below w.heap.size w w') : IsR w' R ao n c X p :=
  RRaw.fr r (P := fun _ => False) (Fr.ofBelow hb) (fun h => h) (fun _ _ _ h => h)

theorem newR_any (ao : Option Addr) (n c : Nat) (X : Int) (w : World) (h : Rd w ao n c (by8 X n)) (hn : n ≤ 1000000000) :
    Calls Tryz.prog 33 #[.slice ao n c] w fun e w' => ∃ R ao' c', e = .returned (.pointer (some ⟨R, 0, none⟩)) ∧ IsR w' R ao' n c' X 0 ∧ w.heap.size ≤ R ∧ (∀ ad, ao' = some ad → w.heap.size ≤ ad.block) ∧ Below w.heap.size w w' := by
  go_enter Tryz.func33, Tryz.ntmps33
  go_wp2_with (go_at_call 47; refine (clone_any ao n c _ w h (by omega)).mono ?_; rintro e w1 ⟨v1, rfl, o1, b1⟩; obtain ⟨ao', c', rfl, hr, hb⟩ := own_rd o1 (by8_byt _ _))
  go_ret
  have hb1 : Below w1.heap.size w1 (w1.alloc (Obj.cells #[Value.slice ao' n c', Value.int IntKind.i64 0, Value.int IntKind.u64 0, Value.int IntKind.i64 0] 101)) := (Below.refl _ _).alloc (Nat.le_refl _) _
  refine ⟨w1.heap.size, ao', c', rfl, ⟨?_, hr.keep hb1, ?_, rfl, by omega, hn⟩, b1.size, fun ad had => (hb ad had).2, b1.trans (hb1.mono b1.size)⟩
  · exact World.rowIs_alloc w1 _ 101 _ (fun i hi => by
      simp at hi
      rcases i with _ | _ | _ | _ | i <;> first | rfl | omega | simp [rcells])
  · intro ad had e
    have := (o1.lt ad.block (hb ad had).1).2
    omega

theorem left_any (R : Nat) (ao : Option Addr) (n c : Nat) (X : Int) (p : Nat) (w : World) (h : IsR w R ao n c X p) :
    Calls Tryz.prog 114 #[.pointer (some ⟨R, 0, none⟩)] w fun e w' => e = .returned (.int .i64 (8 * (n : Int) - p)) ∧ w' = w.drew := by
  have c0 := h.row.cell (i := 0) (by omega)
  have c1 := h.row.cell (i := 1) (by omega)
  have c3 := h.row.cell (i := 3) (by omega)
  have hs := h.sum
  have hl := h.le
  have hm := h.lim
  simp only [rcells] at c0 c1 c3
  generalize (p + 7) / 8 = a at *
  generalize 8 * a - p = b at *
  clear h
  go_enter Tryz.func114, Tryz.ntmps114
  go_wp2
  go_region
  go_wp2
  go_ret
  exact ⟨by go_num, rfl⟩

theorem past_any (R : Nat) (ao : Option Addr) (n c : Nat) (X : Int) (p : Nat) (w : World) (h : IsR w R ao n c X p) :
    Calls Tryz.prog 35 #[.pointer (some ⟨R, 0, none⟩)] w fun e w' => e = .returned (.int .i64 (((p + 7) / 8 : Nat) : Int)) ∧ w' = w := by
  have c1 := h.row.cell (i := 1) (by omega)
  simp only [rcells] at c1
  generalize (p + 7) / 8 = a at *
  clear h
  go_enter Tryz.func35, Tryz.ntmps35
  go_wp2
  go_ret
  exact ⟨rfl, rfl⟩

theorem ralign_any (R : Nat) (ao : Option Addr) (n c : Nat) (X : Int) (p : Nat) (w : World) (h : IsR w R ao n c X p) :
    Calls Tryz.prog 88 #[.pointer (some ⟨R, 0, none⟩)] w fun e w' => e = .returned (.tuple #[]) ∧ IsR w' R ao n c X (al p) ∧ Fr (fun k => k = R) w w' := by
  have c2 := h.row.cell (i := 2) (by omega)
  have c3 := h.row.cell (i := 3) (by omega)
  have f2 := h.row.frozen 2
  have f3 := h.row.frozen 3
  simp only [rcells] at c2 c3
  have hF : Fr (fun k => k = R) w ((w.setCell ⟨R, 2, none⟩ (.int .u64 0)).setCell ⟨R, 3, none⟩ (.int .i64 0)) := ((Fr.refl (fun k => k = R) w).setCell rfl _).setCell rfl _
  have hR : IsR ((w.setCell ⟨R, 2, none⟩ (.int .u64 0)).setCell ⟨R, 3, none⟩ (.int .i64 0)) R ao n c X (al p) := by
    have e1 : (al p + 7) / 8 = (p + 7) / 8 := by unfold al; omega
    have e2 : 8 * ((p + 7) / 8) - al p = 0 := by unfold al; omega
    unfold IsR
    rw [e1, e2]
    refine ⟨((h.row.set 2 _).set 3 _).congr (fun i hi => ?_), h.rd.fr hF (fun ad had _ => h.sep ad had), h.sep, by unfold al; omega, h.le, h.lim⟩
    rcases i with _ | _ | _ | _ | i
    · rfl
    · rfl
    · simp [rcells]
    · rfl
    · omega
  clear h
  go_enter Tryz.func88, Tryz.ntmps88
  go_wp2
  go_end0
  exact ⟨rfl, hR, hF⟩

theorem get_no (R : Nat) (ao : Option Addr) (n c : Nat) (X : Int) (p : Nat) (m : Int) (w : World) (h : IsR w R ao n c X p) (hm : m < 0 ∨ 24 < m ∨ 8 * (n : Int) - p < m) :
    Calls Tryz.prog 87 #[.pointer (some ⟨R, 0, none⟩), .int .i64 m] w fun e w' => e = .returned (.tuple #[.int .i64 0, .bool false]) ∧ (w' = w ∨ w' = w.drew) := by
  by_cases h0 : m < 0 ∨ 24 < m
  · go_enter Tryz.func87, Tryz.ntmps87
    go_wp2_with (go_at_call 85; refine (mayBe_no m w h0).mono ?_; rintro e w1 ⟨rfl, hw⟩; subst w1)
    go_ret2
    exact ⟨rfl, .inl rfl⟩
  · obtain ⟨k, rfl⟩ := Int.eq_ofNat_of_zero_le (show 0 ≤ m by omega)
    have hk : k ≤ 24 := by omega
    have hlt : 8 * (n : Int) - p < k := by omega
    clear hm h0
    go_enter Tryz.func87, Tryz.ntmps87
    go_wp2_with (first | (go_at_call 85; refine (mayBe_yes k w hk).mono ?_; rintro e w1 ⟨rfl, hw⟩; subst w1) | (go_at_call 114; refine (left_any R ao n c X p w h).mono ?_; rintro e w1 ⟨rfl, hw⟩; subst w1))
    go_ret2
    exact ⟨rfl, .inr rfl⟩

theorem get_word (X : Int) (a p h : Nat) (hs : p + h = 8 * a) (hh : h < 32) : bits .or .u64 (X / 2 ^ p % 2 ^ h) (IntKind.u64.wrap (X / 2 ^ (8 * a) % 256 * 2 ^ h)) = X / 2 ^ p % 2 ^ (h + 8) := by
  rw [u64_put h 8 _ _ (mod_nn _ _) (mod_lt _ _) (by omega) (by omega) (by omega), mod_add, div_div, hs]
  rfl

set_option maxRecDepth 100000 in
set_option maxHeartbeats 2000000 in
theorem get_raw (R : Nat) (ao : Option Addr) (n c : Nat) (X : Int) (a p h m : Nat) (w : World) (hr : RRaw w R ao n c X a p h) (hh : h < 8) (hm : m ≤ 24) (hlt : p + m ≤ 8 * n)
    (hleft : Calls Tryz.prog 114 #[.pointer (some ⟨R, 0, none⟩)] w fun e w' => e = .returned (.int .i64 (8 * (n : Int) - p)) ∧ w' = w.drew) :
    Calls Tryz.prog 87 #[.pointer (some ⟨R, 0, none⟩), .int .i64 m] w fun e w' => e = .returned (.tuple #[.int .i64 (X / 2 ^ p % 2 ^ m), .bool true]) ∧
      (∃ a' h', RRaw w' R ao n c X a' (p + m) h' ∧ h' < 8) ∧ Fr (fun k => k = R) w w' := by
  have hd : decide (8 * (n : Int) - p < m) = false := by simp; omega
  go_enter Tryz.func87, Tryz.ntmps87
  go_wp2_with (first | (go_at_call 85; refine (mayBe_yes m w hm).mono ?_; rintro e w1 ⟨rfl, hw⟩; subst w1) | (go_at_call 114; refine hleft.mono ?_; rintro e w1 ⟨rfl, hw⟩; subst w1))
  go_loopw [] (fun wr => ∃ a' h' : Nat, RRaw wr R ao n c X a' p h' ∧ h' < m + 8 ∧ Fr (fun k => k = R) w wr)
      (fun wr => m + 8 - (intOf ((wr.cell? ⟨R, 3, none⟩).getD (.int .i64 0))).toNat)
  case atStart => exact ⟨a, h, hr.fr (Fr.refl (fun _ => False) _).drew (fun h => h) (fun _ _ _ h => h), by omega, (Fr.refl _ _).drew⟩
  case round =>
    obtain ⟨a', h', r, hlt', fr⟩ := hrel
    clear hr hd hleft
    have c0 := r.row.cell (i := 0) (by omega)
    have c1 := r.row.cell (i := 1) (by omega)
    have c2 := r.row.cell (i := 2) (by omega)
    have c3 := r.row.cell (i := 3) (by omega)
    have f1 := r.row.frozen 1
    have f2 := r.row.frozen 2
    have f3 := r.row.frozen 3
    simp only [rcells] at c0 c1 c2 c3
    by_cases hx : h' < m
    · have han : a' < n := by have := r.sum; omega
      obtain ⟨b, off, rfl, hcell⟩ := r.rd.plain (by omega)
      have hck := hcell a' han
      rw [by8_get _ _ _ han] at hck
      have E := get_word X a' p h' r.sum (by omega)
      have hb0 : 0 ≤ X / 2 ^ (8 * a') % 256 := by omega
      have hb1 : X / 2 ^ (8 * a') % 256 < 256 := by omega
      have hrow := r.row
      obtain ⟨wd2, hwd2⟩ : ∃ z, z = X / 2 ^ p % 2 ^ (h' + 8) := ⟨_, rfl⟩
      rw [← hwd2] at E
      have HW : Hid (wd2 = X / 2 ^ p % 2 ^ (h' + 8)) := hwd2
      clear hwd2 hcell
      generalize X / 2 ^ (8 * a') % 256 = cb at *
      generalize X / 2 ^ p % 2 ^ h' = wd at *
      go_upto_region 5 with fail
      go_cut [] from 16 to 58 (fun wx => wx = (wr.setCell ⟨R, 2, none⟩ (.int .u64 wd2)).drew)
      case first =>
        go_region
        all_goals
          go_wp2_with fail
          go_meet
          rfl
      case rest =>
        subst hcut
        have hF : Fr (fun k => k = R) w (((wr.setCell ⟨R, 2, none⟩ (.int .u64 wd2)).setCell ⟨R, 1, none⟩ (.int .i64 ((a' : Int) + 1))).setCell ⟨R, 3, none⟩ (.int .i64 ((h' : Int) + 8))).drew :=
          (((fr.setCell rfl _).setCell rfl _).setCell rfl _).drew
        have hF2 : Fr (fun k => k = R) wr (((wr.setCell ⟨R, 2, none⟩ (.int .u64 wd2)).setCell ⟨R, 1, none⟩ (.int .i64 ((a' : Int) + 1))).setCell ⟨R, 3, none⟩ (.int .i64 ((h' : Int) + 8))).drew :=
          ((((Fr.refl (fun k => k = R) wr).setCell rfl _).setCell rfl _).setCell rfl _).drew
        have hR2 : RRaw (((wr.setCell ⟨R, 2, none⟩ (.int .u64 wd2)).setCell ⟨R, 1, none⟩ (.int .i64 ((a' : Int) + 1))).setCell ⟨R, 3, none⟩ (.int .i64 ((h' : Int) + 8))).drew R (some ⟨b, off, none⟩) n c X (a' + 1) p (h' + 8) := by
          refine ⟨(((hrow.set 2 _).set 1 _).set 3 _).drew.congr (fun i hi => ?_), r.rd.fr hF2 (fun ad had _ => r.sep ad had), r.sep, by have := r.sum; omega, by omega, r.lim⟩
          rcases i with _ | _ | _ | _ | i
          · rfl
          · simp [rcells]
          · simp [rcells, HW.out]
          · simp [rcells]
          · omega
        have m1 := hR2.row.cell (i := 3) (by omega)
        have m0 := r.row.cell (i := 3) (by omega)
        simp only [rcells] at m0 m1
        have M0 : Hid (wr.cell? ⟨R, 3, none⟩ = some (.int .i64 (h' : Int))) := m0
        have M1 : Hid ((((wr.setCell ⟨R, 2, none⟩ (.int .u64 wd2)).setCell ⟨R, 1, none⟩ (.int .i64 ((a' : Int) + 1))).setCell ⟨R, 3, none⟩ (.int .i64 ((h' : Int) + 8))).drew.cell? ⟨R, 3, none⟩ = some (.int .i64 ((h' + 8 : Nat) : Int))) := m1
        have ha0 : a' ≤ 1000000000 := by have := r.lim; omega
        clear r hrow E hck hF2 m0 m1
        go_wp2
        go_roundw
        case rel => exact ⟨a' + 1, h' + 8, hR2, by omega, hF⟩
        case measure => rw [M0.out, M1.out]; simp [intOf]; omega
    · have hrow := r.row
      have e1 := mod_mod (X / 2 ^ p) m h' (by omega)
      have w0 := mod_nn (X / 2 ^ p) h'
      have w1 := mod_lt (X / 2 ^ p) h'
      have wle := p2_le h' 32 (by omega)
      have e2 : X / 2 ^ p % 2 ^ h' / 2 ^ m = X / 2 ^ (p + m) % 2 ^ (h' - m) := by
        have := mod_add (X / 2 ^ p) m (h' - m)
        rw [show m + (h' - m) = h' by omega] at this
        rw [this, put_high _ _ _ (mod_nn _ _) (mod_lt _ _), div_div]
      have l0 := mod_nn (X / 2 ^ p) m
      have l1 := mod_lt (X / 2 ^ p) m
      have lle := p2_le m 24 hm
      have hwr : wrap64 (X / 2 ^ p % 2 ^ m) = X / 2 ^ p % 2 ^ m := IntWalk.wrap64_in _ (by omega)
      obtain ⟨wd2, hwd2⟩ : ∃ z, z = X / 2 ^ (p + m) % 2 ^ (h' - m) := ⟨_, rfl⟩
      rw [← hwd2] at e2
      obtain ⟨lo, hlo⟩ : ∃ z, z = X / 2 ^ p % 2 ^ m := ⟨_, rfl⟩
      rw [← hlo] at hwr e1
      have HL : Hid (lo = X / 2 ^ p % 2 ^ m) := hlo
      have HW : Hid (wd2 = X / 2 ^ (p + m) % 2 ^ (h' - m)) := hwd2
      have hx0 : 0 ≤ X / 2 ^ p % 2 ^ h' := w0
      have hx1 : X / 2 ^ p % 2 ^ h' < 18446744073709551616 := by omega
      have hF2 : Fr (fun k => k = R) wr ((wr.setCell ⟨R, 2, none⟩ (.int .u64 wd2)).setCell ⟨R, 3, none⟩ (.int .i64 ((h' : Int) - m))) := ((Fr.refl (fun k => k = R) wr).setCell rfl _).setCell rfl _
      have hF : Fr (fun k => k = R) w ((wr.setCell ⟨R, 2, none⟩ (.int .u64 wd2)).setCell ⟨R, 3, none⟩ (.int .i64 ((h' : Int) - m))) := (fr.setCell rfl _).setCell rfl _
      have hR2 : RRaw ((wr.setCell ⟨R, 2, none⟩ (.int .u64 wd2)).setCell ⟨R, 3, none⟩ (.int .i64 ((h' : Int) - m))) R ao n c X a' (p + m) (h' - m) := by
        refine ⟨((hrow.set 2 _).set 3 _).congr (fun i hi => ?_), r.rd.fr hF2 (fun ad had _ => r.sep ad had), r.sep, by have := r.sum; omega, r.le, r.lim⟩
        rcases i with _ | _ | _ | _ | i
        · rfl
        · simp [rcells]
        · simp [rcells, HW.out]
        · simp [rcells]; omega
        · omega
      clear r hrow hwd2 hlo w0 w1 wle l0 l1 lle hF2
      generalize X / 2 ^ p % 2 ^ h' = wd at *
      go_wp2_with (go_at_call 86; refine (lowest_any wd m _ hm hx0 hx1).mono ?_; rintro e w1 ⟨rfl, hw⟩; subst w1; rw [e1])
      go_ret2
      exact ⟨by rw [← HL.out]; exact congrArg (fun z => Ending.returned (Value.tuple #[Value.int IntKind.i64 z, Value.bool true])) hwr, ⟨a', h' - m, hR2, by omega⟩, hF⟩

theorem RRaw.isR {w : World} {R : Nat} {ao : Option Addr} {n c : Nat} {X : Int} {a p h : Nat} (r : RRaw w R ao n c X a p h) (hh : h < 8) : IsR w R ao n c X p := by
  have hs := r.sum
  have e1 : (p + 7) / 8 = a := by omega
  have e2 : 8 * ((p + 7) / 8) - p = h := by omega
  unfold IsR
  rw [e2, e1]
  exact r

/-- What Get answers: how many bits, and whether. -/
def gtOk (n p : Nat) (m : Int) : Bool := decide (0 ≤ m ∧ m ≤ 24 ∧ m ≤ 8 * (n : Int) - p)
def gtV (n : Nat) (X : Int) (p : Nat) (m : Int) : Int := if gtOk n p m = true then X / 2 ^ p % 2 ^ m.toNat else 0
def gtP (n p : Nat) (m : Int) : Nat := if gtOk n p m = true then p + m.toNat else p

theorem get_any (R : Nat) (ao : Option Addr) (n c : Nat) (X : Int) (p : Nat) (m : Int) (w : World) (h : IsR w R ao n c X p) :
    Calls Tryz.prog 87 #[.pointer (some ⟨R, 0, none⟩), .int .i64 m] w fun e w' => e = .returned (.tuple #[.int .i64 (gtV n X p m), .bool (gtOk n p m)]) ∧
      IsR w' R ao n c X (gtP n p m) ∧ Fr (fun k => k = R) w w' := by
  by_cases hm : 0 ≤ m ∧ m ≤ 24 ∧ m ≤ 8 * (n : Int) - p
  · obtain ⟨k, rfl⟩ := Int.eq_ofNat_of_zero_le hm.1
    have e : gtOk n p k = true := by simp only [gtOk, decide_eq_true_eq]; exact hm
    rw [gtV, gtP, if_pos e, if_pos e, e, Int.toNat_natCast]
    refine (get_raw R ao n c X _ p _ k w h (by omega) (by omega) (by omega) (left_any R ao n c X p w h)).mono ?_
    rintro e w' ⟨rfl, ⟨a', h', r, hh⟩, hf⟩
    exact ⟨rfl, r.isR hh, hf⟩
  · have e : gtOk n p m = false := by simp only [gtOk, decide_eq_false_iff_not]; exact hm
    rw [gtV, gtP, e, if_neg (by decide), if_neg (by decide)]
    refine (get_no R ao n c X p m w h (by omega)).mono ?_
    rintro e w' ⟨rfl, hw⟩
    rcases hw with hw | hw
    · subst w'
      exact ⟨rfl, h, Fr.refl _ _⟩
    · subst w'
      exact ⟨rfl, h.fr (Fr.refl (fun _ => False) _).drew (fun h => h) (fun _ _ _ h => h), (Fr.refl _ _).drew⟩

end Go.Proofs.YtiahbicodlgmhaaGreatDoor

/- helpers. -/
namespace Go.Proofs.YtiahbicodlgmhaaGreatDoor
open Go.RowKit

theorem IsR.drew {w : World} {R : Nat} {ao : Option Addr} {n c : Nat} {X : Int} {p : Nat} (r : IsR w R ao n c X p) : IsR w.drew R ao n c X p := r.fr (Fr.refl (fun _ => False) _).drew (fun h => h) (fun _ _ _ h => h)

theorem get_yes (R : Nat) (ao : Option Addr) (n c : Nat) (X : Int) (p m : Nat) (w : World) (h : IsR w R ao n c X p) (hm : m ≤ 24) (hl : p + m ≤ 8 * n) :
    Calls Tryz.prog 87 #[.pointer (some ⟨R, 0, none⟩), .int .i64 m] w fun e w' => e = .returned (.tuple #[.int .i64 (X / 2 ^ p % 2 ^ m), .bool true]) ∧ IsR w' R ao n c X (p + m) ∧ Fr (fun k => k = R) w w' := by
  refine (get_raw R ao n c X _ p _ m w h (by omega) hm hl (left_any R ao n c X p w h)).mono ?_
  rintro e w' ⟨rfl, ⟨a', h', r, hh⟩, hf⟩
  exact ⟨rfl, r.isR hh, hf⟩

end Go.Proofs.YtiahbicodlgmhaaGreatDoor
