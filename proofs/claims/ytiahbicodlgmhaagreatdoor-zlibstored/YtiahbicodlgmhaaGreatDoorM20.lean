/- LimKrf, WLCode, ZBest, ZCnt. -/
import Derived.Test.YtiahbicodlgmhaaGreatDoorM19
import Derived.Test.YtiahbicodlgmhaaGreatDoorM09
import Derived.Test.YtiahbicodlgmhaaGreatDoorM06
import Derived.Test.YtiahbicodlgmhaaGreatDoorM12
/- The two rarest put together: their depths fill up a code. -/
namespace Go.Proofs.YtiahbicodlgmhaaGreatDoor.Lim
open Go.RowKit

/-- A symbol of a part. -/
def Pt.fl : Pt → Nat
  | .leaf _ s => s
  | .node _ _ l _ => l.fl

theorem Pt.fl_occ (t : Pt) : 0 < t.occ t.fl := by
  induction t with
  | leaf c s => simp [Pt.occ, Pt.fl]
  | node c p l r ih _ => simp only [Pt.occ, Pt.fl]; omega

/-- How deep a symbol lies. -/
def dpt (ps : List Pt) (s : Nat) : Nat := sn (fun t => t.occ s) ps

theorem HR.deep {p : Int} {q ps : List Pt} (h : HR p q ps) : (∀ s, sn (fun t => t.occ s) q ≤ 1) → (∀ x ∈ q, ∀ s, 0 < x.occ s → dpt ps s = dpt ps x.fl) ∧ (q ≠ [] → ∀ K, (∀ x ∈ q, dpt ps x.fl ≤ K) → sm (fun x => (2 : Int) ^ (K - dpt ps x.fl)) q = 2 ^ K) ∧ (2 ≤ q.length → ∀ x ∈ q, 0 < dpt ps x.fl) := by
  induction h with
  | done p q hl =>
    intro _
    refine ⟨fun x _ s _ => rfl, fun hne K _ => ?_, fun h => by omega⟩
    match q, hl, hne with
    | [x], _, _ => simp [sm, dpt, sn]
  | step p q x y r ps h1 _ _ _ ih =>
    intro hd
    have e1 : ∀ s, x.occ s + (y.occ s + sn (fun t => t.occ s) r) ≤ 1 := fun s => by
      have := sn_perm (fun t => t.occ s) h1
      simp only [sn] at this
      have := hd s
      omega
    have hd' : ∀ s, sn (fun t => t.occ s) (r ++ [.node (x.ct + y.ct) p x y]) ≤ 1 := fun s => by
      rw [sn_append]
      have : sn (fun t => t.occ s) [Pt.node (x.ct + y.ct) p x y] = x.occ s + y.occ s := by simp [sn, Pt.occ]
      have := e1 s
      omega
    obtain ⟨i1, i2, i3⟩ := ih hd'
    have dN : ∀ s, dpt (.node (x.ct + y.ct) p x y :: ps) s = x.occ s + y.occ s + dpt ps s := fun s => by simp [dpt, sn, Pt.occ]
    have hx : ∀ s, 0 < x.occ s → dpt (.node (x.ct + y.ct) p x y :: ps) s = 1 + dpt ps x.fl := fun s hs => by
      have a : dpt ps s = dpt ps x.fl := i1 (.node (x.ct + y.ct) p x y) (by simp) s (by simp only [Pt.occ]; omega)
      have := e1 s
      rw [dN]
      omega
    have hy : ∀ s, 0 < y.occ s → dpt (.node (x.ct + y.ct) p x y :: ps) s = 1 + dpt ps x.fl := fun s hs => by
      have a : dpt ps s = dpt ps x.fl := i1 (.node (x.ct + y.ct) p x y) (by simp) s (by simp only [Pt.occ]; omega)
      have := e1 s
      rw [dN]
      omega
    have hz : ∀ z ∈ r, ∀ s, 0 < z.occ s → dpt (.node (x.ct + y.ct) p x y :: ps) s = dpt ps s := fun z hz s hs => by
      have a := sn_mem (f := fun t : Pt => t.occ s) hz
      have := e1 s
      rw [dN]
      omega
    have hm : ∀ z ∈ q, z = x ∨ z = y ∨ z ∈ r := fun z hz => by
      have := h1.mem_iff.2 hz
      simpa using this
    refine ⟨fun z hz' s hs => ?_, fun _ K hK => ?_, fun _ z hz' => ?_⟩
    · rcases hm z hz' with rfl | rfl | hr
      · rw [hx s hs, hx _ z.fl_occ]
      · rw [hy s hs, hy _ z.fl_occ]
      · rw [hz z hr s hs, hz z hr _ z.fl_occ]
        exact i1 z (by simp [hr]) s hs
    · rw [← sm_perm _ h1]
      simp only [sm]
      have kx := hK x (h1.mem_iff.1 (by simp))
      rw [hx _ x.fl_occ] at kx
      rw [hx _ x.fl_occ, hy _ y.fl_occ]
      have er : sm (fun z => (2 : Int) ^ (K - dpt (.node (x.ct + y.ct) p x y :: ps) z.fl)) r = sm (fun z => (2 : Int) ^ (K - dpt ps z.fl)) r := sm_congr (fun z hz' => by rw [hz z hz' _ z.fl_occ])
      have i := i2 (by simp) K (fun z hz' => by
        rcases List.mem_append.1 hz' with h' | h'
        · have := hK z (h1.mem_iff.1 (by simp [h']))
          rw [hz z h' _ z.fl_occ] at this
          exact this
        · rw [List.mem_singleton] at h'
          subst h'
          show dpt ps x.fl ≤ K
          omega)
      rw [sm_append] at i
      simp only [sm, Pt.fl] at i
      have e2 : (2 : Int) ^ (K - dpt ps x.fl) = 2 ^ (K - (1 + dpt ps x.fl)) + 2 ^ (K - (1 + dpt ps x.fl)) := by
        rw [show K - dpt ps x.fl = (K - (1 + dpt ps x.fl)) + 1 by omega, Int.pow_succ]
        omega
      rw [er]
      omega
    · rcases hm z hz' with rfl | rfl | hr
      · rw [hx _ z.fl_occ]; omega
      · rw [hy _ z.fl_occ]; omega
      · rw [hz z hr _ z.fl_occ]
        refine i3 ?_ z (by simp [hr])
        cases r with
        | nil => cases hr
        | cons a r => simp

theorem HR.none {p : Int} {q ps : List Pt} (h : HR p q ps) (s : Nat) : sn (fun t => t.occ s) q = 0 → dpt ps s = 0 := by
  induction h with
  | done p q _ => intro _; rfl
  | step p q x y r ps h1 _ _ _ ih =>
    intro h0
    have := sn_perm (fun t => t.occ s) h1
    simp only [sn] at this
    have e : sn (fun t => t.occ s) (r ++ [.node (x.ct + y.ct) p x y]) = 0 := by
      rw [sn_append]
      have : sn (fun t => t.occ s) [Pt.node (x.ct + y.ct) p x y] = x.occ s + y.occ s := by simp [sn, Pt.occ]
      omega
    have i := ih e
    show x.occ s + y.occ s + dpt ps s = 0
    omega

/-- Lengths that are a full code's, of at most m bits. -/
structure Gb (D : Nat → Int) (n m : Nat) (L : Nat → Int) : Prop where
  pos : ∀ j, j < n → 0 < D j → 1 ≤ L j ∧ L j ≤ m
  zer : ∀ j, j < n → ¬ 0 < D j → L j = 0
  full : 2 ≤ (sy D n).length → ∀ K, m ≤ K → G L K n = 2 ^ K
  one : (sy D n).length < 2 → ∀ j, j < n → 0 < D j → L j = 1

theorem Gd.gb {D : Nat → Int} {n m : Nat} {L : Nat → Int} (h : Gd D n m L) : Gb D n m L := ⟨h.pos, h.zer, h.full, h.one⟩

theorem Pg.gb {D : Nat → Int} {n m : Nat} {L : Nat → Int} (h : Pg D n L) (h1 : 1 ≤ m) (hm : ∀ j, j < n → L j ≤ m) : Gb D n m L := by
  rcases h with ⟨h2, hL⟩ | ⟨h2, ps, hr, hL⟩
  · refine ⟨fun j hj hp => ?_, fun j hj hp => ?_, fun h => by omega, fun _ j hj hp => ?_⟩
    · rw [hL j hj, if_pos hp]; omega
    · rw [hL j hj, if_neg hp]
    · rw [hL j hj, if_pos hp]
  · have hd : ∀ s, sn (fun t => t.occ s) (lvs D n) ≤ 1 := fun s => by rw [lvs_occ]; split <;> omega
    obtain ⟨d1, d2, d3⟩ := hr.deep hd
    have hmem : ∀ j, j < n → 0 < D j → Pt.leaf (D j) j ∈ lvs D n := fun j hj hp => by
      unfold lvs
      exact List.mem_map.2 ⟨j, (sy_mem D n j).2 ⟨hj, hp⟩, rfl⟩
    have hlen : 2 ≤ (lvs D n).length := by unfold lvs; rw [List.length_map]; exact h2
    have hpos : ∀ j, j < n → 0 < D j → 1 ≤ L j ∧ L j ≤ m := fun j hj hp => by
      have a : 0 < dpt ps j := d3 hlen _ (hmem j hj hp)
      have b := hL j hj
      have c : L j = (dpt ps j : Int) := b
      have := hm j hj
      omega
    have hzer : ∀ j, j < n → ¬ 0 < D j → L j = 0 := fun j hj hp => by
      have a := hr.none j (by rw [lvs_occ, if_neg (fun h => hp h.2)])
      have c : L j = (dpt ps j : Int) := hL j hj
      rw [c, a]; rfl
    refine ⟨hpos, hzer, fun _ K hK => ?_, fun h => by omega⟩
    rw [G_sy D L K n (fun j hj hp => by have := hpos j hj hp; omega) hzer]
    have e := d2 (fun e => by rw [e] at hlen; simp at hlen) K (fun x hx => by
      unfold lvs at hx
      obtain ⟨s, hs, rfl⟩ := List.mem_map.1 hx
      have hs' := (sy_mem D n s).1 hs
      have c : L s = (dpt ps s : Int) := hL s hs'.1
      have := hpos s hs'.1 hs'.2
      show dpt ps s ≤ K
      omega)
    rw [← e]
    unfold lvs
    rw [sm_map]
    refine sm_congr (fun s hs => ?_)
    have hs' := (sy_mem D n s).1 hs
    have c : L s = (dpt ps s : Int) := hL s hs'.1
    show (2 : Int) ^ (K - (L s).toNat) = 2 ^ (K - dpt ps s)
    rw [c, Int.toNat_natCast]

theorem Gb.lm {D L : Nat → Int} {n m : Nat} (h : Gb D n m L) (hm : m ≤ 15) : ∀ j, j < n → Lm (L j) := fun j hj => by
  by_cases hp : 0 < D j
  · have := h.pos j hj hp
    exact ⟨by omega, by omega⟩
  · have := h.zer j hj hp
    exact ⟨by omega, by omega⟩

theorem Gb.kraft {D L : Nat → Int} {n m : Nat} (h : Gb D n m L) (hm : m ≤ 15) : (2 ≤ (sy D n).length → G L 15 n = 32768) ∧ ((sy D n).length < 2 → G L 15 n = (sy D n).length * 16384) := by
  refine ⟨fun h2 => h.full h2 15 hm, fun h2 => ?_⟩
  rw [G_sy D L 15 n (fun j hj hp => by have := h.one h2 j hj hp; omega) h.zer]
  have hg : ∀ l : List Nat, (∀ s ∈ l, s ∈ sy D n) → sm (fun s => (2 : Int) ^ (15 - (L s).toNat)) l = l.length * 16384 := by
    intro l hl
    induction l with
    | nil => simp [sm]
    | cons s l ih =>
      have hs := (sy_mem D n s).1 (hl s (by simp))
      have h1 := h.one h2 s hs.1 hs.2
      simp only [sm, List.length_cons]
      rw [ih (fun x hx => hl x (by simp [hx])), h1]
      have : (2 : Int) ^ (15 - (1 : Int).toNat) = 16384 := by decide
      rw [this]
      omega
  exact hg _ (fun s h => h)

theorem Gb.er {D L : Nat → Int} {n m : Nat} (h : Gb D n m L) (hm : m ≤ 15) (hn : n ≤ 288) : er L n = 0 := by
  have hk := h.kraft hm
  have hl : (sy D n).length ≤ n := sy_le D n
  have : G L 15 n ≤ 32768 := by
    by_cases h2 : 2 ≤ (sy D n).length
    · have := hk.1 h2; omega
    · have := hk.2 (by omega); omega
  unfold YtiahbicodlgmhaaGreatDoor.er
  rw [if_pos ((okL_iff L n).2 ⟨hn, h.lm hm⟩), if_neg (by omega)]

/-- A full code, where two symbols come. -/
theorem Gb.nwf {D L : Nat → Int} {n m : Nat} (h : Gb D n m L) (hm : m ≤ 15) (hn : n ≤ 288) (h2 : 2 ≤ (sy D n).length) : nw L n false = 0 := by
  unfold YtiahbicodlgmhaaGreatDoor.nw
  rw [if_pos (h.er hm hn), if_pos]
  left
  unfold fu
  rw [(okL_iff L n).2 ⟨hn, h.lm hm⟩, (h.kraft hm).1 h2]
  rfl

theorem Gb.nw {D L : Nat → Int} {n m : Nat} (h : Gb D n m L) (hm : m ≤ 15) (hn : n ≤ 288) : nw L n true = 0 := by
  unfold YtiahbicodlgmhaaGreatDoor.nw
  rw [if_pos (h.er hm hn), if_pos]
  by_cases h2 : 2 ≤ (sy D n).length
  · left
    unfold fu
    rw [(okL_iff L n).2 ⟨hn, h.lm hm⟩, (h.kraft hm).1 h2]
    rfl
  · right
    refine ⟨rfl, ?_⟩
    rw [SM_sy D L n h.zer]
    have hg : ∀ l : List Nat, (∀ s ∈ l, s ∈ sy D n) → sm L l = l.length := by
      intro l hl
      induction l with
      | nil => simp [sm]
      | cons s l ih =>
        have hs := (sy_mem D n s).1 (hl s (by simp))
        have h1 := h.one (by omega) s hs.1 hs.2
        simp only [sm, List.length_cons]
        rw [ih (fun x hx => hl x (by simp [hx])), h1]
        omega
    rw [hg _ (fun s h => h)]
    omega

theorem Gb.fits {D L : Nat → Int} {n m : Nat} (h : Gb D n m L) (hm : m ≤ 15) : Fits L n := by
  have hk := h.kraft hm
  unfold Fits
  by_cases h2 : 2 ≤ (sy D n).length
  · have := hk.1 h2; omega
  · have := hk.2 (by omega); omega

end Go.Proofs.YtiahbicodlgmhaaGreatDoor.Lim

/- lengthCode. -/
namespace Go.Proofs.YtiahbicodlgmhaaGreatDoor
open Go.RowKit

/-- The order in which the lengths of the lengths' code stand. -/
def ord (k : Nat) : Nat := [16, 17, 18, 0, 8, 7, 9, 6, 10, 5, 11, 4, 12, 3, 13, 2, 14, 1, 15].getD k 0

/-- Where a symbol stands in it. -/
def pos (j : Nat) : Nat := [3, 17, 15, 13, 11, 9, 7, 5, 4, 6, 8, 10, 12, 14, 16, 18, 0, 1, 2].getD j 19

theorem ord_lt : ∀ k, k < 19 → ord k < 19 := by decide +kernel
theorem pos_ord : ∀ k, k < 19 → pos (ord k) = k := by decide +kernel
theorem ord_pos : ∀ j, j < 19 → ord (pos j) = j := by decide +kernel

/-- The lengths, k of them laid. -/
def ck (vs : List Nat) (k j : Nat) : Int := if pos j < k then (vs.getD (pos j) 0 : Nat) else 0

theorem ck_zero (vs : List Nat) (j : Nat) : ck vs 0 j = 0 := by simp [ck]

theorem ck_set (vs : List Nat) (k j : Nat) (hk : k < 19) (hj : j < 19) : (if j = ord k then ((vs.getD k 0 : Nat) : Int) else ck vs k j) = ck vs (k + 1) j := by
  by_cases h : j = ord k
  · rw [if_pos h, h]
    unfold ck
    rw [pos_ord k hk, if_pos (by omega)]
  · rw [if_neg h]
    have : pos j ≠ k := fun e => h (by rw [← e, ord_pos j hj])
    unfold ck
    by_cases h2 : pos j < k
    · rw [if_pos h2, if_pos (by omega)]
    · rw [if_neg h2, if_neg (by omega)]

/-- The table in memory. -/
def Tab (w : World) (G : Nat) : Prop := ∀ k, k < 19 → w.cell? ⟨G, k, none⟩ = some (.int .i64 (ord k))

def vfs : List Nat → List Fd
  | [] => []
  | v :: vs => ((v : Int), 3) :: vfs vs

theorem vfs_at {X : Int} {n : Nat} {vs : List Nat} : ∀ {p : Nat}, Lay X n p (vfs vs) → ∀ k, k < vs.length → X / 2 ^ (p + 3 * k) % 2 ^ 3 = ((vs.getD k 0 : Nat) : Int) ∧ p + 3 * k + 3 ≤ 8 * n := by
  induction vs with
  | nil => intro p _ k hk; simp at hk
  | cons v vs ih =>
    intro p h k hk
    obtain ⟨h1, h2, h3⟩ := h.head
    simp only at h1 h2
    cases k with
    | zero => exact ⟨by simpa using h1, by omega⟩
    | succ k =>
      have := ih h3 k (by simpa using hk)
      rw [show p + 3 * (k + 1) = p + 3 + 3 * k by omega]
      simpa using this

set_option maxRecDepth 100000 in
set_option maxHeartbeats 2000000 in
theorem slcode_S (B S R : Nat) (ao : Option Addr) (n c : Nat) (X : Int) (p : Nat) (v : Value) (os : List Int) (m : Int) (vs : List Nat) (w : World) (h : IsS w B S R ao n c X p v os m) (hT : Tab w 0) (hB0 : 0 < B) (h4 : 4 ≤ vs.length) (h19 : vs.length ≤ 19) (hl : Lay X n p ((((vs.length - 4 : Nat) : Int), 4) :: vfs vs)) (hn : nw (ck vs vs.length) 19 false = 0) :
    Calls Tryz.prog 95 #[.pointer (some ⟨S, 0, none⟩)] w fun e w' => ∃ A, e = .returned (.tuple #[.pointer (some ⟨A, 0, none⟩), .int .i64 0]) ∧ Cd w' A (ck vs vs.length) 19 ∧ IsS w' B S R ao n c X (p + 4 + 3 * vs.length) v os m ∧ Fr (fun k => k = R) w w' := by
  obtain ⟨i0, hi, hz0, hz1, hz2⟩ := info_parts Tryz.info3
  obtain ⟨N, hN⟩ : ∃ N, N = vs.length := ⟨_, rfl⟩
  rw [← hN] at h4 h19 hl hn ⊢
  have HN : Hid (N = vs.length) := hN
  obtain ⟨e1, p1, hl1⟩ := hl.head
  simp only at e1 p1
  have hc := scount_S B S R ao n c X p v os m 4 4 19 w h (by omega) p1 (by omega) (by rw [e1]; omega)
  rw [e1, show ((4 : Nat) : Int) + ((N - 4 : Nat) : Int) = (N : Int) by omega] at hc
  have HL : Hid (Lay X n (p + 4) (vfs vs)) := hl1
  have HI : Hid (S < w.heap.size ∧ R < w.heap.size ∧ (∀ k, v.ownBlock = some k → k < w.heap.size) ∧ ∀ ad, ao = some ad → 0 < n → ad.block < w.heap.size) := h.inside
  have HT : Hid (Tab w 0) := hT
  clear h hl hl1 e1 p1 hN hT
  go_enter Tryz.func95, Tryz.ntmps95
  go_wp2_with (first | (go_at_call 94; refine hc.mono ?_; rintro e w1 ⟨rfl, hs1, hw1, hf1⟩) | (at_make; refine wpList_make_row _ rfl _ _ 59 rfl 3 i0 (.int .i64 0) Tryz.underlying59 hi hz0 hz1 rfl .i64 .i64 19 rfl rfl (by rw [hz2]; omega) (by omega) ?_))
  have R1 := made_row w1 19
  have b1 : Below w1.heap.size w1 (w1.alloc (Obj.cells (madeCells #[Value.int .i64 0] 19) 3)) := (Below.refl _ _).alloc (Nat.le_refl _) _
  have hs2 := hs1.keep b1
  have F2 : Fr (fun k => k = R) w (w1.alloc (Obj.cells (madeCells #[Value.int .i64 0] 19) 3)) := hf1.alloc _
  obtain ⟨g, hg⟩ : ∃ g, g = w1.heap.size := ⟨_, rfl⟩
  have HG : Hid (w.heap.size ≤ g) := by have := hf1.size; show w.heap.size ≤ g; omega
  have HR1 : Hid ((w1.alloc (Obj.cells (madeCells #[Value.int .i64 0] 19) 3)).rowIs g 3 19 (fun j => .int .i64 (ck vs 0 j))) := by
    rw [hg]
    exact R1.congr (fun j _ => by rw [ck_zero])
  have HS2 : Hid (IsS (w1.alloc (Obj.cells (madeCells #[Value.int .i64 0] 19) 3)) B S R ao n c X (p + 4) v os m) := hs2
  have HF2 : Hid (Fr (fun k => k = R) w (w1.alloc (Obj.cells (madeCells #[Value.int .i64 0] 19) 3))) := F2
  rw [← hg]
  clear R1 b1 hs2 F2 hg hs1 hw1 hf1 hc
  generalize w1.alloc (Obj.cells (madeCells #[Value.int .i64 0] 19) 3) = W at *
  go_loopw [18] (fun iv wr => ∃ k : Nat, k ≤ N ∧ iv = .int .i64 k ∧ Hid (wr.rowIs g 3 19 (fun j => .int .i64 (ck vs k j))) ∧ Hid (IsS wr B S R ao n c X (p + 4 + 3 * k) v os m) ∧ Hid (Fr (fun k => k = R) w wr)) (fun iv _ => N - (intOf iv).toNat)
  case atStart => exact ⟨0, by omega, rfl, HR1, HS2, HF2⟩
  case round =>
    clear HR1 HS2 HF2
    obtain ⟨k, hk, rfl, HRk, HSk, HFk⟩ := hrel
    by_cases hlt : k < N
    · obtain ⟨e1, p1⟩ := vfs_at HL.out k (by have := HN.out; omega)
      have hget := sget_S B S R ao n c X (p + 4 + 3 * k) v os m 3 wr.drew HSk.out.drew (by omega) p1
      rw [e1] at hget
      have hR0 : (0 : Nat) ≠ R := fun e => by have := HSk.out.bR; omega
      have HR0 : Hid ((0 : Nat) ≠ R) := hR0
      have htab : wr.cell? ⟨0, k, none⟩ = some (.int .i64 (ord k)) := by
        have h0 := HT.out k (by omega)
        rw [World.cell?_of_block (HFk.out.block 0 (World.block_lt_of_cell? w _ h0) hR0)]
        exact h0
      have ho := ord_lt k (by omega)
      have HO : Hid (ord k < 19) := ho
      have HST : Hid (∀ wz : World, wz.rowIs g 3 19 (fun j => .int .i64 (ck vs k j)) → (wz.setCell ⟨g, ord k, none⟩ (.int .i64 ((vs.getD k 0 : Nat) : Int))).rowIs g 3 19 (fun j => .int .i64 (ck vs (k + 1) j))) := fun wz hz => by
        refine (hz.set (ord k) (.int .i64 ((vs.getD k 0 : Nat) : Int))).congr (fun j hj => ?_)
        rw [← ck_set vs k j (by omega) hj]
        split <;> rfl
      obtain ⟨o, hoo⟩ : ∃ o, o = ord k := ⟨_, rfl⟩
      rw [← hoo] at htab ho HST
      obtain ⟨x, hx⟩ : ∃ x, x = vs.getD k 0 := ⟨_, rfl⟩
      rw [← hx] at hget HST
      have HTB : Hid (wr.drew.cell? ⟨0, k, none⟩ = some (.int .i64 o)) := htab
      clear e1 p1 hoo hx hR0
      go_wp2_with fail
      go_region_with (go_at_call 60; refine hget.mono ?_; rintro e w2 ⟨rfl, hs2, hw2, hf2⟩; have r2 : w2.rowIs g 3 19 (fun j => .int .i64 (ck vs k j)) := rowIs_fr HRk.out.drew hf2 (fun e => by have := HG.out; have := HI.out.2.1; omega); have a2 := r2.cell (i := o) (by omega); have a3 := r2.frozen o; have a4 : w2.cell? ⟨0, k, none⟩ = some (.int .i64 o) := by (rw [World.cell?_of_block (hf2.block 0 (World.block_lt_of_cell? _ _ HTB.out) HR0.out)]; exact HTB.out))
      all_goals
        (try simp only [List.getElem_toArray, List.getElem_cons_zero, List.getElem_cons_succ, Act.put, List.setIfInBounds_toArray, List.set_cons_zero, List.set_cons_succ])
        have hgl := HG.out
        have hi := HI.out
        have F0 : Fr (fun i => i = g) w2 (w2.setCell ⟨g, o, none⟩ (.int .i64 (x : Int))) := (Fr.refl (fun i => i = g) w2).setCell (p := ⟨g, o, none⟩) rfl _
        have R3 : Hid ((w2.setCell ⟨g, o, none⟩ (.int .i64 (x : Int))).rowIs g 3 19 (fun j => .int .i64 (ck vs (k + 1) j))) := HST.out w2 r2
        have S3 : Hid (IsS (w2.setCell ⟨g, o, none⟩ (.int .i64 (x : Int))) B S R ao n c X (p + 4 + 3 * (k + 1)) v os m) := hs2.fr F0 (fun e => by omega) (fun e => by omega) (fun i hv e => by have := hi.2.2.1 i hv; omega) (fun ad had hn0 e => by have := hi.2.2.2 ad had hn0; omega)
        have F3 : Hid (Fr (fun i => i = R) w (w2.setCell ⟨g, o, none⟩ (.int .i64 (x : Int)))) := (HFk.out.drew.trans hf2 (fun _ _ e => e)).trans F0 (fun i hi' e => by omega)
        generalize w2.setCell ⟨g, o, none⟩ (.int .i64 (x : Int)) = W3 at *
        clear F0 r2 a2 a3 a4 hs2 hw2 hf2 htab HTB hgl hi
        go_wp2
        go_roundw
        case rel => exact ⟨k + 1, by omega, by go_num, R3, S3, F3⟩
        case measure => simp [intOf]; omega
    · obtain rfl : k = N := by omega
      clear hlt
      have hri := Ri.row HRk.out
      go_wp2_with (go_at_call 89; refine (new_cd (some ⟨g, 0, none⟩) 19 19 (ck vs k) false wr hri hn).mono ?_; rintro e w3 ⟨A, rfl, hC, b3⟩)
      go_ret2
      exact ⟨A, rfl, hC, HSk.out.keep b3, HFk.out.trans (P' := fun _ => False) (Fr.ofBelow b3) (fun _ _ h => h.elim)⟩

end Go.Proofs.YtiahbicodlgmhaaGreatDoor

/- slices.Max, best, cut, codeOf, inOrder. -/
namespace Go.Proofs.YtiahbicodlgmhaaGreatDoor.Z
open Go.RowKit

set_option maxRecDepth 100000 in
set_option maxHeartbeats 1000000 in
theorem max_any (b n : Nat) (L : Nat → Int) (w : World) (h : w.rowIs b 3 n (fun j => .int .i64 (L j))) (h1 : 1 ≤ n) (hn : n ≤ 300) :
    Calls Tryz.prog 133 #[.slice (some ⟨b, 0, none⟩) n n] w fun e w' => ∃ m : Int, e = .returned (.int .i64 m) ∧ (∀ j, j < n → L j ≤ m) ∧ (∃ j, j < n ∧ L j = m) ∧ w' = w := by
  have c0 := h.cell (i := 0) (by omega)
  have HR : Hid (w.rowIs b 3 n (fun j => .int .i64 (L j))) := h
  have d1 : ¬ n < 1 := by omega
  clear h
  go_enter Tryz.func133, Tryz.ntmps133
  go_wp2_with fail
  go_loopw [3, 4] (fun mv iv wr => ∃ (k : Nat) (m : Int), 1 ≤ k ∧ k ≤ n ∧ iv = .int .i64 k ∧ mv = .int .i64 m ∧ Hid ((∀ j, j < k → L j ≤ m) ∧ ∃ j, j < k ∧ L j = m) ∧ wr = w) (fun _ iv _ => n - (intOf iv).toNat)
  case atStart => exact ⟨1, L 0, by omega, by omega, rfl, rfl, ⟨(fun j hj => by have e : j = 0 := (by omega); rw [e]; exact Int.le_refl _), 0, by omega, rfl⟩, rfl⟩
  case round =>
    clear c0
    obtain ⟨k, m, hk1, hk, rfl, rfl, HM, rfl⟩ := hrel
    by_cases hlt : k < n
    · have ck := HR.out.cell (i := k) hlt
      obtain ⟨m2, hm2⟩ : ∃ m2, m2 = max m (L k) := ⟨_, rfl⟩
      have HM2 : Hid (m2 = max m (L k)) := hm2
      clear hm2
      go_wp2_with (refine wpList_max rfl _ _ rfl m (L k) rfl rfl rfl m2 HM2.out ?_)
      go_roundw
      case rel =>
        refine ⟨k + 1, m2, by omega, by omega, by go_num, rfl, ⟨fun j hj => ?_, ?_⟩, trivial⟩
        · have := HM2.out
          rcases Nat.lt_or_ge j k with h' | h'
          · have := HM.out.1 j h'; omega
          · obtain rfl : j = k := by omega
            omega
        · have := HM2.out
          rcases Int.lt_or_le m (L k) with h' | h'
          · exact ⟨k, by omega, by omega⟩
          · obtain ⟨j, hj, e⟩ := HM.out.2
            exact ⟨j, by omega, by omega⟩
      case measure => simp [intOf]; omega
    · obtain rfl : k = n := by omega
      go_wp2
      go_ret
      exact ⟨m, rfl, HM.out.1, HM.out.2, rfl⟩

set_option maxRecDepth 100000 in
set_option maxHeartbeats 1000000 in
theorem best_any (ao : Option Addr) (n c m : Nat) (D : Nat → Int) (w : World) (h : Ri w ao n c D) (hk : Lim.okc D n = true) (hn1 : 1 ≤ n) (h1 : 1 ≤ m) (h15 : m ≤ 15) (hf : (Lim.sy D n).length ≤ 2 ^ m) :
    Calls Tryz.prog 103 #[.slice ao n c, .int .i64 m] w fun e w' => ∃ B L, e = .returned (.slice (some ⟨B, 0, none⟩) n n) ∧ w'.rowIs B 3 n (fun j => .int .i64 (L j)) ∧ Lim.Gb D n m L ∧ w.heap.size ≤ B ∧ Below w.heap.size w w' := by
  have hn := ((Lim.okc_iff D n).1 hk).1
  have hp := Lim.plain_go ao n c D w h hk
  have HR : Hid (Ri w ao n c D) := h
  have HK : Hid (Lim.okc D n = true) := hk
  have HF : Hid ((Lim.sy D n).length ≤ 2 ^ m) := hf
  clear h hk hf
  go_enter Tryz.func103, Tryz.ntmps103
  go_wp2_with fail
  refine hp.mono ?_
  rintro e w1 ⟨B, L, rfl, hr, pg, hB, hb⟩
  have hmx := max_any B n L w1 hr hn1 (by omega)
  have RES : Hid (w1.rowIs B 3 n (fun j => .int .i64 (L j)) ∧ Lim.Pg D n L ∧ w.heap.size ≤ B ∧ Below w.heap.size w w1) := ⟨hr, pg, hB, hb⟩
  clear hr pg hB hb hp
  go_wp2_with fail
  refine hmx.mono ?_
  rintro e w2 ⟨x, rfl, hx1, hx2, hw⟩
  subst w2
  have HX : Hid (∀ j, j < n → L j ≤ x) := hx1
  clear hx1 hx2 hmx
  by_cases hgt : (m : Int) < x
  · have hl := Lim.lens_go ao n c m D w1 (HR.out.keep RES.out.2.2.2) HK.out h1 h15 HF.out
    go_wp2_with fail
    refine hl.mono ?_
    rintro e w3 ⟨B3, L3, rfl, hr3, gd, hB3, hb3⟩
    have RES3 : Hid (w3.rowIs B3 3 n (fun j => .int .i64 (L3 j)) ∧ Lim.Gd D n m L3 ∧ w.heap.size ≤ B3 ∧ Below w.heap.size w w3) := ⟨hr3, gd, Nat.le_trans RES.out.2.2.2.size hB3, RES.out.2.2.2.trans (hb3.mono RES.out.2.2.2.size)⟩
    clear hr3 gd hB3 hb3 hl
    go_wp2_with fail
    go_ret
    exact ⟨B3, L3, rfl, RES3.out.1, RES3.out.2.1.gb, RES3.out.2.2.1, RES3.out.2.2.2⟩
  · go_wp2_with fail
    go_ret
    exact ⟨B, L, rfl, RES.out.1, RES.out.2.1.gb h1 (fun j hj => by have := HX.out j hj; omega), RES.out.2.2.1, RES.out.2.2.2⟩

set_option maxRecDepth 100000 in
set_option maxHeartbeats 1000000 in
theorem cut_any (b n c least : Nat) (L : Nat → Int) (w : World) (h : Ri w (some ⟨b, 0, none⟩) n c L) (h1 : least ≤ n) (hn : n ≤ 300) :
    Calls Tryz.prog 102 #[.slice (some ⟨b, 0, none⟩) n c, .int .i64 least] w fun e w' => ∃ k : Nat, e = .returned (.slice (some ⟨b, 0, none⟩) k c) ∧ least ≤ k ∧ k ≤ n ∧ (∀ j, k ≤ j → j < n → L j = 0) ∧ (least < k → L (k - 1) ≠ 0) ∧ w' = w := by
  have HR : Hid (Ri w (some ⟨b, 0, none⟩) n c L) := h
  have hle := h.le
  clear h
  go_enter Tryz.func102, Tryz.ntmps102
  go_wp2_with fail
  go_loopw [5] (fun nv wr => ∃ k : Nat, least ≤ k ∧ k ≤ n ∧ nv = .int .i64 k ∧ Hid (∀ j, k ≤ j → j < n → L j = 0) ∧ wr = w) (fun nv _ => (intOf nv).toNat)
  case atStart => exact ⟨n, by omega, by omega, rfl, fun j h1 h2 => by omega, rfl⟩
  case round =>
    obtain ⟨k, hk1, hk, rfl, HZ, rfl⟩ := hrel
    by_cases hgt : least < k
    · obtain ⟨j, rfl⟩ : ∃ j, k = j + 1 := ⟨k - 1, by omega⟩
      have cj := HR.out.cells _ rfl j (by omega)
      rw [Addr.add_lit, Nat.zero_add] at cj
      have t1 : ((j + 1 : Nat) : Int) - 1 = j := by omega
      have t2 : j < n := by omega
      by_cases hz : L j = 0
      · rw [hz] at cj
        go_wp2
        go_roundw
        case rel => exact ⟨j, by omega, by omega, by go_num, fun i h1 h2 => by
          rcases Nat.lt_or_ge j i with h' | h'
          · exact HZ.out i (by omega) h2
          · obtain rfl : i = j := by omega
            exact hz, trivial⟩
        case measure => simp [intOf]
      · have q : (L j == 0) = false := by simp [hz]
        go_wp2
        go_ret
        exact ⟨j + 1, rfl, by omega, hk, HZ.out, fun _ => by simpa using hz, rfl⟩
    · obtain rfl : k = least := by omega
      go_wp2
      go_ret
      exact ⟨k, rfl, by omega, hk, HZ.out, fun h => by omega, rfl⟩

theorem codeOf_any (ao : Option Addr) (n c : Nat) (L : Nat → Int) (w : World) (h : Ri w ao n c L) (hn : nw L n true = 0) :
    Calls Tryz.prog 101 #[.slice ao n c] w fun e w' => ∃ R, e = .returned (.pointer (some ⟨R, 0, none⟩)) ∧ Cx w' R w.heap.size w'.heap.size L n ∧ Below w.heap.size w w' := by
  have hc := new_cx ao n c L true w h hn
  clear h hn
  go_enter Tryz.func101, Tryz.ntmps101
  go_wp2_with (go_at_call 89; refine hc.mono ?_; rintro e w1 ⟨R, rfl, hx, hb⟩)
  go_ret
  exact ⟨R, rfl, hx, hb⟩

end Go.Proofs.YtiahbicodlgmhaaGreatDoor.Z

/- Counts of symbols; two symbols at least; inOrder. -/
namespace Go.Proofs.YtiahbicodlgmhaaGreatDoor.Z
open Go.RowKit

/-- How often a symbol of a code comes in steps. -/
def tl (c : Int) : List Stp → Nat → Int
  | [], _ => 0
  | s :: ss, j => (if s.1 = c ∧ s.2.1 = (j : Int) then 1 else 0) + tl c ss j

theorem tl_app (c : Int) (a b : List Stp) (j : Nat) : tl c (a ++ b) j = tl c a j + tl c b j := by
  induction a with
  | nil => simp [tl]
  | cons s a ih => simp only [List.cons_append, tl, ih]; omega

theorem tl_one (c : Int) (s : Stp) (j : Nat) : tl c [s] j = if s.1 = c ∧ s.2.1 = (j : Int) then 1 else 0 := by simp [tl]

theorem tl_bound (c : Int) (ss : List Stp) (j : Nat) : 0 ≤ tl c ss j ∧ tl c ss j ≤ ss.length := by
  induction ss with
  | nil => simp [tl]
  | cons s ss ih => simp only [tl, List.length_cons]; split <;> omega

theorem tl_pos {c : Int} {ss : List Stp} {s : Stp} {j : Nat} (h : s ∈ ss) (h1 : s.1 = c) (h2 : s.2.1 = (j : Int)) : 0 < tl c ss j := by
  induction ss with
  | nil => cases h
  | cons x ss ih =>
    have hb := tl_bound c ss j
    simp only [tl]
    rcases List.mem_cons.1 h with rfl | h'
    · rw [if_pos ⟨h1, h2⟩]; omega
    · have := ih h'
      split <;> omega

theorem clst_sym (q : Cl) : (clst q).1 = 0 ∧ (clst q).2.1 = (q.sym : Int) := by cases q <;> exact ⟨rfl, rfl⟩

theorem sy_two {D : Nat → Int} {n a b : Nat} (ha : a < n) (hb : b < n) (hne : a ≠ b) (h1 : 0 < D a) (h2 : 0 < D b) : 2 ≤ (Lim.sy D n).length := by
  have m1 := (Lim.sy_mem D n a).2 ⟨ha, h1⟩
  have m2 := (Lim.sy_mem D n b).2 ⟨hb, h2⟩
  match Lim.sy D n, m1, m2 with
  | [], m1, _ => cases m1
  | [x], m1, m2 =>
    simp at m1 m2
    omega
  | _ :: _ :: _, _, _ => simp

/-- The symbol that covers a place. -/
theorem Rns.at {L : Nat → Int} {n a : Nat} {qs : List Cl} (h : Rns L n a qs) : ∀ i, i < a → ∃ q ∈ qs, ∃ p, p ≤ i ∧ i < p + q.cnt ∧ Rn L n p q := by
  induction h with
  | nil => intro i hi; omega
  | snoc a qs q _ hr ih =>
    intro i hi
    rcases Nat.lt_or_ge i a with h' | h'
    · obtain ⟨x, hx, p, h1, h2, h3⟩ := ih i h'
      exact ⟨x, by simp [hx], p, h1, h2, h3⟩
    · exact ⟨q, by simp, a, h', hi, hr⟩

theorem Cl.len_of {q : Cl} (h : q.sym ≤ 15) : q.cnt = 1 := by
  cases q with
  | len x => rfl
  | rep v => simp [Cl.sym] at h
  | few v => simp [Cl.sym] at h
  | many v => simp [Cl.sym] at h

theorem Rns.two {L : Nat → Int} {n : Nat} {qs : List Cl} (h : Rns L n n qs) (hn : 257 < n) (hb : ∀ j, j < n → 0 ≤ L j ∧ L j ≤ 15) (he : L 256 ≠ 0) : ∃ q ∈ qs, ∃ q' ∈ qs, q.sym ≠ q'.sym := by
  apply Classical.byContradiction
  intro hno
  have hall : ∀ q ∈ qs, ∀ q' ∈ qs, q.sym = q'.sym := fun q hq q' hq' => by
    apply Classical.byContradiction
    intro hne
    exact hno ⟨q, hq, q', hq', hne⟩
  obtain ⟨q0, m0, p0, a1, a2, r0⟩ := h.at 0 (by omega)
  obtain rfl : p0 = 0 := by omega
  by_cases hz : L 0 = 0
  · obtain ⟨q, mq, p, b1, b2, r⟩ := h.at 256 (by omega)
    have v1 := r.val (256 - p) (by omega)
    have v2 := r.val 0 (by omega)
    rw [show p + (256 - p) = 256 by omega] at v1
    rw [Nat.add_zero] at v2
    have hp : L p ≠ 0 := by rw [v2, ← v1]; exact he
    have e := hall q0 m0 q mq
    have hb' := hb p (by omega)
    rcases r0.zr hz with h1 | h1 <;> rcases r.nz hp with h2 | h2 <;> omega
  · have hb0 := hb 0 (by omega)
    have s0 : (q0.sym : Int) = L 0 := by
      rcases r0.nz hz with h1 | h1
      · have ho := r0.ok
        cases q0 with
        | len x => have : x ≤ 15 := ho; have : x = 16 := h1; omega
        | rep v => exact absurd ho.2 (by omega)
        | few v => simp [Cl.sym] at h1
        | many v => simp [Cl.sym] at h1
      · exact h1
    have key : ∀ i, i < 4 → ∃ q ∈ qs, Rn L n i q ∧ q.sym = q0.sym ∧ L i = L 0 := fun i hi => by
      obtain ⟨q, mq, p, b1, b2, r⟩ := h.at i (by omega)
      have e := hall q mq q0 m0
      have hc := Cl.len_of (q := q) (by omega)
      obtain rfl : p = i := by omega
      refine ⟨q, mq, r, e, ?_⟩
      by_cases hpz : L p = 0
      · rcases r.zr hpz with h2 | h2 <;> omega
      · rcases r.nz hpz with h2 | h2 <;> omega
    obtain ⟨q1, m1, r1, e1, l1⟩ := key 1 (by omega)
    obtain ⟨_, _, _, _, l2⟩ := key 2 (by omega)
    obtain ⟨_, _, _, _, l3⟩ := key 3 (by omega)
    have := r1.rp (by omega) (by omega) (by omega) (by rw [l1]) (by rw [l1, ← l2]) (by rw [l1, ← l3])
    omega

theorem tab_range {w : World} {G : Nat} (h : Tab w G) : w.rangeAt G 0 (vals (fun j => .int .i64 (ord j)) 19) := by
  intro j v hv
  have hj : j < 19 := by
    have := (List.getElem?_eq_some_iff.1 hv).1
    rwa [vals_len] at this
  rw [vals_get _ _ _ hj] at hv
  cases hv
  rw [Nat.zero_add]
  exact h j hj

theorem size175 : (Tryz.prog.info? 175).map (·.size) = some 19 := by kernel_rfl
theorem agg3 (w : World) : (isAgg 3).run Tryz.prog w = .ok false w := by kernel_rfl
theorem size3 (w : World) : (sizeOf 3).run Tryz.prog w = .ok 1 w := by kernel_rfl

set_option maxRecDepth 100000 in
set_option maxHeartbeats 4000000 in
theorem inOrder_z (b : Nat) (L : Nat → Int) (w : World) (h : Ri w (some ⟨b, 0, none⟩) 19 19 L) (hT : Tab w 1) :
    Calls Tryz.prog 105 #[.slice (some ⟨b, 0, none⟩) 19 19] w fun e w' => ∃ v, e = .returned v ∧ w'.ownsRow w.heap.size 3 1 v 19 (ivs (fun k => L (ord k)) 19) ∧ Below w.heap.size w w' := by
  obtain ⟨i0, hi, hz0, hz1, hz2⟩ := info_parts Tryz.info3
  have HR : Hid (∀ W, Below w.heap.size w W → Ri W (some ⟨b, 0, none⟩) 19 19 L) := fun W hW => h.keep hW
  have hrg := tab_range hT
  have hidx : ∀ (k : Nat) (W : World), k < 19 → (Instr.index 175 (row (fun j => .int .i64 (ord j)) 19) (.int .i64 k)).run Tryz.prog W = .ok (.int .i64 (ord k)) W := fun k W hk => run_index_row 175 3 19 .i64 (fun j => .int .i64 (ord j)) k hk Tryz.underlying175 agg3 size3 W
  have HX : Hid (∀ (k : Nat) (W : World), k < 19 → (Instr.index 175 (row (fun j => .int .i64 (ord j)) 19) (.int .i64 k)).run Tryz.prog W = .ok (.int .i64 (ord k)) W) := hidx
  clear h hT hidx
  go_enter Tryz.func105, Tryz.ntmps105
  go_wp2_with (refine wpList_load_mid rfl 175 _ rfl 1 0 rfl _ _ hrg Tryz.underlying175 rfl (by rw [vals_len]; exact size175) ?_)
  go_loopw [3, 7] (fun lv iv wr => ∃ k : Nat, k ≤ 19 ∧ iv = .int .i64 k ∧ Hid (wr.ownsRow w.heap.size 3 1 lv k (ivs (fun k => L (ord k)) k)) ∧ Hid (Below w.heap.size w wr)) (fun _ iv _ => 19 - (intOf iv).toNat)
  case atStart => exact ⟨0, by omega, rfl, World.ownsRow_nil _ _ _ _, Below.refl _ _⟩
  case round =>
    obtain ⟨k, hk, rfl, HO, HB⟩ := hrel
    by_cases hlt : k < 19
    · have q1 := HX.out k wr hlt
      have ho := ord_lt k hlt
      have ck := (HR.out _ HB.out).cells _ rfl (ord k) ho
      rw [Addr.add_lit, Nat.zero_add] at ck
      obtain ⟨o, hoo⟩ : ∃ o, o = ord k := ⟨_, rfl⟩
      have HOO : Hid (o = ord k) := hoo
      rw [← hoo] at q1 ck ho
      obtain ⟨x, hx⟩ : ∃ x, x = L o := ⟨_, rfl⟩
      have HXX : Hid (x = L o) := hx
      rw [← hx] at ck
      have b1 : Below wr.heap.size wr (wr.alloc (Obj.cells #[Value.int .i64 x] 3)) := (Below.refl _ _).alloc (Nat.le_refl _) _
      have HO1 : Hid ((wr.alloc (Obj.cells #[Value.int .i64 x] 3)).ownsRow w.heap.size 3 1 u3 k (ivs (fun k => L (ord k)) k)) := own_keep HO.out b1
      have HB1 : Hid (Below w.heap.size w (wr.alloc (Obj.cells #[Value.int .i64 x] 3))) := HB.out.trans (b1.mono HB.out.size)
      have HN1 : Hid (∀ j u, [Value.int .i64 x][j]? = some u → (wr.alloc (Obj.cells #[Value.int .i64 x] 3)).cell? ((⟨wr.heap.size, 0, none⟩ : Addr).add j) = some u) := cells_new wr _ 3
      have HLT : Hid (∀ q, u3.ownBlock = some q → w.heap.size ≤ q) := fun q hq => (HO.out.lt q hq).1
      clear hoo hx b1 HO HB
      go_wp2_with (at_builtin; refine wpList_append_own _ rfl _ _ 59 rfl w.heap.size 3 i0 (.int .i64 0) 1 8 Tryz.underlying59 hi hz0 hz1 hz2 rfl (by decide) u3 k _ rfl HO1.out ⟨wr.heap.size, 0, none⟩ 1 1 [.int .i64 x] rfl rfl HN1.out (by intro u hu; simp at hu; subst hu; rfl) (by unfold maxLen; omega) (by omega) HB1.out.size ?_; intro v5 w5 o5 g5 n5)
      have B5 : Hid (Below w.heap.size w w5) := HB1.out.grown g5 HB1.out.size (fun q hq => HLT.out q hq)
      have HO5 : Hid (w5.ownsRow w.heap.size 3 1 v5 (k + 1) (ivs (fun k => L (ord k)) (k + 1))) := by
        show w5.ownsRow _ _ _ _ _ _
        have e : ivs (fun k => L (ord k)) (k + 1) = ivs (fun k => L (ord k)) k ++ [.int .i64 x] := by
          unfold ivs vals
          rw [List.range_succ, List.map_append, HXX.out, HOO.out]
          rfl
        rw [e]
        exact o5
      clear o5 g5 n5 HO1 HN1 HB1 HLT
      go_roundw
      case rel => exact ⟨k + 1, by omega, by go_num, HO5, B5⟩
      case measure => simp [intOf]; omega
    · obtain rfl : k = 19 := by omega
      go_wp2
      go_ret
      exact ⟨_, rfl, HO.out, HB.out⟩

end Go.Proofs.YtiahbicodlgmhaaGreatDoor.Z
