/- ShaWBlock, ShaXSum. -/
import Derived.Test.YtojgablpjdlegaaGreatDoorM16
import Derived.Deep.CutBlock
import Derived.Deep.CutRange
import Derived.Test.YtojgablpjdlegaaGreatDoorM17
import Derived.Laws.AppendOwnNone
/- The document's block. -/
namespace Go.Proofs.YtojgablpjdlegaaGreatDoor.Sha
open Go.RowKit

theorem info39 : (Tryz.prog.info? 144).map (fun i => (i.zero, i.size, i.bytes)) = some (some (.int .u32 0), 1, 4) := by kernel_rfl

theorem left_gen (v n : Int) (w : World) (h0 : 0 ≤ n) (h1 : n ≤ 31) : Calls Tryz.prog 110 #[.int .u32 v, .int .u64 n] w fun e w' => e = .returned (.int .u32 (rotl v n.toNat)) ∧ w' = w := by
  obtain ⟨k, rfl⟩ := Int.eq_ofNat_of_zero_le h0
  exact left_any v k w (by omega)

theorem low_row {w : World} {b t : Nat} (bs : List Int) (k : Nat) (h : w.rowIs b t 80 (fun j => .int .u32 (if j < k then sw bs j else 0))) : (w.setCell ⟨b, k, none⟩ (.int .u32 (sw bs k))).rowIs b t 80 (fun j => .int .u32 (if j < k + 1 then sw bs j else 0)) :=
  (h.set k _).congr (fun j _ => by
    by_cases e : j = k
    · subst e; simp
    · simp only [e, if_false]
      by_cases h : j < k
      · simp [h, show j < k + 1 by omega]
      · simp [h, show ¬ j < k + 1 by omega])

theorem own_rowIsB {w : World} {base e g n : Nat} {xs : List Value} (h : w.ownsRow base e 1 (.slice (some ⟨g, 0, none⟩) n n) n xs) : w.rowIs g e n (fun j => xs.getD j undef) := by
  rcases h.2 with ⟨e, _⟩ | ⟨g', cap, cur, e, _, hh, _, _, hsz, htk⟩
  · cases e
  · cases e
    have hs : cur.size = n := by simpa using hsz
    refine ⟨cur, hh, hs, fun i hi => ?_⟩
    rw [Nat.mul_one, List.take_of_length_le (by simp [hs])] at htk
    rw [← htk]
    simp [hs, hi]

theorem made_rowIsB {w : World} {base e g n : Nat} {z : Value} (hz : z.cells = #[z]) (h : w.ownsRow base e 1 (.slice (some ⟨g, 0, none⟩) n n) n (madeCells z.cells (n * 1)).toList) : w.rowIs g e n (fun _ => z) :=
  (own_rowIsB h).congr (fun j hj => by
    rw [hz]
    simp [madeCells, List.getD, hj, Nat.mod_one])

theorem tmp1 (x : Int) (t : Nat) (s : St) (h : t < 20) : (rotl s.a 5 + bits .or .u32 (bits .and .u32 s.b s.c) (bits .and .u32 (bits .xor .u32 IntKind.u32.max s.b) s.d) + s.e + 1518500249 + x) % 4294967296 = tmp x t s := by
  rw [← tmp_flat]; simp [fF, kK, h]

theorem tmp2 (x : Int) (t : Nat) (s : St) (h : ¬ t < 20) (h2 : t < 40) : (rotl s.a 5 + bits .xor .u32 (bits .xor .u32 s.b s.c) s.d + s.e + 1859775393 + x) % 4294967296 = tmp x t s := by
  rw [← tmp_flat]; simp [fF, kK, h, h2, x3]

theorem tmp3 (x : Int) (t : Nat) (s : St) (h : ¬ t < 20) (h2 : ¬ t < 40) (h3 : t < 60) : (rotl s.a 5 + bits .or .u32 (bits .or .u32 (bits .and .u32 s.b s.c) (bits .and .u32 s.b s.d)) (bits .and .u32 s.c s.d) + s.e + 2400959708 + x) % 4294967296 = tmp x t s := by
  rw [← tmp_flat]; simp [fF, kK, h, h2, h3]

theorem tmp4 (x : Int) (t : Nat) (s : St) (h : ¬ t < 20) (h2 : ¬ t < 40) (h3 : ¬ t < 60) : (rotl s.a 5 + bits .xor .u32 (bits .xor .u32 s.b s.c) s.d + s.e + 3395469782 + x) % 4294967296 = tmp x t s := by
  rw [← tmp_flat]; simp [fF, kK, h, h2, h3, x3]

/-- The world behind the five stores of a step. -/
def five (w : World) (X : Nat) (r : St) (T : Int) : World :=
  ((((w.setCell ⟨X, 4, none⟩ (.int .u32 r.d)).setCell ⟨X, 3, none⟩ (.int .u32 r.c)).setCell ⟨X, 2, none⟩ (.int .u32 (rotl r.b 30))).setCell ⟨X, 1, none⟩ (.int .u32 r.a)).setCell ⟨X, 0, none⟩ (.int .u32 T)

theorem five_row {w : World} {X : Nat} (r : St) (x : Int) (k : Nat) (h : w.rowIs X 145 5 (fun j => .int .u32 (r.nth j))) : (five w X r (tmp x k r)).rowIs X 145 5 (fun j => .int .u32 ((step x k r).nth j)) :=
  (((((h.set 4 _).set 3 _).set 2 _).set 1 _).set 0 _).congr (fun i hi => by
    rcases i with _ | _ | _ | _ | _ | i
    · rfl
    · rfl
    · rfl
    · rfl
    · rfl
    · omega)

theorem five_other {w : World} {X b t n : Nat} {f : Nat → Value} (r : St) (T : Int) (h : w.rowIs b t n f) (hb : b ≠ X) : (five w X r T).rowIs b t n f :=
  ((((h.setOther hb _).setOther hb _).setOther hb _).setOther hb _).setOther hb _

theorem five_below {w w' : World} {X B : Nat} (r : St) (T : Int) (h : Below B w w') (hb : B ≤ X) : Below B w (five w' X r T) :=
  ((((h.setCell hb _).setCell hb _).setCell hb _).setCell hb _).setCell hb _

set_option maxRecDepth 100000 in
set_option maxHeartbeats 40000000 in
theorem block_any (s : St) (B o c : Nat) (bs : List Int) (w : World) (hr : Rd w (some ⟨B, o, none⟩) 64 c bs) : Calls Tryz.prog 89 #[stv s, .slice (some ⟨B, o, none⟩) 64 c] w fun e w' => e = .returned (stv (mix s bs)) ∧ Below w.heap.size w w' := by
  obtain ⟨i0, hi, hz0, hz1, hz2⟩ := info_parts info39
  have HR : Hid (Rd w (some ⟨B, o, none⟩) 64 c bs) := hr
  have hc64 : 64 ≤ c := hr.le
  have r40 := (st_row w s).alloc (.cells #[.int .u32 0, .int .u32 0, .int .u32 0, .int .u32 0, .int .u32 0] 145)
  have rz := rowIs_rep (w.alloc (.cells #[.int .u32 s.a, .int .u32 s.b, .int .u32 s.c, .int .u32 s.d, .int .u32 s.e] 145)) (.int .u32 0) 5 145
  rw [show (w.alloc (.cells #[.int .u32 s.a, .int .u32 s.b, .int .u32 s.c, .int .u32 s.d, .int .u32 s.e] 145)).heap.size = w.heap.size + 1 by simp] at rz
  have hbl : Below w.heap.size w ((w.alloc (.cells #[.int .u32 s.a, .int .u32 s.b, .int .u32 s.c, .int .u32 s.d, .int .u32 s.e] 145)).alloc (.cells #[.int .u32 0, .int .u32 0, .int .u32 0, .int .u32 0, .int .u32 0] 145)) := ((Below.refl _ _).alloc (Nat.le_refl _) _).alloc (by simp) _
  clear hr
  go_enter Tryz.func89, Tryz.ntmps89
  go_wp2_with (first | (at_make; refine wpList_make_full _ rfl _ _ 178 rfl 0 144 i0 (.int .u32 0) 1 Tryz.underlying178 hi hz0 hz1 _ _ _ _ 80 rfl rfl rfl rfl (by rw [hz2]; omega) (by unfold maxLen; omega) (Nat.zero_le _) ?_; intro w1 hown hgrow))
  have rw1 : w1.rowIs (w.heap.size + 2) 144 80 (fun _ => .int .u32 0) := by simpa using made_rowIsB rfl hown
  have q40 : w1.rowIs w.heap.size 145 5 (fun j => .int .u32 (s.nth j)) := r40.of_block (hgrow.block _ (by simp; omega) (by simp))
  have qz : w1.rowIs (w.heap.size + 1) 145 5 (fun _ => .int .u32 0) := World.rowIs.of_block rz (hgrow.block _ (by simp) (by simp))
  have hbq : Below w.heap.size w w1 := hbl.grown hgrow (by simp; omega) (fun k hk => by cases hk)
  clear hown hgrow r40 rz hbl
  go_wp2_with fail
  go_loopw [6] (fun t wr => ∃ k : Nat, k ≤ 16 ∧ t = .int .i64 (k : Int) ∧ wr.rowIs (w.heap.size + 2) 144 80 (fun j => .int .u32 (if j < k then sw bs j else 0)) ∧ wr.rowIs w.heap.size 145 5 (fun j => .int .u32 (s.nth j)) ∧ wr.rowIs (w.heap.size + 1) 145 5 (fun _ => .int .u32 0) ∧ Below w.heap.size w wr)
    (fun t _ => (16 - intOf t).toNat)
  case atStart => exact ⟨0, by omega, rfl, rw1.congr (fun j _ => by simp), q40, qz, hbq⟩
  case round =>
    clear rw1 q40 qz hbq
    obtain ⟨k, hk, rfl, rw1, q40, qz, hbq⟩ := hrel
    by_cases hlt : k < 16
    · have hr2 := HR.out.keep hbq
      have hbk : B < wr.heap.size := World.block_lt_of_cell? wr _ (hr2.cells _ rfl 0 (by omega))
      have hcl : ∀ j, j < 64 → wr.cell? ⟨B, o + j, none⟩ = some (.int .u8 (bs.getD j 0)) := fun j hj => by
        have := hr2.cells _ rfl j hj
        rwa [Addr.add_lit] at this
      obtain ⟨p, hp⟩ : ∃ p, p = 4 * k := ⟨_, rfl⟩
      have d0 := hcl p (by omega)
      have d1 := hcl (p + 1) (by omega)
      have d2 := hcl (p + 2) (by omega)
      have d3 := hcl (p + 3) (by omega)
      have e4 : IntKind.i64.wrap (4 * (k : Int)) = (p : Int) := by rw [IntKind.wrap_i64]; omega
      have hpc : p < c := by omega
      have hp64 : p < 64 := by omega
      have b0 := getD_byt bs hr2.byt p
      have b1 := getD_byt bs hr2.byt (p + 1)
      have b2 := getD_byt bs hr2.byt (p + 2)
      have b3 := getD_byt bs hr2.byt (p + 3)
      have HS : Hid (bs.getD p 0 * 16777216 + bs.getD (p + 1) 0 * 65536 + bs.getD (p + 2) 0 * 256 + bs.getD (p + 3) 0 = sw bs k) := by
        rw [sw_low bs k hlt, hp]; rfl
      obtain ⟨v0, hv0⟩ : ∃ v, v = bs.getD p 0 := ⟨_, rfl⟩
      obtain ⟨v1, hv1⟩ : ∃ v, v = bs.getD (p + 1) 0 := ⟨_, rfl⟩
      obtain ⟨v2, hv2⟩ : ∃ v, v = bs.getD (p + 2) 0 := ⟨_, rfl⟩
      obtain ⟨v3, hv3⟩ : ∃ v, v = bs.getD (p + 3) 0 := ⟨_, rfl⟩
      rw [← hv0] at d0 b0 HS
      rw [← hv1] at d1 b1 HS
      rw [← hv2] at d2 b2 HS
      rw [← hv3] at d3 b3 HS
      have W := word_any B (o + p) (64 - p) (c - p) wr v0 v1 v2 v3 (by omega) d0 d1 d2 d3 b0 b1 b2 b3
      have ct := rw1.cell (i := k) (by omega)
      have ft := rw1.frozen k
      have ct' : wr.drew.cell? ⟨w.heap.size + 2, k, none⟩ = _ := ct
      have ft' : wr.drew.frozen? ⟨w.heap.size + 2, k, none⟩ = _ := ft
      have h3 := low_row bs k rw1
      have h4 : (wr.setCell ⟨w.heap.size + 2, k, none⟩ (.int .u32 (sw bs k))).rowIs w.heap.size 145 5 (fun j => .int .u32 (s.nth j)) := q40.setOther (by simp) _
      have h5 : (wr.setCell ⟨w.heap.size + 2, k, none⟩ (.int .u32 (sw bs k))).rowIs (w.heap.size + 1) 145 5 (fun _ => .int .u32 0) := qz.setOther (by simp) _
      have hb' : Below w.heap.size w (wr.setCell ⟨w.heap.size + 2, k, none⟩ (.int .u32 (sw bs k))) := hbq.setCell (by simp) _
      clear rw1 q40 qz hbq hr2 hcl d0 d1 d2 d3 b0 b1 b2 b3 hv0 hv1 hv2 hv3 hp ct ft
      rw [HS.out] at W
      go_wp2_with (first | (go_at_call 109; refine W.mono ?_; rintro e w2 ⟨rfl, hw⟩; subst w2))
      exact ⟨⟨k + 1, by omega, by go_num, h3, h4, h5, hb'.drew⟩, by simp [intOf]; omega⟩
    · have h16 : k = 16 := by omega
      rw [h16] at rw1
      obtain ⟨z, hz⟩ : ∃ z : Int, z = (k : Int) := ⟨_, rfl⟩
      have hz16 : ¬ z < 16 := by omega
      rw [← hz]
      clear h16 hz hlt hk HR
      go_wp2_with fail
      clear hz16
      go_loopw [7] (fun t wx => ∃ k : Nat, 16 ≤ k ∧ k ≤ 80 ∧ t = .int .i64 (k : Int) ∧ wx.rowIs (w.heap.size + 2) 144 80 (fun j => .int .u32 (if j < k then sw bs j else 0)) ∧ wx.rowIs w.heap.size 145 5 (fun j => .int .u32 (s.nth j)) ∧ wx.rowIs (w.heap.size + 1) 145 5 (fun _ => .int .u32 0) ∧ Below w.heap.size w wx)
        (fun t _ => (80 - intOf t).toNat)
      case atStart => exact ⟨16, by omega, by omega, rfl, rw1, q40, qz, hbq⟩
      case round =>
        clear rw1 q40 qz hbq
        clear k
        obtain ⟨k, hk16, hk80, rfl, rw1, q40, qz, hbq⟩ := hrel
        by_cases hlt : k < 80
        · obtain ⟨a, ha⟩ : ∃ a, a = k - 16 := ⟨_, rfl⟩
          obtain ⟨b, hb⟩ : ∃ b, b = k - 14 := ⟨_, rfl⟩
          obtain ⟨c', hc⟩ : ∃ c, c = k - 8 := ⟨_, rfl⟩
          obtain ⟨d, hd⟩ : ∃ d, d = k - 3 := ⟨_, rfl⟩
          have c0 := rw1.cell (i := a) (by omega)
          have c2 := rw1.cell (i := b) (by omega)
          have c8 := rw1.cell (i := c') (by omega)
          have c13 := rw1.cell (i := d) (by omega)
          have c16 := rw1.cell (i := k) (by omega)
          have ft := rw1.frozen k
          simp only [show a < k by omega, show b < k by omega, show c' < k by omega, show d < k by omega, Nat.lt_irrefl, if_true, if_false] at c0 c2 c8 c13 c16
          have hs := sw_high bs k hk16 hlt
          rw [← ha, ← hb, ← hc, ← hd] at hs
          have h3 := low_row bs k rw1
          have h4 : (wr.setCell ⟨w.heap.size + 2, k, none⟩ (.int .u32 (sw bs k))).rowIs w.heap.size 145 5 (fun j => .int .u32 (s.nth j)) := q40.setOther (by simp) _
          have h5 : (wr.setCell ⟨w.heap.size + 2, k, none⟩ (.int .u32 (sw bs k))).rowIs (w.heap.size + 1) 145 5 (fun _ => .int .u32 0) := qz.setOther (by simp) _
          have hb' : Below w.heap.size w (wr.setCell ⟨w.heap.size + 2, k, none⟩ (.int .u32 (sw bs k))) := hbq.setCell (by simp) _
          have HS : Hid (rotl (x4 (sw bs d) (sw bs c') (sw bs b) (sw bs a)) 1 = sw bs k) := hs.symm
          have e0 : IntKind.i64.wrap ((k : Int) - 16) = (a : Int) := by rw [IntKind.wrap_i64]; omega
          have e2 : IntKind.i64.wrap ((k : Int) - 14) = (b : Int) := by rw [IntKind.wrap_i64]; omega
          have e8 : IntKind.i64.wrap ((k : Int) - 8) = (c' : Int) := by rw [IntKind.wrap_i64]; omega
          have e13 : IntKind.i64.wrap ((k : Int) - 3) = (d : Int) := by rw [IntKind.wrap_i64]; omega
          have la : (a : Int) < 80 := by omega
          have lb : (b : Int) < 80 := by omega
          have lc : (c' : Int) < 80 := by omega
          have ld : (d : Int) < 80 := by omega
          have lk : (k : Int) < 80 := by omega
          have HK : Hid (16 ≤ k ∧ k < 80) := ⟨hk16, hlt⟩
          have na : k ≠ a := by omega
          have nb : k ≠ b := by omega
          have nc : k ≠ c' := by omega
          have nd : k ≠ d := by omega
          obtain ⟨v, hv⟩ : ∃ v, v = sw bs k := ⟨_, rfl⟩
          rw [← hv] at h3 h4 h5 hb' HS
          obtain ⟨y0, hy0⟩ : ∃ v, v = sw bs a := ⟨_, rfl⟩
          obtain ⟨y2, hy2⟩ : ∃ v, v = sw bs b := ⟨_, rfl⟩
          obtain ⟨y8, hy8⟩ : ∃ v, v = sw bs c' := ⟨_, rfl⟩
          obtain ⟨y13, hy13⟩ : ∃ v, v = sw bs d := ⟨_, rfl⟩
          rw [← hy0] at c0 HS
          rw [← hy2] at c2 HS
          rw [← hy8] at c8 HS
          rw [← hy13] at c13 HS
          clear rw1 q40 qz hbq hs hv hy0 hy2 hy8 hy13 ha hb hc hd hk16 hk80 hlt
          go_wp2_with fail
          go_region_held3 (fun w' => w'.cell? ⟨w.heap.size + 2, a, none⟩ = some (.int .u32 y0) ∧ w'.cell? ⟨w.heap.size + 2, b, none⟩ = some (.int .u32 y2) ∧ w'.cell? ⟨w.heap.size + 2, c', none⟩ = some (.int .u32 y8) ∧ w'.cell? ⟨w.heap.size + 2, d, none⟩ = some (.int .u32 y13)) (simp [*, cell_ne])
              ((go_at_call 110; refine (left_gen _ _ _ (by omega) (by omega)).mono ?_; rintro e w1 ⟨rfl, hw⟩; subst w1))
          clear c0 c2 c8 c13 c16 ft e0 e2 e8 e13 na nb nc nd
          go_wp2_with fail
          obtain ⟨p1, p2⟩ := HK.out
          exact ⟨⟨k + 1, by omega, by omega, by go_num, by rw [← HS.out] at h3; exact h3, by rw [← HS.out] at h4; exact h4, by rw [← HS.out] at h5; exact h5, by rw [← HS.out] at hb'; exact hb'.drew⟩, by simp [intOf]; omega⟩
        · have h80 : k = 80 := by omega
          have rw2 : wr.rowIs (w.heap.size + 2) 144 80 (fun j => .int .u32 (sw bs j)) := rw1.congr (fun j hj => by rw [if_pos (by omega)])
          obtain ⟨z2, hz⟩ : ∃ z : Int, z = (k : Int) := ⟨_, rfl⟩
          have hz80 : ¬ z2 < 80 := by omega
          rw [← hz]
          clear h80 hz hlt hk16 hk80 rw1
          have HQ : Hid (wr.rowIs (w.heap.size + 2) 144 80 (fun j => .int .u32 (sw bs j))) := rw2
          have HZ : Hid (wr.rowIs (w.heap.size + 1) 145 5 (fun _ => .int .u32 0)) := qz
          have HN : Hid (Below w.heap.size w wr) := hbq
          clear rw2 qz hbq
          have q1 := q40
          go_wp2_with (first
            | (refine wpList_ld0 rfl 145 _ rfl w.heap.size rfl _ q1 5 (by omega) Tryz.underlying145 rfl size40 ?_; clear q1)
            | (refine wpList_st rfl 145 _ _ rfl wr.heap.size rfl (fun j => .int .u32 (s.nth j)) rfl (rowIs_rep wr (.int .u32 0) 5 145) size40 (fun j => rfl) ?_; intro w4 h4 f4))
          obtain ⟨X, hX⟩ : ∃ X, X = wr.heap.size := ⟨_, rfl⟩
          have l2 := World.rowIs.lt HQ.out
          have hfr : Fr (fun k => k = X) wr w4 := by rw [hX]; exact ((Fr.refl (fun k => k = wr.heap.size) wr).alloc _).trans f4 (fun _ _ e => e)
          have n0 : w.heap.size ≠ X := by omega
          have n1 : w.heap.size + 1 ≠ X := by omega
          have n2 : w.heap.size + 2 ≠ X := by omega
          have nb : w.heap.size ≤ X := by omega
          have s0 := rowIs_fr q40 hfr n0
          have s1 := rowIs_fr HZ.out hfr n1
          have s2 := rowIs_fr HQ.out hfr n2
          have hbq : Below w.heap.size w w4 := HN.out.trans (hfr.below _ (by omega) (fun i hi e => by omega))
          rw [← hX] at h4 ⊢
          clear HQ HZ HN q40 hX l2 hfr f4 hz80
          go_loopw [9] (fun t wx => ∃ k : Nat, k ≤ 80 ∧ t = .int .i64 (k : Int) ∧ wx.rowIs X 145 5 (fun j => .int .u32 ((run bs s k).nth j)) ∧ wx.rowIs (w.heap.size + 2) 144 80 (fun j => .int .u32 (sw bs j)) ∧ wx.rowIs w.heap.size 145 5 (fun j => .int .u32 (s.nth j)) ∧ wx.rowIs (w.heap.size + 1) 145 5 (fun _ => .int .u32 0) ∧ Below w.heap.size w wx)
            (fun t _ => (80 - intOf t).toNat)
          case atStart => exact ⟨0, by omega, rfl, h4, s2, s0, s1, hbq⟩
          case round =>
            clear h4 s0 s1 s2 hbq
            obtain ⟨k, hk80, rfl, h4, s2, s0, s1, hbq⟩ := hrel
            obtain ⟨r, hr⟩ : ∃ r, r = run bs s k := ⟨_, rfl⟩
            rw [← hr] at h4
            by_cases hlt : k < 80
            · have x0 := h4.cell (i := 0) (by omega)
              have x1 := h4.cell (i := 1) (by omega)
              have x2 := h4.cell (i := 2) (by omega)
              have x3 := h4.cell (i := 3) (by omega)
              have x4 := h4.cell (i := 4) (by omega)
              have f0 := h4.frozen 0
              have f1 := h4.frozen 1
              have f2 := h4.frozen 2
              have f3 := h4.frozen 3
              have f4 := h4.frozen 4
              have ct := s2.cell (i := k) (by omega)
              simp only [St.nth] at x0 x1 x2 x3 x4
              obtain ⟨x, hx⟩ : ∃ x, x = sw bs k := ⟨_, rfl⟩
              rw [← hx] at ct
              have g4 := five_row r x k h4
              have g2 := five_other r (tmp x k r) s2 n2
              have g0 := five_other r (tmp x k r) s0 n0
              have g1 := five_other r (tmp x k r) s1 n1
              have gb := five_below r (tmp x k r) hbq nb
              have HG : Hid (step x k r = run bs s (k + 1)) := by rw [run_succ bs s k hlt, hr, hx]; rfl
              clear h4 s2 s0 s1 hbq hr hx
              have lk : (k : Int) < 80 := by omega
              have HKK : Hid (k < 80) := hlt
              have HT : Hid _ := tmp_flat x k r
              go_upto_block 6 with fail
              go_cut [10, 11] from 59 to 146 (fun fv kv wx => fv = .int .u32 (fF k r.b r.c r.d) ∧ kv = .int .u32 (kK k) ∧ wr = wx)
              case first =>
                clear lk hlt HT
                by_cases t20 : k < 20
                · have d20 : decide ((k : Int) < 20) = true := by simp; omega
                  have HF : Hid (fF k r.b r.c r.d = _ ∧ kK k = _) := ⟨by rw [fF, if_pos t20], by rw [kK, if_pos t20]⟩
                  clear t20
                  go_wp2_with fail
                  go_meet
                  exact ⟨by rw [HF.out.1], by rw [HF.out.2], rfl⟩
                by_cases t40 : k < 40
                · have d20 : decide ((k : Int) < 20) = false := by simp; omega
                  have d40 : decide ((k : Int) < 40) = true := by simp; omega
                  have HF : Hid (fF k r.b r.c r.d = _ ∧ kK k = _) := ⟨by rw [fF, if_neg t20, if_pos t40], by rw [kK, if_neg t20, if_pos t40]⟩
                  clear t20 t40
                  go_wp2_with fail
                  go_meet
                  exact ⟨by rw [HF.out.1]; rfl, by rw [HF.out.2], rfl⟩
                by_cases t60 : k < 60
                · have d20 : decide ((k : Int) < 20) = false := by simp; omega
                  have d40 : decide ((k : Int) < 40) = false := by simp; omega
                  have d60 : decide ((k : Int) < 60) = true := by simp; omega
                  have HF : Hid (fF k r.b r.c r.d = _ ∧ kK k = _) := ⟨by rw [fF, if_neg t20, if_neg t40, if_pos t60], by rw [kK, if_neg t20, if_neg t40, if_pos t60]⟩
                  clear t20 t40 t60
                  go_wp2_with fail
                  go_meet
                  exact ⟨by rw [HF.out.1], by rw [HF.out.2], rfl⟩
                · have d20 : decide ((k : Int) < 20) = false := by simp; omega
                  have d40 : decide ((k : Int) < 40) = false := by simp; omega
                  have d60 : decide ((k : Int) < 60) = false := by simp; omega
                  have HF : Hid (fF k r.b r.c r.d = _ ∧ kK k = _) := ⟨by rw [fF, if_neg t20, if_neg t40, if_neg t60], by rw [kK, if_neg t20, if_neg t40, if_neg t60]⟩
                  clear t20 t40 t60
                  go_wp2_with fail
                  go_meet
                  exact ⟨by rw [HF.out.1]; rfl, by rw [HF.out.2], rfl⟩
              case rest =>
                obtain ⟨rfl, rfl, rfl⟩ := hcut
                obtain ⟨F, hF⟩ : ∃ F, F = fF k r.b r.c r.d := ⟨_, rfl⟩
                obtain ⟨KK, hKK⟩ : ∃ KK, KK = kK k := ⟨_, rfl⟩
                rw [← hF, ← hKK] at HT
                rw [← hF, ← hKK]
                clear hF hKK hlt
                go_wp2_with fail
                go_region_held3 (fun w' => w'.cell? ⟨X, 0, none⟩ = some (.int .u32 r.a) ∧ w'.cell? ⟨X, 4, none⟩ = some (.int .u32 r.e) ∧ w'.cell? ⟨w.heap.size + 2, k, none⟩ = some (.int .u32 x)) (simp [*]) ((go_at_call 110; refine (left_gen _ _ _ (by omega) (by omega)).mono ?_; rintro e w1 ⟨rfl, hw⟩; subst w1))
                go_wp2_with (go_at_call 110; refine (left_gen _ _ _ (by omega) (by omega)).mono ?_; rintro e w1 ⟨rfl, hw⟩; subst w1)
                rw [HT.out]
                have hlt := HKK.out
                exact ⟨⟨k + 1, by omega, by go_num, by rw [← HG.out]; exact g4, g2, g0, g1, gb.drew⟩, by simp [intOf]; omega⟩
            · have h80 : k = 80 := by omega
              rw [h80] at hr
              have HR : Hid (r = run bs s 80) := hr
              obtain ⟨z3, hz⟩ : ∃ z : Int, z = (k : Int) := ⟨_, rfl⟩
              have hz80 : ¬ z3 < 80 := by omega
              rw [← hz]
              clear h80 hz hlt hr hk80
              go_wp2_with fail
              clear hz80
              go_loopw [13] (fun i wx => ∃ k : Nat, k ≤ 5 ∧ i = .int .i64 (k : Int) ∧ wx.rowIs X 145 5 (fun j => .int .u32 (r.nth j)) ∧ wx.rowIs w.heap.size 145 5 (fun j => .int .u32 (if j < k then (s.plus r).nth j else s.nth j)) ∧ wx.rowIs (w.heap.size + 1) 145 5 (fun _ => .int .u32 0) ∧ Below w.heap.size w wx)
                (fun i _ => (5 - intOf i).toNat)
              case atStart => exact ⟨0, by omega, rfl, h4, s0.congr (fun j _ => by simp), s1, hbq⟩
              case round =>
                clear h4 s0 s1 s2 hbq
                obtain ⟨k2, hk5, rfl, h4, s0, s1, hbq⟩ := hrel
                by_cases hlt : k2 < 5
                · have ct := s0.cell (i := k2) hlt
                  have ft := s0.frozen k2
                  have cx := h4.cell (i := k2) hlt
                  simp only [Nat.lt_irrefl, if_false] at ct
                  have h3 := plus_row s r k2 s0
                  have h4' : (wr.setCell ⟨w.heap.size, k2, none⟩ (.int .u32 (ad (s.nth k2) (r.nth k2)))).rowIs (w.heap.size + 1) 145 5 (fun _ => .int .u32 0) := s1.setOther (by simp) _
                  have h5' : (wr.setCell ⟨w.heap.size, k2, none⟩ (.int .u32 (ad (s.nth k2) (r.nth k2)))).rowIs X 145 5 (fun j => .int .u32 (r.nth j)) := h4.setOther (fun e => n0 e.symm) _
                  have hb' : Below w.heap.size w (wr.setCell ⟨w.heap.size, k2, none⟩ (.int .u32 (ad (s.nth k2) (r.nth k2)))) := hbq.setCell (by simp) _
                  unfold ad at h3 h4' h5' hb'
                  clear h4 s0 s1 hbq
                  go_wp2_with fail
                  go_region
                  all_goals
                    go_wp2_with fail
                    exact ⟨⟨k2 + 1, by omega, by go_num, h5', h3, h4', hb'.drew⟩, by simp [intOf]; omega⟩
                · have h5 : k2 = 5 := by omega
                  have r1 : wr.rowIs w.heap.size 145 5 (fun j => .int .u32 ((mix s bs).nth j)) := s0.congr (fun j hj => by rw [if_pos (by omega), HR.out]; rfl)
                  clear s0 h4
                  go_wp2_with (first
                    | (refine wpList_ld0 rfl 145 _ rfl w.heap.size rfl _ r1 5 (by omega) Tryz.underlying145 rfl size40 ?_; clear r1)
                    | (refine wpList_st rfl 145 _ _ rfl (w.heap.size + 1) rfl (fun j => .int .u32 ((mix s bs).nth j)) rfl s1 size40 (fun j => rfl) ?_; intro w3 h3 f3))
                  refine bodyPost_ret (results_row rfl _ rfl h3 Tryz.underlying145 rfl size40) rfl ⟨rfl, ?_⟩
                  exact hbq.trans (f3.below _ hbq.size (fun i hi e => by omega))

end Go.Proofs.YtojgablpjdlegaaGreatDoor.Sha

/- The document's Sum. -/
namespace Go.Proofs.YtojgablpjdlegaaGreatDoor.Sha
open Go.RowKit

/-- 'append(out, ys...)', out the call's own, ys nil or not. -/
theorem wpList_append_rd {w : World} {ops : Array Oper} {rest : List Oper} {o : Oper} {a : Act} {Q : Exit → Act → World → Prop} (hgd : o.guard = none) (s x : Operand)
    (ho : o.op = .call { callee := .builtin .append, args := #[s, x], argTypes := #[22, 22] })
    (base g n cap : Nat) (xs : List Int) (hs : a.eval s = .slice (some ⟨g, 0, none⟩) n cap) (hown : w.ownsRow base 5 1 (.slice (some ⟨g, 0, none⟩) n cap) n (xs.map (Value.int .u8)))
    (ao : Option Addr) (m c : Nat) (ys : List Int) (hx : a.eval x = .slice ao m c) (hr : Rd w ao m c ys) (hlim : n + m ≤ 140737488355328) (hbase : base ≤ w.heap.size)
    (h : ∀ g' cap' w', w'.ownsRow base 5 1 (.slice (some ⟨g', 0, none⟩) (n + m) cap') (n + m) ((xs ++ ys).map (Value.int .u8)) → w.grownBy w' (some g) → wpList Tryz.prog ops Q rest (a.put o.dst (.slice (some ⟨g', 0, none⟩) (n + m) cap')) w') :
    wpList Tryz.prog ops Q (o :: rest) a w := by
  obtain ⟨i0, hi, hz0, hz1, hz2⟩ := info_parts Tryz.info5
  cases ao with
  | none =>
    obtain ⟨rfl, rfl⟩ := hr.nul rfl
    have hy : ys = [] := List.eq_nil_of_length_eq_zero hr.len
    subst hy
    refine wpList_append_own_none hgd s x 22 ho base 5 i0 1 Tryz.underlying22 hi _ n _ hs hown hx ?_
    exact h g cap w (by simpa using hown) (World.grownBy.refl _ _)
  | some ad =>
    refine wpList_append_own w hgd s x 22 ho base 5 i0 (.int .u8 0) 1 1 Tryz.underlying22 hi hz0 hz1 hz2 rfl (by decide) _ n _ hs hown ad m c (ys.map (Value.int .u8)) hx (by simpa using hr.len) (hr.cellsOf ad rfl) (ints_oneCell _ _)
      (by unfold maxLen; omega) (by omega) hbase ?_
    intro v' w' h1 h2 h3
    obtain ⟨g', cap', rfl⟩ : ∃ g' cap', v' = .slice (some ⟨g', 0, none⟩) (n + m) cap' := by
      rcases h1.2 with ⟨h', _⟩ | ⟨g', cap', cur, h', _⟩
      · rw [h3] at h'; cases h'.1
      · exact ⟨g', cap', h'⟩
    exact h g' cap' w' (by simpa using h1) h2

theorem own_base {w : World} {base g n c : Nat} {xs : List Value} (h : w.ownsRow base 5 1 (.slice (some ⟨g, 0, none⟩) n c) n xs) : base ≤ g := by
  rcases h.2 with ⟨e, _⟩ | ⟨g', cap, cur, e, hb, _⟩
  · cases e
  · cases e; exact hb

theorem none_own (w : World) (base : Nat) (hb : base ≤ w.heap.size) : (w.alloc (.cells #[] 5)).ownsRow base 5 1 (.slice (some ⟨w.heap.size, 0, none⟩) 0 0) 0 (([] : List Int).map (Value.int .u8)) :=
  World.ownsRow_lit (base := base) (e := 5) (size := 1) w #[] 0 hb (by unfold maxLen; omega) rfl

theorem one_rd (w : World) (v : Int) (h : 0 ≤ v ∧ v < 256) : Rd (w.alloc (Obj.cells #[.int .u8 v] 5)) (some ⟨w.heap.size, 0, none⟩) 1 1 [v] :=
  Rd.ofRow (World.rowIs_alloc w #[.int .u8 v] 5 _ (fun i hi => by
    simp at hi
    rcases i with _ | i <;> first | rfl | omega)) rfl (by intro x hx; simp at hx; omega)

theorem z24_row (w : World) : (w.alloc (Obj.cells #[.int .u8 0, .int .u8 0, .int .u8 0, .int .u8 0, .int .u8 0, .int .u8 0, .int .u8 0, .int .u8 0, .int .u8 0, .int .u8 0, .int .u8 0, .int .u8 0, .int .u8 0, .int .u8 0, .int .u8 0, .int .u8 0, .int .u8 0, .int .u8 0, .int .u8 0, .int .u8 0] 26)).rowIs w.heap.size 26 20 (fun _ => .int .u8 0) := rowIs_rep w (Value.int .u8 0) 20 26

/-- A slice of the call's own, and the result's block, behind block B. -/
structure Ow (w wr : World) (g n cap : Nat) (xs : List Int) : Prop where
  own : wr.ownsRow (w.heap.size + 1) 5 1 (.slice (some ⟨g, 0, none⟩) n cap) n (xs.map (Value.int .u8))
  res : wr.rowIs w.heap.size 26 20 (fun _ => .int .u8 0)
  bel : Below w.heap.size w wr

theorem Ow.grow {w wr w1 w2 : World} {g n cap g' n' cap' : Nat} {xs ys : List Int} (h : Ow w wr g n cap xs) (hb : Below wr.heap.size wr w1) (hg : w1.grownBy w2 (some g)) (ho : w2.ownsRow (w.heap.size + 1) 5 1 (.slice (some ⟨g', 0, none⟩) n' cap') n' (ys.map (Value.int .u8))) : Ow w w2 g' n' cap' ys := by
  have hge := own_base h.own
  have hlt := h.res.lt
  have hs := hb.size
  have hb2 : Below w.heap.size w w1 := h.bel.trans (hb.mono h.bel.size)
  refine ⟨ho, ?_, ?_⟩
  · have r1 := h.res.of_block (hb.block _ hlt)
    exact r1.of_block (hg.block _ (by omega) (by simp; omega))
  · exact hb2.grown hg hb2.size (fun k hk => by cases hk; omega)

theorem Ow.keepOwn {w wr : World} {g n cap : Nat} {xs : List Int} (h : Ow w wr g n cap xs) (o : Obj) : (wr.alloc o).ownsRow (w.heap.size + 1) 5 1 (.slice (some ⟨g, 0, none⟩) n cap) n (xs.map (Value.int .u8)) := h.own.alloc _

theorem _root_.Go.Proofs.YtojgablpjdlegaaGreatDoor.Rd.blk' {w : World} {ao : Option Addr} {n c : Nat} {ys : List Int} (h : Rd w ao n c ys) {ad : Addr} (had : ao = some ad) (hn : 0 < n) : ad.block < w.heap.size := by
  have := h.cells ad had 0 hn
  have := World.block_lt_of_cell? w _ this
  rwa [show (ad.add 0).block = ad.block by unfold Addr.add; split <;> rfl] at this

/-- Behind q blocks. -/
structure LS (w : World) (X : Nat) (wr : World) (g L cap : Nat) (ps : List Int) (q : Nat) : Prop where
  st : wr.rowIs X 145 5 (fun j => .int .u32 ((absb ps q).nth j))
  res : wr.rowIs w.heap.size 26 20 (fun _ => .int .u8 0)
  rd : Rd wr (some ⟨g, 0, none⟩) L cap ps
  bel : Below w.heap.size w wr

theorem setw_row (r : St) {w : World} {X : Nat} {f : Nat → Value} (h : w.rowIs X 145 5 f) : (setw w X r).rowIs X 145 5 (fun j => .int .u32 (r.nth j)) :=
  (((((h.set 0 _).set 1 _).set 2 _).set 3 _).set 4 _).congr (fun i hi => by
    rcases i with _ | _ | _ | _ | _ | i <;> first | rfl | omega)

theorem byt_row24 (s : St) (k : Nat) (f : Nat → Value) {w : World} {b : Nat} (h : w.rowIs b 26 20 (fun j => if j < k then .int .u8 (byt s j) else f j)) : (w.setCell ⟨b, k, none⟩ (.int .u8 (byt s k))).rowIs b 26 20 (fun j => if j < k + 1 then .int .u8 (byt s j) else f j) :=
  (h.set k _).congr (fun i _ => by
    by_cases e : i = k
    · subst e; simp
    · simp only [e, if_false]
      by_cases h : i < k
      · simp [h, show i < k + 1 by omega]
      · simp [h, show ¬ i < k + 1 by omega])

/-- Behind k bytes of the sum. -/
structure FS (w : World) (s : St) (X O : Nat) (wr : World) (k : Nat) : Prop where
  out : wr.rowIs O 26 20 (fun j => if j < k then .int .u8 (byt s j) else .int .u8 0)
  st : wr.rowIs X 145 5 (fun j => .int .u32 (s.nth j))
  res : wr.rowIs w.heap.size 26 20 (fun _ => .int .u8 0)
  bel : Below w.heap.size w wr

theorem zs_lt (n : Nat) : zs n < 64 := Nat.mod_lt _ (by omega)

theorem zs_stop (n k : Nat) (hk : k ≤ zs n) : (n + 1 + k) % 64 = 56 ↔ k = zs n := by
  unfold zs at *
  omega

theorem pad_eq (ys : List Int) : (ys ++ [128]) ++ List.replicate (zs ys.length) 0 ++ be ((ys.length : Int) * 8) 8 = pad ys := by
  rw [Int.mul_comm]
  unfold pad fin
  simp

theorem rep_snoc (k : Nat) : List.replicate k (0 : Int) ++ [0] = List.replicate (k + 1) 0 := by rw [List.replicate_succ']

set_option maxRecDepth 100000 in
set_option maxHeartbeats 4000000 in
theorem rsum_gen (HB : Hid (∀ (s : St) (B o c : Nat) (bs : List Int) (w : World), Rd w (some ⟨B, o, none⟩) 64 c bs → Calls Tryz.prog 89 #[stv s, .slice (some ⟨B, o, none⟩) 64 c] w fun e w' => e = .returned (stv (mix s bs)) ∧ Below w.heap.size w w'))
    (ao : Option Addr) (n c : Nat) (ys : List Int) (w : World) (hr : Rd w ao n c ys) (hl : n ≤ 900000000) : Calls Tryz.prog 52 #[.slice ao n c] w fun e w' => e = .returned (sv ys) ∧ Below w.heap.size w w' := by
  have hlen := hr.len
  have HL : Hid (ys.length = n ∧ Rd w ao n c ys) := ⟨hlen, hr⟩
  clear hlen hr
  obtain ⟨Z, hZ⟩ : ∃ Z : Obj, Z = Obj.cells #[.int .u8 0, .int .u8 0, .int .u8 0, .int .u8 0, .int .u8 0, .int .u8 0, .int .u8 0, .int .u8 0, .int .u8 0, .int .u8 0, .int .u8 0, .int .u8 0, .int .u8 0, .int .u8 0, .int .u8 0, .int .u8 0, .int .u8 0, .int .u8 0, .int .u8 0, .int .u8 0] 26 := ⟨_, rfl⟩
  have sz : (w.alloc Z).heap.size = w.heap.size + 1 := by simp
  have own0 := none_own (w.alloc Z) (w.heap.size + 1) (by omega)
  have res0 : (w.alloc Z).rowIs w.heap.size 26 20 (fun _ => .int .u8 0) := by rw [hZ]; exact z24_row w
  have bel0 : Below w.heap.size w (w.alloc Z) := (Below.refl _ _).alloc (Nat.le_refl _) _
  have o0 : Ow w ((w.alloc Z).alloc (.cells #[] 5)) (w.heap.size + 1) 0 0 [] := ⟨by rw [sz] at own0; exact own0, res0.alloc _, bel0.alloc bel0.size _⟩
  have rd0 := HL.out.2.keep (bel0.alloc bel0.size (.cells #[] 5))
  rw [hZ] at o0 rd0
  clear hZ sz own0 res0 bel0
  have hle : w.heap.size + 1 ≤ ((w.alloc Z).alloc (.cells #[] 5)).heap.size := by simp
  go_enter Tryz.func52, Tryz.ntmps52
  go_wp2_with (first
    | (refine wpList_append_rd rfl _ _ rfl (w.heap.size + 1) (w.heap.size + 1) 0 0 [] rfl o0.own ao n c ys rfl rd0 (by omega) (by simp) ?_; intro g1 cap1 w1 own1 gr1; have o1 := o0.grow (Below.refl _ _) gr1 own1; clear own1 gr1 o0 rd0; rw [Nat.zero_add, List.nil_append] at o1; rw [Nat.zero_add])
    | (refine wpList_append_rd rfl _ _ rfl (w.heap.size + 1) g1 n cap1 ys rfl (o1.keepOwn _) _ 1 1 [128] rfl (one_rd w1 128 (by omega)) (by omega) (by have := o1.bel.size; have := o1.res.lt; simp; omega) ?_; intro g2 cap2 w2 own2 gr2; have o2 := o1.grow ((Below.refl _ _).alloc (Nat.le_refl _) _) gr2 own2; clear own2 gr2 o1))
  go_loopw [3] (fun v wr => ∃ k L g cap : Nat, v = .slice (some ⟨g, 0, none⟩) L cap ∧ k ≤ zs n ∧ L = n + 1 + k ∧ Ow w wr g L cap ((ys ++ [128]) ++ List.replicate k 0)) (fun v _ => n + 1 + zs n - slen v)
  case atStart => exact ⟨0, _, _, _, rfl, by omega, rfl, by simpa using o2⟩
  case round =>
    clear o2
    obtain ⟨k, L, g, cap, rfl, hk, hL, o3⟩ := hrel
    have hz := zs_lt n
    have HK : Hid (k ≤ zs n ∧ L = n + 1 + k ∧ zs n < 64) := ⟨hk, hL, hz⟩
    have hs := zs_stop n k hk
    have hLb : L ≤ 1000000000 := by omega
    by_cases hk2 : k = zs n
    · have h56 : (L : Int) % 64 = 56 := by have := hs.2 hk2; omega
      have o4 : Ow w wr g L cap ((ys ++ [128]) ++ List.replicate (zs n) 0) := by rw [← hk2]; exact o3
      have HLL : Hid (L = n + 1 + zs n ∧ zs n < 64) := ⟨by omega, hz⟩
      clear hs hk2 hL hk hz HK o3
      go_wp2_with fail
      go_loopw [3, 5] (fun v i wr => ∃ j L g cap : Nat, v = .slice (some ⟨g, 0, none⟩) L cap ∧ i = .int .i64 ((j : Int) - 1) ∧ j ≤ 8 ∧ L + j = n + 9 + zs n ∧ ∃ zz : List Int, zz ++ be ((n : Int) * 8) j = pad ys ∧ Ow w wr g L cap zz) (fun _ i _ => (intOf i + 1).toNat)
      case atStart =>
        exact ⟨8, _, _, _, rfl, rfl, by omega, by have := HLL.out; omega, _, by have := pad_eq ys; rw [HL.out.1] at this; exact this, o4⟩
      case round =>
        clear o4
        obtain ⟨j, L, g, cap, rfl, rfl, hj, hL, zz, hzz, o3⟩ := hrel
        have hzl := HLL.out.2
        have hLb : L ≤ 1000000000 := by omega
        have HJ : Hid (j ≤ 8 ∧ L + j = n + 9 + zs n ∧ zs n < 64 ∧ zz ++ be ((n : Int) * 8) j = pad ys) := ⟨hj, hL, hzl, hzz⟩
        clear hL hzl hzz
        by_cases hj0 : 1 ≤ j
        · obtain ⟨i, hi⟩ : ∃ i, i = j - 1 := ⟨_, rfl⟩
          have e1 : (j : Int) - 1 = (i : Int) := by omega
          have hi8 : (i : Int) < 8 := by omega
          have o4 := o3
          rw [e1]
          have HI : Hid (j = i + 1) := by show j = i + 1; omega
          have hb8 : 0 ≤ (n : Int) * 8 / 2 ^ (8 * i) % 256 ∧ (n : Int) * 8 / 2 ^ (8 * i) % 256 < 256 := ⟨Int.emod_nonneg _ (by decide), Int.emod_lt_of_pos _ (by decide)⟩
          clear o3 hj hi hj0 e1 h56
          go_wp2_with (first
            | (refine wpList_append_rd rfl _ _ rfl (w.heap.size + 1) g L cap zz rfl (o4.keepOwn _) _ 1 1 [(n : Int) * 8 / 2 ^ (8 * i) % 256] rfl (one_rd wr _ hb8) (by omega) (by have := o4.bel.size; have := o4.res.lt; simp; omega) ?_; intro g3 cap3 w3 own3 gr3; have o3 := o4.grow ((Below.refl _ _).alloc (Nat.le_refl _) _) gr3 own3; clear own3 gr3 o4))
          obtain ⟨q1, q2, q3, q4⟩ := HJ.out
          rw [HI.out] at q2 q4
          refine ⟨⟨i, L + 1, _, _, rfl, rfl, by omega, by omega, _, ?_, o3⟩, by simp [intOf]⟩
          rw [← q4, List.append_assoc]
          rfl
        · have HP : Hid (zz = pad ys ∧ L = n + 9 + zs n ∧ zs n < 64) := by
            obtain rfl : j = 0 := by omega
            exact ⟨by simpa [be] using HJ.out.2.2.2, HJ.out.2.1, HJ.out.2.2.1⟩
          obtain ⟨z, hz⟩ : ∃ z : Int, z = (j : Int) - 1 := ⟨_, rfl⟩
          have hz0 : ¬ 0 ≤ z := by omega
          rw [← hz]
          clear HJ hj hj0 h56 hz
          go_wp2_with fail
          obtain ⟨X, hX⟩ : ∃ X, X = wr.heap.size := ⟨_, rfl⟩
          have bA : Below wr.heap.size wr (wr.alloc (Obj.cells #[.int .u32 1732584193, .int .u32 4023233417, .int .u32 2562383102, .int .u32 271733878, .int .u32 3285377520] 145)) := (Below.refl _ _).alloc (Nat.le_refl _) _
          have hrd : Rd wr (some ⟨g, 0, none⟩) L cap (pad ys) := by
            rw [HP.out.1] at o3
            exact Rd.ofOwn o3.own (fun x hx => by
              rcases List.mem_append.1 hx with h | h
              · exact HL.out.2.byt x h
              · exact fin_byt _ x h)
          have L0 : LS w X (wr.alloc (Obj.cells #[.int .u32 1732584193, .int .u32 4023233417, .int .u32 2562383102, .int .u32 271733878, .int .u32 3285377520] 145)) g L cap (pad ys) 0 := by
            rw [hX]
            exact ⟨st_row wr H0, o3.res.alloc _, hrd.keep bA, o3.bel.trans (bA.mono o3.bel.size)⟩
          have hgX : g ≠ X := by have := hrd.blk' rfl (by have := HP.out; omega); change g < _ at this; omega
          have hwX : w.heap.size < X := by have := o3.res.lt; omega
          have hLm : L % 64 = 0 := by have := pad_len ys; rw [hrd.len] at this; exact this
          rw [← hX]
          clear hX bA hrd o3 hz0
          go_loopw [7] (fun i wx => ∃ p q : Nat, i = .int .i64 (p : Int) ∧ p = 64 * q ∧ p ≤ L ∧ LS w X wx g L cap (pad ys) q) (fun i _ => (L - intOf i).toNat)
          case atStart => exact ⟨0, 0, rfl, rfl, by omega, L0⟩
          case round =>
            clear L0
            obtain ⟨p, q, rfl, hpq, hpL, l3⟩ := hrel
            by_cases hlt : p < L
            · have hp64 : p + 64 ≤ L := by omega
              have hpc : ¬ cap = p := by have := l3.rd.le; omega
              have hpc2 : (p : Int) + 64 ≤ cap := by have := l3.rd.le; omega
              have hlt' : (p : Int) < L := by omega
              have hp9 : (p : Int) ≤ 1000000000 := by omega
              have e64 : IntKind.i64.wrap ((p : Int) + 64) = (p : Int) + 64 := by rw [IntKind.wrap_i64]; omega
              have e65 : ((p : Int) + 64).toNat = p + 64 := by omega
              have e66 : p + 64 - p = 64 := by omega
              have e67 : (0 : Int) ≤ (p : Int) + 64 := by omega
              have e68 : (p : Int) ≤ (p : Int) + 64 := by omega
              have hrd : Rd wr.drew (some ⟨g, p, none⟩) 64 (cap - p) (blk (pad ys) q) := by
                have := l3.rd.sub p 64 hp64
                rw [if_neg hpc, Option.map_some, Addr.add_lit, Nat.zero_add, hpq] at this
                rw [hpq]
                exact this.keep (Below.refl _ _).drew
              obtain ⟨s, hs⟩ : ∃ s, s = absb (pad ys) q := ⟨_, rfl⟩
              obtain ⟨bs, hbs⟩ : ∃ bs, bs = blk (pad ys) q := ⟨_, rfl⟩
              have HS : Hid (s = absb (pad ys) q ∧ bs = blk (pad ys) q ∧ p = 64 * q ∧ p + 64 ≤ L) := ⟨hs, hbs, hpq, hp64⟩
              have h40 := l3.st
              rw [← hs] at h40
              rw [← hbs] at hrd
              have HL3 : Hid (LS w X wr g L cap (pad ys) q) := l3
              have c0 := h40.cell (i := 0) (by omega)
              have c1 := h40.cell (i := 1) (by omega)
              have c2 := h40.cell (i := 2) (by omega)
              have c3 := h40.cell (i := 3) (by omega)
              have c4 := h40.cell (i := 4) (by omega)
              simp only [St.nth] at c0 c1 c2 c3 c4
              have HC := HB.out s g p (cap - p) bs wr.drew hrd
              have H40 : Hid (wr.rowIs X 145 5 (fun j => .int .u32 (s.nth j))) := h40
              clear l3 hs hbs hpq hp64 h40 hrd hpL hlt
              go_wp2_with fail
              go_region_with ((go_at_call 89; refine HC.mono ?_; rintro e w5 ⟨rfl, hb5⟩; have r5 : w5.rowIs X 145 5 (fun j => .int .u32 (s.nth j)) := World.rowIs.of_block (w := wr.drew) H40.out (hb5.block _ (World.rowIs.lt H40.out)); have d0 := World.rowIs.cell r5 (i := 0) (by omega); have d1 := World.rowIs.cell r5 (i := 1) (by omega); have d2 := World.rowIs.cell r5 (i := 2) (by omega); have d3 := World.rowIs.cell r5 (i := 3) (by omega); have d4 := World.rowIs.cell r5 (i := 4) (by omega); have g0 := World.rowIs.frozen r5 0; have g1 := World.rowIs.frozen r5 1; have g2 := World.rowIs.frozen r5 2; have g3 := World.rowIs.frozen r5 3; have g4 := World.rowIs.frozen r5 4))
              have r6 := setw_row (mix s bs) r5
              have f6 := setw_fr (P := fun b => b = X) (mix s bs) (Fr.refl (fun b => b = X) w5) rfl
              have HW5 : Hid (Below wr.drew.heap.size wr.drew w5) := hb5
              clear c0 c1 c2 c3 c4 d0 d1 d2 d3 d4 g0 g1 g2 g3 g4 r5 hb5
              go_wp2_with fail
              obtain ⟨hs, hbs, hpq, hp64⟩ := HS.out
              have l4 : LS w X (setw w5 X (mix s bs)) g L cap (pad ys) (q + 1) := by
                have l3 := HL3.out
                have hb5 : Below wr.heap.size wr w5 := (Below.refl _ _).drew.trans HW5.out
                refine ⟨?_, ?_, ?_, ?_⟩
                · rw [hs, hbs] at r6 ⊢
                  exact r6
                · exact rowIs_fr (l3.res.of_block (hb5.block _ l3.res.lt)) f6 (by omega)
                · exact (l3.rd.keep hb5).fr f6 (fun ad had _ e => by cases had; exact hgX e)
                · exact (l3.bel.trans (hb5.mono l3.bel.size)).trans (f6.below _ (by have := l3.bel.size; have := hb5.size; omega) (fun i hi e => by omega))
              exact ⟨⟨p + 64, q + 1, rfl, by omega, by omega, l4⟩, by simp [intOf]; omega⟩
            · have HQ : Hid (absb (pad ys) q = absb (pad ys) ((pad ys).length / 64)) := by
                show _ = _
                rw [l3.rd.len, show L / 64 = q by omega]
              obtain ⟨s, hs⟩ : ∃ s, s = absb (pad ys) q := ⟨_, rfl⟩
              have HS : Hid (sumv s = sv ys) := by
                show _ = _
                rw [hs, HQ.out, sv_eq]
              have h40 := l3.st
              rw [← hs] at h40
              have hres := l3.res
              have hbel := l3.bel
              have hlt' : ¬ (p : Int) < L := by omega
              clear l3 hs HQ hlt hpq hpL hLm HP HLL
              go_wp2_with fail
              obtain ⟨O, hO⟩ : ∃ O, O = wr.heap.size := ⟨_, rfl⟩
              have zr : (wr.alloc (Obj.cells #[.int .u8 0, .int .u8 0, .int .u8 0, .int .u8 0, .int .u8 0, .int .u8 0, .int .u8 0, .int .u8 0, .int .u8 0, .int .u8 0, .int .u8 0, .int .u8 0, .int .u8 0, .int .u8 0, .int .u8 0, .int .u8 0, .int .u8 0, .int .u8 0, .int .u8 0, .int .u8 0] 26)).rowIs O 26 20 (fun _ => .int .u8 0) := by rw [hO]; exact z24_row wr
              have F0 : FS w s X O (wr.alloc (Obj.cells #[.int .u8 0, .int .u8 0, .int .u8 0, .int .u8 0, .int .u8 0, .int .u8 0, .int .u8 0, .int .u8 0, .int .u8 0, .int .u8 0, .int .u8 0, .int .u8 0, .int .u8 0, .int .u8 0, .int .u8 0, .int .u8 0, .int .u8 0, .int .u8 0, .int .u8 0, .int .u8 0] 26)) 0 :=
                ⟨zr.congr (fun j _ => by simp), h40.alloc _, hres.alloc _, hbel.alloc hbel.size _⟩
              have hOX : X < O := by have := h40.lt; omega
              rw [← hO]
              clear hO zr h40 hres hbel hlt' hgX hLb
              go_loopw [9] (fun i wx => ∃ k : Nat, k ≤ 20 ∧ i = .int .i64 (k : Int) ∧ FS w s X O wx k) (fun i _ => (20 - intOf i).toNat)
              case atStart => exact ⟨0, by omega, rfl, F0⟩
              case round =>
                clear F0
                obtain ⟨k, hk, rfl, f⟩ := hrel
                by_cases hlt : k < 20
                · have nX : X ≠ O := by omega
                  have nW : w.heap.size ≠ O := by omega
                  have cw := f.st.cell (i := k / 4) (by omega)
                  have ct := f.out.cell hlt
                  have ft := f.out.frozen k
                  have f2 : FS w s X O (wr.setCell ⟨O, k, none⟩ (.int .u8 (byt s k))) (k + 1) := ⟨byt_row24 s k _ f.out, f.st.setOther nX _, f.res.setOther nW _, f.bel.setCell (show w.heap.size ≤ O by omega) _⟩
                  have hk4 : (k : Int) / 4 < 5 := by omega
                  have hlt' : (k : Int) < 20 := by omega
                  clear f
                  go_wp2
                  exact ⟨⟨k + 1, by omega, rfl, f2⟩, by simp [intOf]; omega⟩
                · obtain rfl : k = 20 := by omega
                  have h1 := f.out
                  have h2 := f.res
                  have hb := f.bel
                  clear f hlt hk
                  go_wp2_with (first
                    | (refine wpList_ld0 rfl 26 _ rfl O rfl _ h1 20 (by omega) Tryz.underlying26 rfl size24 ?_; clear h1)
                    | (refine wpList_st rfl 26 _ _ rfl w.heap.size rfl (fun j => if j < 20 then .int .u8 (byt s j) else .int .u8 0) rfl h2 size24 (fun j => by split <;> rfl) ?_; intro w3 h3 f3))
                  refine bodyPost_ret (results_row rfl _ rfl h3 Tryz.underlying26 rfl size24) rfl ⟨?_, ?_⟩
                  · rw [← HS.out, sumv, row_congr _ (fun j => .int .u8 (byt s j)) 20 (fun i hi => by simp [hi])]
                  · exact hb.trans (f3.below _ hb.size (fun i hi e => by omega))
    · have h56 : ¬ (L : Int) % 64 = 56 := by have := fun h => hk2 (hs.1 h); omega
      clear hs hL hk hz
      have o4 := o3
      clear o3
      go_wp2_with (first
        | (refine wpList_append_rd rfl _ _ rfl (w.heap.size + 1) g L cap ((ys ++ [128]) ++ List.replicate k 0) rfl (o4.keepOwn _) _ 1 1 [0] rfl (one_rd wr 0 (by omega)) (by omega) (by have := o4.bel.size; have := o4.res.lt; simp; omega) ?_; intro g3 cap3 w3 own3 gr3; have o3 := o4.grow ((Below.refl _ _).alloc (Nat.le_refl _) _) gr3 own3; clear own3 gr3 o4))
      rw [List.append_assoc, rep_snoc] at o3
      have := HK.out
      exact ⟨⟨k + 1, L + 1, _, _, rfl, by omega, by omega, o3⟩, by rw [slen_ok, slen_ok]; omega⟩

end Go.Proofs.YtojgablpjdlegaaGreatDoor.Sha
