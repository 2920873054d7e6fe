/- The document's block. -/
import Derived.Test.YtebkgmjmjmaleaaWMixed
import Derived.Deep.CutBlock
import Derived.Deep.CutRange
namespace Go.Proofs.Ytebkgmjmjmaleaa
open Go.RowKit

theorem info39 : (Try.prog.info? 39).map (fun i => (i.zero, i.size, i.bytes)) = some (some (.int .u32 0), 1, 4) := by kernel_rfl

theorem left_gen (v n : Int) (w : World) (h0 : 0 ≤ n) (h1 : n ≤ 31) : Calls Try.prog 20 #[.int .u32 v, .int .u64 n] w fun e w' => e = .returned (.int .u32 (rotl v n.toNat)) ∧ w' = w := by
  obtain ⟨k, rfl⟩ := Int.eq_ofNat_of_zero_le h0
  exact left_any v k w (by omega)

theorem low_row {w : World} {b t : Nat} (bs : List Int) (k : Nat) (h : w.rowIs b t 80 (fun j => .int .u32 (if j < k then sw bs j else 0))) : (w.setCell ⟨b, k, none⟩ (.int .u32 (sw bs k))).rowIs b t 80 (fun j => .int .u32 (if j < k + 1 then sw bs j else 0)) :=
  (h.set k _).congr (fun j _ => by
    by_cases e : j = k
    · subst e; simp
    · simp only [e, if_false]
      by_cases h : j < k
      · simp [h, show j < k + 1 by omega]
      · simp [h, show ¬ j < k + 1 by omega])

theorem own_rowIsB {w : World} {base e g n : Nat} {xs : List Value} (h : w.ownsRow base e 1 (.slice (some ⟨g, 0, none⟩) n n) n xs) : w.rowIs g e n (fun j => xs.getD j undef) := by
  rcases h.2 with ⟨e, _⟩ | ⟨g', cap, cur, e, _, hh, _, _, hsz, htk⟩
  · cases e
  · cases e
    have hs : cur.size = n := by simpa using hsz
    refine ⟨cur, hh, hs, fun i hi => ?_⟩
    rw [Nat.mul_one, List.take_of_length_le (by simp [hs])] at htk
    rw [← htk]
    simp [hs, hi]

theorem made_rowIsB {w : World} {base e g n : Nat} {z : Value} (hz : z.cells = #[z]) (h : w.ownsRow base e 1 (.slice (some ⟨g, 0, none⟩) n n) n (madeCells z.cells (n * 1)).toList) : w.rowIs g e n (fun _ => z) :=
  (own_rowIsB h).congr (fun j hj => by
    rw [hz]
    simp [madeCells, List.getD, hj, Nat.mod_one])

theorem tmp1 (x : Int) (t : Nat) (s : St) (h : t < 20) : (rotl s.a 5 + bits .or .u32 (bits .and .u32 s.b s.c) (bits .and .u32 (bits .xor .u32 IntKind.u32.max s.b) s.d) + s.e + 1518500249 + x) % 4294967296 = tmp x t s := by
  rw [← tmp_flat]; simp [fF, kK, h]

theorem tmp2 (x : Int) (t : Nat) (s : St) (h : ¬ t < 20) (h2 : t < 40) : (rotl s.a 5 + bits .xor .u32 (bits .xor .u32 s.b s.c) s.d + s.e + 1859775393 + x) % 4294967296 = tmp x t s := by
  rw [← tmp_flat]; simp [fF, kK, h, h2, x3]

theorem tmp3 (x : Int) (t : Nat) (s : St) (h : ¬ t < 20) (h2 : ¬ t < 40) (h3 : t < 60) : (rotl s.a 5 + bits .or .u32 (bits .or .u32 (bits .and .u32 s.b s.c) (bits .and .u32 s.b s.d)) (bits .and .u32 s.c s.d) + s.e + 2400959708 + x) % 4294967296 = tmp x t s := by
  rw [← tmp_flat]; simp [fF, kK, h, h2, h3]

theorem tmp4 (x : Int) (t : Nat) (s : St) (h : ¬ t < 20) (h2 : ¬ t < 40) (h3 : ¬ t < 60) : (rotl s.a 5 + bits .xor .u32 (bits .xor .u32 s.b s.c) s.d + s.e + 3395469782 + x) % 4294967296 = tmp x t s := by
  rw [← tmp_flat]; simp [fF, kK, h, h2, h3, x3]

/-- The world behind the five stores of a step. -/
def five (w : World) (X : Nat) (r : St) (T : Int) : World :=
  ((((w.setCell ⟨X, 4, none⟩ (.int .u32 r.d)).setCell ⟨X, 3, none⟩ (.int .u32 r.c)).setCell ⟨X, 2, none⟩ (.int .u32 (rotl r.b 30))).setCell ⟨X, 1, none⟩ (.int .u32 r.a)).setCell ⟨X, 0, none⟩ (.int .u32 T)

theorem five_row {w : World} {X : Nat} (r : St) (x : Int) (k : Nat) (h : w.rowIs X 40 5 (fun j => .int .u32 (r.nth j))) : (five w X r (tmp x k r)).rowIs X 40 5 (fun j => .int .u32 ((step x k r).nth j)) :=
  (((((h.set 4 _).set 3 _).set 2 _).set 1 _).set 0 _).congr (fun i hi => by
    rcases i with _ | _ | _ | _ | _ | i
    · rfl
    · rfl
    · rfl
    · rfl
    · rfl
    · omega)

theorem five_other {w : World} {X b t n : Nat} {f : Nat → Value} (r : St) (T : Int) (h : w.rowIs b t n f) (hb : b ≠ X) : (five w X r T).rowIs b t n f :=
  ((((h.setOther hb _).setOther hb _).setOther hb _).setOther hb _).setOther hb _

theorem five_below {w w' : World} {X B : Nat} (r : St) (T : Int) (h : Below B w w') (hb : B ≤ X) : Below B w (five w' X r T) :=
  ((((h.setCell hb _).setCell hb _).setCell hb _).setCell hb _).setCell hb _

set_option maxRecDepth 100000 in
set_option maxHeartbeats 40000000 in
theorem block_any (s : St) (B o c : Nat) (bs : List Int) (w : World) (hr : Rd w (some ⟨B, o, none⟩) 64 c bs) : Calls Try.prog 15 #[stv s, .slice (some ⟨B, o, none⟩) 64 c] w fun e w' => e = .returned (stv (mix s bs)) ∧ Below w.heap.size w w' := by
  obtain ⟨i0, hi, hz0, hz1, hz2⟩ := info_parts info39
  have HR : Hid (Rd w (some ⟨B, o, none⟩) 64 c bs) := hr
  have hc64 : 64 ≤ c := hr.le
  have r40 := (st_row w s).alloc (.cells #[.int .u32 0, .int .u32 0, .int .u32 0, .int .u32 0, .int .u32 0] 40)
  have rz := rowIs_rep (w.alloc (.cells #[.int .u32 s.a, .int .u32 s.b, .int .u32 s.c, .int .u32 s.d, .int .u32 s.e] 40)) (.int .u32 0) 5 40
  rw [show (w.alloc (.cells #[.int .u32 s.a, .int .u32 s.b, .int .u32 s.c, .int .u32 s.d, .int .u32 s.e] 40)).heap.size = w.heap.size + 1 by simp] at rz
  have hbl : Below w.heap.size w ((w.alloc (.cells #[.int .u32 s.a, .int .u32 s.b, .int .u32 s.c, .int .u32 s.d, .int .u32 s.e] 40)).alloc (.cells #[.int .u32 0, .int .u32 0, .int .u32 0, .int .u32 0, .int .u32 0] 40)) := ((Below.refl _ _).alloc (Nat.le_refl _) _).alloc (by simp) _
  clear hr
  go_enter Try.func15, Try.ntmps15
  go_wp2_with (first | (at_make; refine wpList_make_full _ rfl _ _ 48 rfl 0 39 i0 (.int .u32 0) 1 Try.underlying48 hi hz0 hz1 _ _ _ _ 80 rfl rfl rfl rfl (by rw [hz2]; omega) (by unfold maxLen; omega) (Nat.zero_le _) ?_; intro w1 hown hgrow))
  have rw1 : w1.rowIs (w.heap.size + 2) 39 80 (fun _ => .int .u32 0) := by simpa using made_rowIsB rfl hown
  have q40 : w1.rowIs w.heap.size 40 5 (fun j => .int .u32 (s.nth j)) := r40.of_block (hgrow.block _ (by simp; omega) (by simp))
  have qz : w1.rowIs (w.heap.size + 1) 40 5 (fun _ => .int .u32 0) := World.rowIs.of_block rz (hgrow.block _ (by simp) (by simp))
  have hbq : Below w.heap.size w w1 := hbl.grown hgrow (by simp; omega) (fun k hk => by cases hk)
  clear hown hgrow r40 rz hbl
  go_wp2_with fail
  go_loopw [6] (fun t wr => ∃ k : Nat, k ≤ 16 ∧ t = .int .i64 (k : Int) ∧ wr.rowIs (w.heap.size + 2) 39 80 (fun j => .int .u32 (if j < k then sw bs j else 0)) ∧ wr.rowIs w.heap.size 40 5 (fun j => .int .u32 (s.nth j)) ∧ wr.rowIs (w.heap.size + 1) 40 5 (fun _ => .int .u32 0) ∧ Below w.heap.size w wr)
    (fun t _ => (16 - intOf t).toNat)
  case atStart => exact ⟨0, by omega, rfl, rw1.congr (fun j _ => by simp), q40, qz, hbq⟩
  case round =>
    clear rw1 q40 qz hbq
    obtain ⟨k, hk, rfl, rw1, q40, qz, hbq⟩ := hrel
    by_cases hlt : k < 16
    · have hr2 := HR.out.keep hbq
      have hbk : B < wr.heap.size := World.block_lt_of_cell? wr _ (hr2.cells _ rfl 0 (by omega))
      have hcl : ∀ j, j < 64 → wr.cell? ⟨B, o + j, none⟩ = some (.int .u8 (bs.getD j 0)) := fun j hj => by
        have := hr2.cells _ rfl j hj
        rwa [Addr.add_lit] at this
      obtain ⟨p, hp⟩ : ∃ p, p = 4 * k := ⟨_, rfl⟩
      have d0 := hcl p (by omega)
      have d1 := hcl (p + 1) (by omega)
      have d2 := hcl (p + 2) (by omega)
      have d3 := hcl (p + 3) (by omega)
      have e4 : IntKind.i64.wrap (4 * (k : Int)) = (p : Int) := by rw [IntKind.wrap_i64]; omega
      have hpc : p < c := by omega
      have hp64 : p < 64 := by omega
      have b0 := getD_byt bs hr2.byt p
      have b1 := getD_byt bs hr2.byt (p + 1)
      have b2 := getD_byt bs hr2.byt (p + 2)
      have b3 := getD_byt bs hr2.byt (p + 3)
      have HS : Hid (bs.getD p 0 * 16777216 + bs.getD (p + 1) 0 * 65536 + bs.getD (p + 2) 0 * 256 + bs.getD (p + 3) 0 = sw bs k) := by
        rw [sw_low bs k hlt, hp]; rfl
      obtain ⟨v0, hv0⟩ : ∃ v, v = bs.getD p 0 := ⟨_, rfl⟩
      obtain ⟨v1, hv1⟩ : ∃ v, v = bs.getD (p + 1) 0 := ⟨_, rfl⟩
      obtain ⟨v2, hv2⟩ : ∃ v, v = bs.getD (p + 2) 0 := ⟨_, rfl⟩
      obtain ⟨v3, hv3⟩ : ∃ v, v = bs.getD (p + 3) 0 := ⟨_, rfl⟩
      rw [← hv0] at d0 b0 HS
      rw [← hv1] at d1 b1 HS
      rw [← hv2] at d2 b2 HS
      rw [← hv3] at d3 b3 HS
      have W := word_any B (o + p) (64 - p) (c - p) wr v0 v1 v2 v3 (by omega) d0 d1 d2 d3 b0 b1 b2 b3
      have ct := rw1.cell (i := k) (by omega)
      have ft := rw1.frozen k
      have ct' : wr.drew.cell? ⟨w.heap.size + 2, k, none⟩ = _ := ct
      have ft' : wr.drew.frozen? ⟨w.heap.size + 2, k, none⟩ = _ := ft
      have h3 := low_row bs k rw1
      have h4 : (wr.setCell ⟨w.heap.size + 2, k, none⟩ (.int .u32 (sw bs k))).rowIs w.heap.size 40 5 (fun j => .int .u32 (s.nth j)) := q40.setOther (by simp) _
      have h5 : (wr.setCell ⟨w.heap.size + 2, k, none⟩ (.int .u32 (sw bs k))).rowIs (w.heap.size + 1) 40 5 (fun _ => .int .u32 0) := qz.setOther (by simp) _
      have hb' : Below w.heap.size w (wr.setCell ⟨w.heap.size + 2, k, none⟩ (.int .u32 (sw bs k))) := hbq.setCell (by simp) _
      clear rw1 q40 qz hbq hr2 hcl d0 d1 d2 d3 b0 b1 b2 b3 hv0 hv1 hv2 hv3 hp ct ft
      rw [HS.out] at W
      go_wp2_with (first | (go_at_call 19; refine W.mono ?_; rintro e w2 ⟨rfl, hw⟩; subst w2))
      exact ⟨⟨k + 1, by omega, by go_num, h3, h4, h5, hb'.drew⟩, by simp [intOf]; omega⟩
    · have h16 : k = 16 := by omega
      rw [h16] at rw1
      obtain ⟨z, hz⟩ : ∃ z : Int, z = (k : Int) := ⟨_, rfl⟩
      have hz16 : ¬ z < 16 := by omega
      rw [← hz]
      clear h16 hz hlt hk HR
      go_wp2_with fail
      clear hz16
      go_loopw [7] (fun t wx => ∃ k : Nat, 16 ≤ k ∧ k ≤ 80 ∧ t = .int .i64 (k : Int) ∧ wx.rowIs (w.heap.size + 2) 39 80 (fun j => .int .u32 (if j < k then sw bs j else 0)) ∧ wx.rowIs w.heap.size 40 5 (fun j => .int .u32 (s.nth j)) ∧ wx.rowIs (w.heap.size + 1) 40 5 (fun _ => .int .u32 0) ∧ Below w.heap.size w wx)
        (fun t _ => (80 - intOf t).toNat)
      case atStart => exact ⟨16, by omega, by omega, rfl, rw1, q40, qz, hbq⟩
      case round =>
        clear rw1 q40 qz hbq
        clear k
        obtain ⟨k, hk16, hk80, rfl, rw1, q40, qz, hbq⟩ := hrel
        by_cases hlt : k < 80
        · obtain ⟨a, ha⟩ : ∃ a, a = k - 16 := ⟨_, rfl⟩
          obtain ⟨b, hb⟩ : ∃ b, b = k - 14 := ⟨_, rfl⟩
          obtain ⟨c', hc⟩ : ∃ c, c = k - 8 := ⟨_, rfl⟩
          obtain ⟨d, hd⟩ : ∃ d, d = k - 3 := ⟨_, rfl⟩
          have c0 := rw1.cell (i := a) (by omega)
          have c2 := rw1.cell (i := b) (by omega)
          have c8 := rw1.cell (i := c') (by omega)
          have c13 := rw1.cell (i := d) (by omega)
          have c16 := rw1.cell (i := k) (by omega)
          have ft := rw1.frozen k
          simp only [show a < k by omega, show b < k by omega, show c' < k by omega, show d < k by omega, Nat.lt_irrefl, if_true, if_false] at c0 c2 c8 c13 c16
          have hs := sw_high bs k hk16 hlt
          rw [← ha, ← hb, ← hc, ← hd] at hs
          have h3 := low_row bs k rw1
          have h4 : (wr.setCell ⟨w.heap.size + 2, k, none⟩ (.int .u32 (sw bs k))).rowIs w.heap.size 40 5 (fun j => .int .u32 (s.nth j)) := q40.setOther (by simp) _
          have h5 : (wr.setCell ⟨w.heap.size + 2, k, none⟩ (.int .u32 (sw bs k))).rowIs (w.heap.size + 1) 40 5 (fun _ => .int .u32 0) := qz.setOther (by simp) _
          have hb' : Below w.heap.size w (wr.setCell ⟨w.heap.size + 2, k, none⟩ (.int .u32 (sw bs k))) := hbq.setCell (by simp) _
          have HS : Hid (rotl (x4 (sw bs d) (sw bs c') (sw bs b) (sw bs a)) 1 = sw bs k) := hs.symm
          have e0 : IntKind.i64.wrap ((k : Int) - 16) = (a : Int) := by rw [IntKind.wrap_i64]; omega
          have e2 : IntKind.i64.wrap ((k : Int) - 14) = (b : Int) := by rw [IntKind.wrap_i64]; omega
          have e8 : IntKind.i64.wrap ((k : Int) - 8) = (c' : Int) := by rw [IntKind.wrap_i64]; omega
          have e13 : IntKind.i64.wrap ((k : Int) - 3) = (d : Int) := by rw [IntKind.wrap_i64]; omega
          have la : (a : Int) < 80 := by omega
          have lb : (b : Int) < 80 := by omega
          have lc : (c' : Int) < 80 := by omega
          have ld : (d : Int) < 80 := by omega
          have lk : (k : Int) < 80 := by omega
          have HK : Hid (16 ≤ k ∧ k < 80) := ⟨hk16, hlt⟩
          have na : k ≠ a := by omega
          have nb : k ≠ b := by omega
          have nc : k ≠ c' := by omega
          have nd : k ≠ d := by omega
          obtain ⟨v, hv⟩ : ∃ v, v = sw bs k := ⟨_, rfl⟩
          rw [← hv] at h3 h4 h5 hb' HS
          obtain ⟨y0, hy0⟩ : ∃ v, v = sw bs a := ⟨_, rfl⟩
          obtain ⟨y2, hy2⟩ : ∃ v, v = sw bs b := ⟨_, rfl⟩
          obtain ⟨y8, hy8⟩ : ∃ v, v = sw bs c' := ⟨_, rfl⟩
          obtain ⟨y13, hy13⟩ : ∃ v, v = sw bs d := ⟨_, rfl⟩
          rw [← hy0] at c0 HS
          rw [← hy2] at c2 HS
          rw [← hy8] at c8 HS
          rw [← hy13] at c13 HS
          clear rw1 q40 qz hbq hs hv hy0 hy2 hy8 hy13 ha hb hc hd hk16 hk80 hlt
          go_wp2_with fail
          go_region_held3 (fun w' => w'.cell? ⟨w.heap.size + 2, a, none⟩ = some (.int .u32 y0) ∧ w'.cell? ⟨w.heap.size + 2, b, none⟩ = some (.int .u32 y2) ∧ w'.cell? ⟨w.heap.size + 2, c', none⟩ = some (.int .u32 y8) ∧ w'.cell? ⟨w.heap.size + 2, d, none⟩ = some (.int .u32 y13)) (simp [*, cell_ne])
              ((go_at_call 20; refine (left_gen _ _ _ (by omega) (by omega)).mono ?_; rintro e w1 ⟨rfl, hw⟩; subst w1))
          clear c0 c2 c8 c13 c16 ft e0 e2 e8 e13 na nb nc nd
          go_wp2_with fail
          obtain ⟨p1, p2⟩ := HK.out
          exact ⟨⟨k + 1, by omega, by omega, by go_num, by rw [← HS.out] at h3; exact h3, by rw [← HS.out] at h4; exact h4, by rw [← HS.out] at h5; exact h5, by rw [← HS.out] at hb'; exact hb'.drew⟩, by simp [intOf]; omega⟩
        · have h80 : k = 80 := by omega
          have rw2 : wr.rowIs (w.heap.size + 2) 39 80 (fun j => .int .u32 (sw bs j)) := rw1.congr (fun j hj => by rw [if_pos (by omega)])
          obtain ⟨z2, hz⟩ : ∃ z : Int, z = (k : Int) := ⟨_, rfl⟩
          have hz80 : ¬ z2 < 80 := by omega
          rw [← hz]
          clear h80 hz hlt hk16 hk80 rw1
          have HQ : Hid (wr.rowIs (w.heap.size + 2) 39 80 (fun j => .int .u32 (sw bs j))) := rw2
          have HZ : Hid (wr.rowIs (w.heap.size + 1) 40 5 (fun _ => .int .u32 0)) := qz
          have HN : Hid (Below w.heap.size w wr) := hbq
          clear rw2 qz hbq
          have q1 := q40
          go_wp2_with (first
            | (refine wpList_ld0 rfl 40 _ rfl w.heap.size rfl _ q1 5 (by omega) Try.underlying40 rfl size40 ?_; clear q1)
            | (refine wpList_st rfl 40 _ _ rfl wr.heap.size rfl (fun j => .int .u32 (s.nth j)) rfl (rowIs_rep wr (.int .u32 0) 5 40) size40 (fun j => rfl) ?_; intro w4 h4 f4))
          obtain ⟨X, hX⟩ : ∃ X, X = wr.heap.size := ⟨_, rfl⟩
          have l2 := World.rowIs.lt HQ.out
          have hfr : Fr (fun k => k = X) wr w4 := by rw [hX]; exact ((Fr.refl (fun k => k = wr.heap.size) wr).alloc _).trans f4 (fun _ _ e => e)
          have n0 : w.heap.size ≠ X := by omega
          have n1 : w.heap.size + 1 ≠ X := by omega
          have n2 : w.heap.size + 2 ≠ X := by omega
          have nb : w.heap.size ≤ X := by omega
          have s0 := rowIs_fr q40 hfr n0
          have s1 := rowIs_fr HZ.out hfr n1
          have s2 := rowIs_fr HQ.out hfr n2
          have hbq : Below w.heap.size w w4 := HN.out.trans (hfr.below _ (by omega) (fun i hi e => by omega))
          rw [← hX] at h4 ⊢
          clear HQ HZ HN q40 hX l2 hfr f4 hz80
          go_loopw [9] (fun t wx => ∃ k : Nat, k ≤ 80 ∧ t = .int .i64 (k : Int) ∧ wx.rowIs X 40 5 (fun j => .int .u32 ((run bs s k).nth j)) ∧ wx.rowIs (w.heap.size + 2) 39 80 (fun j => .int .u32 (sw bs j)) ∧ wx.rowIs w.heap.size 40 5 (fun j => .int .u32 (s.nth j)) ∧ wx.rowIs (w.heap.size + 1) 40 5 (fun _ => .int .u32 0) ∧ Below w.heap.size w wx)
            (fun t _ => (80 - intOf t).toNat)
          case atStart => exact ⟨0, by omega, rfl, h4, s2, s0, s1, hbq⟩
          case round =>
            clear h4 s0 s1 s2 hbq
            obtain ⟨k, hk80, rfl, h4, s2, s0, s1, hbq⟩ := hrel
            obtain ⟨r, hr⟩ : ∃ r, r = run bs s k := ⟨_, rfl⟩
            rw [← hr] at h4
            by_cases hlt : k < 80
            · have x0 := h4.cell (i := 0) (by omega)
              have x1 := h4.cell (i := 1) (by omega)
              have x2 := h4.cell (i := 2) (by omega)
              have x3 := h4.cell (i := 3) (by omega)
              have x4 := h4.cell (i := 4) (by omega)
              have f0 := h4.frozen 0
              have f1 := h4.frozen 1
              have f2 := h4.frozen 2
              have f3 := h4.frozen 3
              have f4 := h4.frozen 4
              have ct := s2.cell (i := k) (by omega)
              simp only [St.nth] at x0 x1 x2 x3 x4
              obtain ⟨x, hx⟩ : ∃ x, x = sw bs k := ⟨_, rfl⟩
              rw [← hx] at ct
              have g4 := five_row r x k h4
              have g2 := five_other r (tmp x k r) s2 n2
              have g0 := five_other r (tmp x k r) s0 n0
              have g1 := five_other r (tmp x k r) s1 n1
              have gb := five_below r (tmp x k r) hbq nb
              have HG : Hid (step x k r = run bs s (k + 1)) := by rw [run_succ bs s k hlt, hr, hx]; rfl
              clear h4 s2 s0 s1 hbq hr hx
              have lk : (k : Int) < 80 := by omega
              have HKK : Hid (k < 80) := hlt
              have HT : Hid _ := tmp_flat x k r
              go_upto_block 6 with fail
              go_cut [10, 11] from 59 to 146 (fun fv kv wx => fv = .int .u32 (fF k r.b r.c r.d) ∧ kv = .int .u32 (kK k) ∧ wr = wx)
              case first =>
                clear lk hlt HT
                by_cases t20 : k < 20
                · have d20 : decide ((k : Int) < 20) = true := by simp; omega
                  have HF : Hid (fF k r.b r.c r.d = _ ∧ kK k = _) := ⟨by rw [fF, if_pos t20], by rw [kK, if_pos t20]⟩
                  clear t20
                  go_wp2_with fail
                  go_meet
                  exact ⟨by rw [HF.out.1], by rw [HF.out.2], rfl⟩
                by_cases t40 : k < 40
                · have d20 : decide ((k : Int) < 20) = false := by simp; omega
                  have d40 : decide ((k : Int) < 40) = true := by simp; omega
                  have HF : Hid (fF k r.b r.c r.d = _ ∧ kK k = _) := ⟨by rw [fF, if_neg t20, if_pos t40], by rw [kK, if_neg t20, if_pos t40]⟩
                  clear t20 t40
                  go_wp2_with fail
                  go_meet
                  exact ⟨by rw [HF.out.1]; rfl, by rw [HF.out.2], rfl⟩
                by_cases t60 : k < 60
                · have d20 : decide ((k : Int) < 20) = false := by simp; omega
                  have d40 : decide ((k : Int) < 40) = false := by simp; omega
                  have d60 : decide ((k : Int) < 60) = true := by simp; omega
                  have HF : Hid (fF k r.b r.c r.d = _ ∧ kK k = _) := ⟨by rw [fF, if_neg t20, if_neg t40, if_pos t60], by rw [kK, if_neg t20, if_neg t40, if_pos t60]⟩
                  clear t20 t40 t60
                  go_wp2_with fail
                  go_meet
                  exact ⟨by rw [HF.out.1], by rw [HF.out.2], rfl⟩
                · have d20 : decide ((k : Int) < 20) = false := by simp; omega
                  have d40 : decide ((k : Int) < 40) = false := by simp; omega
                  have d60 : decide ((k : Int) < 60) = false := by simp; omega
                  have HF : Hid (fF k r.b r.c r.d = _ ∧ kK k = _) := ⟨by rw [fF, if_neg t20, if_neg t40, if_neg t60], by rw [kK, if_neg t20, if_neg t40, if_neg t60]⟩
                  clear t20 t40 t60
                  go_wp2_with fail
                  go_meet
                  exact ⟨by rw [HF.out.1]; rfl, by rw [HF.out.2], rfl⟩
              case rest =>
                obtain ⟨rfl, rfl, rfl⟩ := hcut
                obtain ⟨F, hF⟩ : ∃ F, F = fF k r.b r.c r.d := ⟨_, rfl⟩
                obtain ⟨KK, hKK⟩ : ∃ KK, KK = kK k := ⟨_, rfl⟩
                rw [← hF, ← hKK] at HT
                rw [← hF, ← hKK]
                clear hF hKK hlt
                go_wp2_with fail
                go_region_held3 (fun w' => w'.cell? ⟨X, 0, none⟩ = some (.int .u32 r.a) ∧ w'.cell? ⟨X, 4, none⟩ = some (.int .u32 r.e) ∧ w'.cell? ⟨w.heap.size + 2, k, none⟩ = some (.int .u32 x)) (simp [*]) ((go_at_call 20; refine (left_gen _ _ _ (by omega) (by omega)).mono ?_; rintro e w1 ⟨rfl, hw⟩; subst w1))
                go_wp2_with (go_at_call 20; refine (left_gen _ _ _ (by omega) (by omega)).mono ?_; rintro e w1 ⟨rfl, hw⟩; subst w1)
                rw [HT.out]
                have hlt := HKK.out
                exact ⟨⟨k + 1, by omega, by go_num, by rw [← HG.out]; exact g4, g2, g0, g1, gb.drew⟩, by simp [intOf]; omega⟩
            · have h80 : k = 80 := by omega
              rw [h80] at hr
              have HR : Hid (r = run bs s 80) := hr
              obtain ⟨z3, hz⟩ : ∃ z : Int, z = (k : Int) := ⟨_, rfl⟩
              have hz80 : ¬ z3 < 80 := by omega
              rw [← hz]
              clear h80 hz hlt hr hk80
              go_wp2_with fail
              clear hz80
              go_loopw [13] (fun i wx => ∃ k : Nat, k ≤ 5 ∧ i = .int .i64 (k : Int) ∧ wx.rowIs X 40 5 (fun j => .int .u32 (r.nth j)) ∧ wx.rowIs w.heap.size 40 5 (fun j => .int .u32 (if j < k then (s.plus r).nth j else s.nth j)) ∧ wx.rowIs (w.heap.size + 1) 40 5 (fun _ => .int .u32 0) ∧ Below w.heap.size w wx)
                (fun i _ => (5 - intOf i).toNat)
              case atStart => exact ⟨0, by omega, rfl, h4, s0.congr (fun j _ => by simp), s1, hbq⟩
              case round =>
                clear h4 s0 s1 s2 hbq
                obtain ⟨k2, hk5, rfl, h4, s0, s1, hbq⟩ := hrel
                by_cases hlt : k2 < 5
                · have ct := s0.cell (i := k2) hlt
                  have ft := s0.frozen k2
                  have cx := h4.cell (i := k2) hlt
                  simp only [Nat.lt_irrefl, if_false] at ct
                  have h3 := plus_row s r k2 s0
                  have h4' : (wr.setCell ⟨w.heap.size, k2, none⟩ (.int .u32 (ad (s.nth k2) (r.nth k2)))).rowIs (w.heap.size + 1) 40 5 (fun _ => .int .u32 0) := s1.setOther (by simp) _
                  have h5' : (wr.setCell ⟨w.heap.size, k2, none⟩ (.int .u32 (ad (s.nth k2) (r.nth k2)))).rowIs X 40 5 (fun j => .int .u32 (r.nth j)) := h4.setOther (fun e => n0 e.symm) _
                  have hb' : Below w.heap.size w (wr.setCell ⟨w.heap.size, k2, none⟩ (.int .u32 (ad (s.nth k2) (r.nth k2)))) := hbq.setCell (by simp) _
                  unfold ad at h3 h4' h5' hb'
                  clear h4 s0 s1 hbq
                  go_wp2_with fail
                  go_region
                  all_goals
                    go_wp2_with fail
                    exact ⟨⟨k2 + 1, by omega, by go_num, h5', h3, h4', hb'.drew⟩, by simp [intOf]; omega⟩
                · have h5 : k2 = 5 := by omega
                  have r1 : wr.rowIs w.heap.size 40 5 (fun j => .int .u32 ((mix s bs).nth j)) := s0.congr (fun j hj => by rw [if_pos (by omega), HR.out]; rfl)
                  clear s0 h4
                  go_wp2_with (first
                    | (refine wpList_ld0 rfl 40 _ rfl w.heap.size rfl _ r1 5 (by omega) Try.underlying40 rfl size40 ?_; clear r1)
                    | (refine wpList_st rfl 40 _ _ rfl (w.heap.size + 1) rfl (fun j => .int .u32 ((mix s bs).nth j)) rfl s1 size40 (fun j => rfl) ?_; intro w3 h3 f3))
                  refine bodyPost_ret (results_row rfl _ rfl h3 Try.underlying40 rfl size40) rfl ⟨rfl, ?_⟩
                  exact hbq.trans (f3.below _ hbq.size (fun i hi e => by omega))

end Go.Proofs.Ytebkgmjmjmaleaa
