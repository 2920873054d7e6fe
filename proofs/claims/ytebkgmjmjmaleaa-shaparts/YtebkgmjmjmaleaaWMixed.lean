/- mixed. -/
import Derived.Test.YtebkgmjmjmaleaaWSpread
namespace Go.Proofs.Ytebkgmjmjmaleaa
open Go.RowKit

theorem turned_gen (v n : Int) (w : World) (h0 : 0 ≤ n) (h1 : n ≤ 31) : Calls Try.prog 23 #[.int .u32 v, .int .i64 n] w fun e w' => e = .returned (.int .u32 (rotl v n.toNat)) ∧ w' = w.drew := by
  obtain ⟨k, rfl⟩ := Int.eq_ofNat_of_zero_le h0
  exact turned_any v k w (by omega)

/-- Five words, by value. -/
abbrev stv (s : St) : Value := .agg #[.int .u32 s.a, .int .u32 s.b, .int .u32 s.c, .int .u32 s.d, .int .u32 s.e]

theorem stv_row (s : St) : stv s = row (fun j => .int .u32 (s.nth j)) 5 := rfl

theorem st_row (w : World) (s : St) : (w.alloc (.cells #[.int .u32 s.a, .int .u32 s.b, .int .u32 s.c, .int .u32 s.d, .int .u32 s.e] 40)).rowIs w.heap.size 40 5 (fun j => .int .u32 (s.nth j)) :=
  rowIs_vals w (fun j => .int .u32 (s.nth j)) 5 40

theorem plus_row (s r : St) (k : Nat) {w : World} {b : Nat} (h : w.rowIs b 40 5 (fun j => .int .u32 (if j < k then (s.plus r).nth j else s.nth j))) : (w.setCell ⟨b, k, none⟩ (.int .u32 (ad (s.nth k) (r.nth k)))).rowIs b 40 5 (fun j => .int .u32 (if j < k + 1 then (s.plus r).nth j else s.nth j)) :=
  (h.set k _).congr (fun i _ => by
    by_cases e : i = k
    · subst e; simp [St.plus_nth]
    · simp only [e, if_false]
      by_cases h : i < k
      · simp [h, show i < k + 1 by omega]
      · simp [h, show ¬ i < k + 1 by omega])

theorem tmp_flat (x : Int) (t : Nat) (s : St) : (rotl s.a 5 + fF t s.b s.c s.d + s.e + kK t + x) % 4294967296 = tmp x t s := by
  unfold tmp ad
  omega

theorem index_st (r : St) (k : Nat) (hk : k < 5) (w : World) : (Instr.index 40 (stv r) (.int .i64 (k : Int))).run Try.prog w = .ok (.int .u32 (r.nth k)) w := by
  rw [stv_row]
  exact run_index_row 40 39 5 .i64 _ k hk Try.underlying40 (fun w => by simp [go_sem]) (fun w => by simp [go_sem]) w

set_option maxRecDepth 100000 in
set_option maxHeartbeats 2000000 in
theorem mixed_any (s : St) (bs : List Int) (w : World) (hb : ∀ x ∈ bs, 0 ≤ x ∧ x < 256) : Calls Try.prog 16 #[stv s, blkv bs] w fun e w' => e = .returned (stv (mix s bs)) ∧ Below w.heap.size w w' := by
  obtain ⟨f, hf⟩ : ∃ f : Nat → Value, blkv bs = row f 64 := ⟨_, rfl⟩
  rw [hf]
  have HF : Hid (blkv bs = row f 64) := hf
  have HB : Hid (∀ x ∈ bs, 0 ≤ x ∧ x < 256) := hb
  clear hf hb
  have r40 := (st_row w s).alloc (.cells (vals f 64).toArray 43) |>.alloc (.cells #[.int .u32 0, .int .u32 0, .int .u32 0, .int .u32 0, .int .u32 0] 40)
  have r43 := (rowIs_vals (w.alloc (.cells #[.int .u32 s.a, .int .u32 s.b, .int .u32 s.c, .int .u32 s.d, .int .u32 s.e] 40)) f 64 43).alloc (.cells #[.int .u32 0, .int .u32 0, .int .u32 0, .int .u32 0, .int .u32 0] 40)
  have rz := rowIs_rep ((w.alloc (.cells #[.int .u32 s.a, .int .u32 s.b, .int .u32 s.c, .int .u32 s.d, .int .u32 s.e] 40)).alloc (.cells (vals f 64).toArray 43)) (.int .u32 0) 5 40
  rw [show (w.alloc (.cells #[.int .u32 s.a, .int .u32 s.b, .int .u32 s.c, .int .u32 s.d, .int .u32 s.e] 40)).heap.size = w.heap.size + 1 by simp] at r43
  rw [show ((w.alloc (.cells #[.int .u32 s.a, .int .u32 s.b, .int .u32 s.c, .int .u32 s.d, .int .u32 s.e] 40)).alloc (.cells (vals f 64).toArray 43)).heap.size = w.heap.size + 2 by simp] at rz
  have hbl : Below w.heap.size w (((w.alloc (.cells #[.int .u32 s.a, .int .u32 s.b, .int .u32 s.c, .int .u32 s.d, .int .u32 s.e] 40)).alloc (.cells (vals f 64).toArray 43)).alloc (.cells #[.int .u32 0, .int .u32 0, .int .u32 0, .int .u32 0, .int .u32 0] 40)) := (((Below.refl _ _).alloc (Nat.le_refl _) _).alloc (by simp) _).alloc (by simp; omega) _
  have c0 := r40.cell (i := 0) (by omega)
  have c1 := r40.cell (i := 1) (by omega)
  have c2 := r40.cell (i := 2) (by omega)
  have c3 := r40.cell (i := 3) (by omega)
  have c4 := r40.cell (i := 4) (by omega)
  simp only [St.nth] at c0 c1 c2 c3 c4
  go_enter Try.func16, Try.ntmps16
  go_wp2_with fail
  go_region_held3 (fun w' => w'.cell? ⟨w.heap.size, 0, none⟩ = some (.int .u32 s.a) ∧ w'.cell? ⟨w.heap.size, 1, none⟩ = some (.int .u32 s.b) ∧ w'.cell? ⟨w.heap.size, 2, none⟩ = some (.int .u32 s.c) ∧ w'.cell? ⟨w.heap.size, 3, none⟩ = some (.int .u32 s.d) ∧ w'.cell? ⟨w.heap.size, 4, none⟩ = some (.int .u32 s.e)) (simp [*]) (fail)
  clear c0 c1 c2 c3 c4
  obtain ⟨W3, hW3⟩ : ∃ W3, W3 = (((w.alloc (.cells #[.int .u32 s.a, .int .u32 s.b, .int .u32 s.c, .int .u32 s.d, .int .u32 s.e] 40)).alloc (.cells (vals f 64).toArray 43)).alloc (.cells #[.int .u32 0, .int .u32 0, .int .u32 0, .int .u32 0, .int .u32 0] 40)) := ⟨_, rfl⟩
  have hsz : W3.heap.size = w.heap.size + 3 := by rw [hW3]; simp
  change World.rowIs (((w.alloc (.cells #[.int .u32 s.a, .int .u32 s.b, .int .u32 s.c, .int .u32 s.d, .int .u32 s.e] 40)).alloc (.cells (vals f 64).toArray 43)).alloc (.cells #[.int .u32 0, .int .u32 0, .int .u32 0, .int .u32 0, .int .u32 0] 40)) (w.heap.size + 2) 40 5 _ at rz
  rw [← hW3] at r40 r43 rz hbl ⊢
  clear hW3
  have HZ : Hid (W3.heap.size = w.heap.size + 3) := hsz
  clear hsz
  have r43' := r43.drew
  go_wp2_with (first
    | (refine wpList_ld0 rfl 43 _ rfl (w.heap.size + 1) rfl _ r43' 64 (by omega) Try.underlying43 rfl size43 ?_; clear r43')
    | (go_at_call 21; rw [← HF.out]; refine (spread_any bs _ HB.out).mono ?_; rintro e w1 ⟨rfl, hb1⟩))
  obtain ⟨u, hu⟩ : ∃ u : Nat → Value, u = fun j => .int .u32 (sw bs j) := ⟨_, rfl⟩
  have hsv : schv bs = row u 80 := by rw [hu]; rfl
  have HU : Hid (u = fun j => .int .u32 (sw bs j)) := hu
  rw [hsv]
  clear hsv hu
  have q40 : w1.rowIs w.heap.size 40 5 (fun j => .int .u32 (s.nth j)) := r40.of_block (hb1.block _ (by have := HZ.out; show _ < W3.heap.size; omega))
  have qz : w1.rowIs (w.heap.size + 2) 40 5 (fun _ => .int .u32 0) := rz.of_block (hb1.block _ (by have := HZ.out; show _ < W3.heap.size; omega))
  have hbq : Below w.heap.size w w1 := hbl.drew.trans (hb1.mono (by have := HZ.out; show _ ≤ W3.heap.size; omega))
  clear hb1 r40 r43 rz hbl HF HB HZ
  go_loopw [5, 6, 7, 8, 9, 29] (fun a b c d e i wr => ∃ k : Nat, k ≤ 80 ∧ i = .int .i64 (k : Int) ∧ a = .int .u32 (run bs s k).a ∧ b = .int .u32 (run bs s k).b ∧ c = .int .u32 (run bs s k).c ∧ d = .int .u32 (run bs s k).d ∧ e = .int .u32 (run bs s k).e ∧
      wr.rowIs w.heap.size 40 5 (fun j => .int .u32 (s.nth j)) ∧ wr.rowIs (w.heap.size + 2) 40 5 (fun _ => .int .u32 0) ∧ Below w.heap.size w wr)
    (fun _ _ _ _ _ i _ => (80 - intOf i).toNat)
  case atStart => exact ⟨0, by omega, rfl, rfl, rfl, rfl, rfl, rfl, q40, qz, hbq⟩
  case round =>
    clear q40 qz hbq
    obtain ⟨k, hk, rfl, rfl, rfl, rfl, rfl, rfl, q40, qz, hbq⟩ := hrel
    obtain ⟨r, hr⟩ : ∃ r, r = run bs s k := ⟨_, rfl⟩
    rw [← hr]
    have HR : Hid (r = run bs s k) := hr
    clear hr
    by_cases hlt : k < 80
    · have hix : ∀ w, (Instr.index 51 (row u 80) (.int .i64 (k : Int))).run Try.prog w = .ok (u k) w := run_index_row 51 39 80 .i64 _ k hlt Try.underlying51 (fun w => by simp [go_sem]) (fun w => by simp [go_sem])
      have hun : u k = .int .u32 (sw bs k) := by rw [HU.out]
      rw [hun] at hix
      obtain ⟨x, hx⟩ : ∃ x, x = sw bs k := ⟨_, rfl⟩
      rw [← hx] at hix
      have HX : Hid (x = sw bs k) := hx
      clear hun hx
      go_wp2_with (first
        | (go_at_call 22; refine (part_any k _ _ _ _ hlt).mono ?_; rintro e w1 ⟨rfl, hw⟩; subst w1)
        | (go_at_call 23; refine (turned_gen _ _ _ (by omega) (by omega)).mono ?_; rintro e w1 ⟨rfl, hw⟩; subst w1))
      refine ⟨⟨k + 1, by omega, by go_num, ?_, ?_, ?_, ?_, ?_, q40, qz, hbq.drew.drew⟩, by simp [intOf]; omega⟩
      all_goals rw [run_succ bs s k hlt, ← HR.out, ← HX.out]
      · rw [tmp_flat]; rfl
      · rfl
      · rfl
      · rfl
      · rfl
    · have h80 : k = 80 := by omega
      rw [h80] at HR
      obtain ⟨z, hz⟩ : ∃ z : Int, z = (k : Int) := ⟨_, rfl⟩
      have hz80 : ¬ z < 80 := by omega
      rw [← hz]
      clear h80 hz hlt hk
      clear HU
      go_wp2_with fail
      clear hz80
      go_loopw [64] (fun i wr => ∃ k : Nat, k ≤ 5 ∧ i = .int .i64 (k : Int) ∧ wr.rowIs w.heap.size 40 5 (fun j => .int .u32 (if j < k then (s.plus r).nth j else s.nth j)) ∧ wr.rowIs (w.heap.size + 2) 40 5 (fun _ => .int .u32 0) ∧ Below w.heap.size w wr)
        (fun i _ => (5 - intOf i).toNat)
      case atStart => exact ⟨0, by omega, rfl, q40.congr (fun j _ => by simp), qz, hbq⟩
      case round =>
        clear q40 qz hbq
        obtain ⟨k2, hk, rfl, q40, qz, hbq⟩ := hrel
        by_cases hlt : k2 < 5
        · have hix := index_st r k2 hlt
          have ct := q40.cell (i := k2) hlt
          have ft := q40.frozen k2
          simp only [Nat.lt_irrefl, if_false] at ct
          have h3 := plus_row s r k2 q40
          have h4 : (wr.setCell ⟨w.heap.size, k2, none⟩ (.int .u32 (ad (s.nth k2) (r.nth k2)))).rowIs (w.heap.size + 2) 40 5 (fun _ => .int .u32 0) := qz.setOther (by simp) _
          have hb' : Below w.heap.size w (wr.setCell ⟨w.heap.size, k2, none⟩ (.int .u32 (ad (s.nth k2) (r.nth k2)))) := hbq.setCell (by simp) _
          unfold ad at h3 h4 hb'
          clear q40 qz hbq
          go_wp2_with fail
          refine ⟨⟨k2 + 1, by omega, by go_num, h3, h4, hb'⟩, by simp [intOf]; omega⟩
        · have h5 : k2 = 5 := by omega
          have r1 : wr.rowIs w.heap.size 40 5 (fun j => .int .u32 ((mix s bs).nth j)) := q40.congr (fun j hj => by rw [if_pos (by omega), HR.out]; rfl)
          clear q40
          go_wp2_with (first
            | (refine wpList_ld0 rfl 40 _ rfl w.heap.size rfl _ r1 5 (by omega) Try.underlying40 rfl size40 ?_; clear r1)
            | (refine wpList_st rfl 40 _ _ rfl (w.heap.size + 2) rfl (fun j => .int .u32 ((mix s bs).nth j)) rfl qz size40 (fun j => rfl) ?_; intro w3 h3 f3))
          refine bodyPost_ret (results_row rfl _ rfl h3 Try.underlying40 rfl size40) rfl ⟨rfl, ?_⟩
          exact hbq.trans (f3.below _ hbq.size (fun i hi e => by omega))

end Go.Proofs.Ytebkgmjmjmaleaa
