/- ShaWMixed, ShaWWrite, ShaWWr. -/
import Derived.Test.YtojgablpjdlegaaGreatDoorM15
import Derived.Laws.CopyRow
import Derived.Deep.RegionLaw
/- mixed. -/
namespace Go.Proofs.YtojgablpjdlegaaGreatDoor.Sha
open Go.RowKit

theorem turned_gen (v n : Int) (w : World) (h0 : 0 ≤ n) (h1 : n ≤ 31) : Calls Tryz.prog 142 #[.int .u32 v, .int .i64 n] w fun e w' => e = .returned (.int .u32 (rotl v n.toNat)) ∧ w' = w.drew := by
  obtain ⟨k, rfl⟩ := Int.eq_ofNat_of_zero_le h0
  exact turned_any v k w (by omega)

/-- Five words, by value. -/
abbrev stv (s : St) : Value := .agg #[.int .u32 s.a, .int .u32 s.b, .int .u32 s.c, .int .u32 s.d, .int .u32 s.e]

theorem stv_row (s : St) : stv s = row (fun j => .int .u32 (s.nth j)) 5 := rfl

theorem st_row (w : World) (s : St) : (w.alloc (.cells #[.int .u32 s.a, .int .u32 s.b, .int .u32 s.c, .int .u32 s.d, .int .u32 s.e] 145)).rowIs w.heap.size 145 5 (fun j => .int .u32 (s.nth j)) :=
  rowIs_vals w (fun j => .int .u32 (s.nth j)) 5 145

theorem plus_row (s r : St) (k : Nat) {w : World} {b : Nat} (h : w.rowIs b 145 5 (fun j => .int .u32 (if j < k then (s.plus r).nth j else s.nth j))) : (w.setCell ⟨b, k, none⟩ (.int .u32 (ad (s.nth k) (r.nth k)))).rowIs b 145 5 (fun j => .int .u32 (if j < k + 1 then (s.plus r).nth j else s.nth j)) :=
  (h.set k _).congr (fun i _ => by
    by_cases e : i = k
    · subst e; simp [St.plus_nth]
    · simp only [e, if_false]
      by_cases h : i < k
      · simp [h, show i < k + 1 by omega]
      · simp [h, show ¬ i < k + 1 by omega])

theorem tmp_flat (x : Int) (t : Nat) (s : St) : (rotl s.a 5 + fF t s.b s.c s.d + s.e + kK t + x) % 4294967296 = tmp x t s := by
  unfold tmp ad
  omega

theorem index_st (r : St) (k : Nat) (hk : k < 5) (w : World) : (Instr.index 145 (stv r) (.int .i64 (k : Int))).run Tryz.prog w = .ok (.int .u32 (r.nth k)) w := by
  rw [stv_row]
  exact run_index_row 145 144 5 .i64 _ k hk Tryz.underlying145 (fun w => by simp [go_sem]) (fun w => by simp [go_sem]) w

set_option maxRecDepth 100000 in
set_option maxHeartbeats 2000000 in
theorem mixed_any (s : St) (bs : List Int) (w : World) (hb : ∀ x ∈ bs, 0 ≤ x ∧ x < 256) : Calls Tryz.prog 105 #[stv s, blkv bs] w fun e w' => e = .returned (stv (mix s bs)) ∧ Below w.heap.size w w' := by
  obtain ⟨f, hf⟩ : ∃ f : Nat → Value, blkv bs = row f 64 := ⟨_, rfl⟩
  rw [hf]
  have HF : Hid (blkv bs = row f 64) := hf
  have HB : Hid (∀ x ∈ bs, 0 ≤ x ∧ x < 256) := hb
  clear hf hb
  have r40 := (st_row w s).alloc (.cells (vals f 64).toArray 173) |>.alloc (.cells #[.int .u32 0, .int .u32 0, .int .u32 0, .int .u32 0, .int .u32 0] 145)
  have r43 := (rowIs_vals (w.alloc (.cells #[.int .u32 s.a, .int .u32 s.b, .int .u32 s.c, .int .u32 s.d, .int .u32 s.e] 145)) f 64 173).alloc (.cells #[.int .u32 0, .int .u32 0, .int .u32 0, .int .u32 0, .int .u32 0] 145)
  have rz := rowIs_rep ((w.alloc (.cells #[.int .u32 s.a, .int .u32 s.b, .int .u32 s.c, .int .u32 s.d, .int .u32 s.e] 145)).alloc (.cells (vals f 64).toArray 173)) (.int .u32 0) 5 145
  rw [show (w.alloc (.cells #[.int .u32 s.a, .int .u32 s.b, .int .u32 s.c, .int .u32 s.d, .int .u32 s.e] 145)).heap.size = w.heap.size + 1 by simp] at r43
  rw [show ((w.alloc (.cells #[.int .u32 s.a, .int .u32 s.b, .int .u32 s.c, .int .u32 s.d, .int .u32 s.e] 145)).alloc (.cells (vals f 64).toArray 173)).heap.size = w.heap.size + 2 by simp] at rz
  have hbl : Below w.heap.size w (((w.alloc (.cells #[.int .u32 s.a, .int .u32 s.b, .int .u32 s.c, .int .u32 s.d, .int .u32 s.e] 145)).alloc (.cells (vals f 64).toArray 173)).alloc (.cells #[.int .u32 0, .int .u32 0, .int .u32 0, .int .u32 0, .int .u32 0] 145)) := (((Below.refl _ _).alloc (Nat.le_refl _) _).alloc (by simp) _).alloc (by simp; omega) _
  have c0 := r40.cell (i := 0) (by omega)
  have c1 := r40.cell (i := 1) (by omega)
  have c2 := r40.cell (i := 2) (by omega)
  have c3 := r40.cell (i := 3) (by omega)
  have c4 := r40.cell (i := 4) (by omega)
  simp only [St.nth] at c0 c1 c2 c3 c4
  go_enter Tryz.func105, Tryz.ntmps105
  go_wp2_with fail
  go_region_held3 (fun w' => w'.cell? ⟨w.heap.size, 0, none⟩ = some (.int .u32 s.a) ∧ w'.cell? ⟨w.heap.size, 1, none⟩ = some (.int .u32 s.b) ∧ w'.cell? ⟨w.heap.size, 2, none⟩ = some (.int .u32 s.c) ∧ w'.cell? ⟨w.heap.size, 3, none⟩ = some (.int .u32 s.d) ∧ w'.cell? ⟨w.heap.size, 4, none⟩ = some (.int .u32 s.e)) (simp [*]) (fail)
  clear c0 c1 c2 c3 c4
  obtain ⟨W3, hW3⟩ : ∃ W3, W3 = (((w.alloc (.cells #[.int .u32 s.a, .int .u32 s.b, .int .u32 s.c, .int .u32 s.d, .int .u32 s.e] 145)).alloc (.cells (vals f 64).toArray 173)).alloc (.cells #[.int .u32 0, .int .u32 0, .int .u32 0, .int .u32 0, .int .u32 0] 145)) := ⟨_, rfl⟩
  have hsz : W3.heap.size = w.heap.size + 3 := by rw [hW3]; simp
  change World.rowIs (((w.alloc (.cells #[.int .u32 s.a, .int .u32 s.b, .int .u32 s.c, .int .u32 s.d, .int .u32 s.e] 145)).alloc (.cells (vals f 64).toArray 173)).alloc (.cells #[.int .u32 0, .int .u32 0, .int .u32 0, .int .u32 0, .int .u32 0] 145)) (w.heap.size + 2) 145 5 _ at rz
  rw [← hW3] at r40 r43 rz hbl ⊢
  clear hW3
  have HZ : Hid (W3.heap.size = w.heap.size + 3) := hsz
  clear hsz
  have r43' := r43.drew
  go_wp2_with (first
    | (refine wpList_ld0 rfl 173 _ rfl (w.heap.size + 1) rfl _ r43' 64 (by omega) Tryz.underlying173 rfl size43 ?_; clear r43')
    | (go_at_call 140; rw [← HF.out]; refine (spread_any bs _ HB.out).mono ?_; rintro e w1 ⟨rfl, hb1⟩))
  obtain ⟨u, hu⟩ : ∃ u : Nat → Value, u = fun j => .int .u32 (sw bs j) := ⟨_, rfl⟩
  have hsv : schv bs = row u 80 := by rw [hu]; rfl
  have HU : Hid (u = fun j => .int .u32 (sw bs j)) := hu
  rw [hsv]
  clear hsv hu
  have q40 : w1.rowIs w.heap.size 145 5 (fun j => .int .u32 (s.nth j)) := r40.of_block (hb1.block _ (by have := HZ.out; show _ < W3.heap.size; omega))
  have qz : w1.rowIs (w.heap.size + 2) 145 5 (fun _ => .int .u32 0) := rz.of_block (hb1.block _ (by have := HZ.out; show _ < W3.heap.size; omega))
  have hbq : Below w.heap.size w w1 := hbl.drew.trans (hb1.mono (by have := HZ.out; show _ ≤ W3.heap.size; omega))
  clear hb1 r40 r43 rz hbl HF HB HZ
  go_loopw [5, 6, 7, 8, 9, 29] (fun a b c d e i wr => ∃ k : Nat, k ≤ 80 ∧ i = .int .i64 (k : Int) ∧ a = .int .u32 (run bs s k).a ∧ b = .int .u32 (run bs s k).b ∧ c = .int .u32 (run bs s k).c ∧ d = .int .u32 (run bs s k).d ∧ e = .int .u32 (run bs s k).e ∧
      wr.rowIs w.heap.size 145 5 (fun j => .int .u32 (s.nth j)) ∧ wr.rowIs (w.heap.size + 2) 145 5 (fun _ => .int .u32 0) ∧ Below w.heap.size w wr)
    (fun _ _ _ _ _ i _ => (80 - intOf i).toNat)
  case atStart => exact ⟨0, by omega, rfl, rfl, rfl, rfl, rfl, rfl, q40, qz, hbq⟩
  case round =>
    clear q40 qz hbq
    obtain ⟨k, hk, rfl, rfl, rfl, rfl, rfl, rfl, q40, qz, hbq⟩ := hrel
    obtain ⟨r, hr⟩ : ∃ r, r = run bs s k := ⟨_, rfl⟩
    rw [← hr]
    have HR : Hid (r = run bs s k) := hr
    clear hr
    by_cases hlt : k < 80
    · have hix : ∀ w, (Instr.index 201 (row u 80) (.int .i64 (k : Int))).run Tryz.prog w = .ok (u k) w := run_index_row 201 144 80 .i64 _ k hlt Tryz.underlying201 (fun w => by simp [go_sem]) (fun w => by simp [go_sem])
      have hun : u k = .int .u32 (sw bs k) := by rw [HU.out]
      rw [hun] at hix
      obtain ⟨x, hx⟩ : ∃ x, x = sw bs k := ⟨_, rfl⟩
      rw [← hx] at hix
      have HX : Hid (x = sw bs k) := hx
      clear hun hx
      go_wp2_with (first
        | (go_at_call 141; refine (part_any k _ _ _ _ hlt).mono ?_; rintro e w1 ⟨rfl, hw⟩; subst w1)
        | (go_at_call 142; refine (turned_gen _ _ _ (by omega) (by omega)).mono ?_; rintro e w1 ⟨rfl, hw⟩; subst w1))
      refine ⟨⟨k + 1, by omega, by go_num, ?_, ?_, ?_, ?_, ?_, q40, qz, hbq.drew.drew⟩, by simp [intOf]; omega⟩
      all_goals rw [run_succ bs s k hlt, ← HR.out, ← HX.out]
      · rw [tmp_flat]; rfl
      · rfl
      · rfl
      · rfl
      · rfl
    · have h80 : k = 80 := by omega
      rw [h80] at HR
      obtain ⟨z, hz⟩ : ∃ z : Int, z = (k : Int) := ⟨_, rfl⟩
      have hz80 : ¬ z < 80 := by omega
      rw [← hz]
      clear h80 hz hlt hk
      clear HU
      go_wp2_with fail
      clear hz80
      go_loopw [64] (fun i wr => ∃ k : Nat, k ≤ 5 ∧ i = .int .i64 (k : Int) ∧ wr.rowIs w.heap.size 145 5 (fun j => .int .u32 (if j < k then (s.plus r).nth j else s.nth j)) ∧ wr.rowIs (w.heap.size + 2) 145 5 (fun _ => .int .u32 0) ∧ Below w.heap.size w wr)
        (fun i _ => (5 - intOf i).toNat)
      case atStart => exact ⟨0, by omega, rfl, q40.congr (fun j _ => by simp), qz, hbq⟩
      case round =>
        clear q40 qz hbq
        obtain ⟨k2, hk, rfl, q40, qz, hbq⟩ := hrel
        by_cases hlt : k2 < 5
        · have hix := index_st r k2 hlt
          have ct := q40.cell (i := k2) hlt
          have ft := q40.frozen k2
          simp only [Nat.lt_irrefl, if_false] at ct
          have h3 := plus_row s r k2 q40
          have h4 : (wr.setCell ⟨w.heap.size, k2, none⟩ (.int .u32 (ad (s.nth k2) (r.nth k2)))).rowIs (w.heap.size + 2) 145 5 (fun _ => .int .u32 0) := qz.setOther (by simp) _
          have hb' : Below w.heap.size w (wr.setCell ⟨w.heap.size, k2, none⟩ (.int .u32 (ad (s.nth k2) (r.nth k2)))) := hbq.setCell (by simp) _
          unfold ad at h3 h4 hb'
          clear q40 qz hbq
          go_wp2_with fail
          refine ⟨⟨k2 + 1, by omega, by go_num, h3, h4, hb'⟩, by simp [intOf]; omega⟩
        · have h5 : k2 = 5 := by omega
          have r1 : wr.rowIs w.heap.size 145 5 (fun j => .int .u32 ((mix s bs).nth j)) := q40.congr (fun j hj => by rw [if_pos (by omega), HR.out]; rfl)
          clear q40
          go_wp2_with (first
            | (refine wpList_ld0 rfl 145 _ rfl w.heap.size rfl _ r1 5 (by omega) Tryz.underlying145 rfl size40 ?_; clear r1)
            | (refine wpList_st rfl 145 _ _ rfl (w.heap.size + 2) rfl (fun j => .int .u32 ((mix s bs).nth j)) rfl qz size40 (fun j => rfl) ?_; intro w3 h3 f3))
          refine bodyPost_ret (results_row rfl _ rfl h3 Tryz.underlying145 rfl size40) rfl ⟨rfl, ?_⟩
          exact hbq.trans (f3.below _ hbq.size (fun i hi e => by omega))

end Go.Proofs.YtojgablpjdlegaaGreatDoor.Sha

/- Write. -/
namespace Go.Proofs.YtojgablpjdlegaaGreatDoor.Sha
open Go.RowKit

/-- Block R is a hash of the bytes xs, that long. -/
def IsHL (w : World) (R : Nat) (xs : List Int) (q k : Nat) : Prop :=
  xs.length = 64 * q + k ∧ k < 64 ∧ (∀ x ∈ xs, 0 ≤ x ∧ x < 256) ∧ ∃ l : Nat → Int, HRaw w R (absb xs q) l (xs.length : Int) ∧ ∀ j, j < k → l j = xs.getD (64 * q + j) 0

def IsH (w : World) (R : Nat) (xs : List Int) : Prop := ∃ q k, IsHL w R xs q k

theorem IsH.fr {P : Nat → Prop} {w w' : World} {R : Nat} {xs : List Int} (h : IsH w R xs) (hf : Fr P w w') (hb : ¬ P R) : IsH w' R xs := by
  obtain ⟨q, k, h1, h2, h3, l, h4, h5⟩ := h
  exact ⟨q, k, h1, h2, h3, l, h4.fr hf hb, h5⟩

theorem IsH.lt {w : World} {R : Nat} {xs : List Int} (h : IsH w R xs) : R < w.heap.size := by
  obtain ⟨q, k, h1, h2, h3, l, h4, h5⟩ := h
  exact World.rowIs.lt h4

theorem IsH.keep {w w' : World} {R : Nat} {xs : List Int} (h : IsH w R xs) (hb : Below w.heap.size w w') : IsH w' R xs :=
  h.fr (P := fun _ => False) (Fr.ofBelow hb) (fun h => h)

theorem IsH.byt {w : World} {R : Nat} {xs : List Int} (h : IsH w R xs) : ∀ x ∈ xs, 0 ≤ x ∧ x < 256 := by
  obtain ⟨q, k, h1, h2, h3, l, h4, h5⟩ := h
  exact h3

/-- What a copy lays. -/
def lay (l : Nat → Int) (k cnt : Nat) (zs : List Int) (j : Nat) : Int := if k ≤ j ∧ j < k + cnt then zs.getD (j - k) 0 else l j

theorem lay_get (xs zs : List Int) (l : Nat → Int) (q k cnt : Nat) (hx : xs.length = 64 * q + k) (hl : ∀ j, j < k → l j = xs.getD (64 * q + j) 0) (j : Nat) (hj : j < k + cnt) :
    lay l k cnt zs j = (xs ++ zs.take cnt).getD (64 * q + j) 0 := by
  unfold lay
  by_cases h : k ≤ j
  · rw [if_pos ⟨h, hj⟩]
    simp only [List.getD]
    rw [List.getElem?_append_right (by omega), List.getElem?_take, if_pos (by omega)]
    congr 2
    omega
  · rw [if_neg (by omega), hl j (by omega)]
    simp only [List.getD]
    rw [List.getElem?_append_left (by omega)]

theorem blk_eq (X : List Int) (q : Nat) (f : Nat → Int) (h : ∀ j, j < 64 → f j = X.getD (64 * q + j) 0) : row (fun j => .int .u8 (f j)) 64 = blkv (blk X q) :=
  row_congr _ _ _ (fun j hj => by
    rw [h j hj]
    simp only [List.getD, blk, List.getElem?_take, List.getElem?_drop, if_pos hj])

theorem blk_byt (X : List Int) (q : Nat) (h : ∀ x ∈ X, 0 ≤ x ∧ x < 256) : ∀ x ∈ blk X q, 0 ≤ x ∧ x < 256 :=
  fun x hx => h x (List.mem_of_mem_drop (List.mem_of_mem_take hx))

theorem take_byt {xs zs : List Int} (cnt : Nat) (h : ∀ x ∈ xs, 0 ≤ x ∧ x < 256) (h2 : ∀ x ∈ zs, 0 ≤ x ∧ x < 256) : ∀ x ∈ xs ++ zs.take cnt, 0 ≤ x ∧ x < 256 := by
  intro x hx
  rcases List.mem_append.1 hx with h' | h'
  · exact h x h'
  · exact h2 x (List.mem_of_mem_take h')

/-- A block that is not full yet. -/
theorem next_part {w : World} {R : Nat} {xs zs : List Int} {l : Nat → Int} {q k cnt : Nat} (hx : xs.length = 64 * q + k) (hc : cnt ≤ zs.length) (hb : ∀ x ∈ xs, 0 ≤ x ∧ x < 256) (hb2 : ∀ x ∈ zs, 0 ≤ x ∧ x < 256) (hl : ∀ j, j < k → l j = xs.getD (64 * q + j) 0)
    (h64 : k + cnt < 64) (h : HRaw w R (absb xs q) (lay l k cnt zs) ((xs.length : Int) + cnt)) : IsH w R (xs ++ zs.take cnt) := by
  have hlen : (xs ++ zs.take cnt).length = xs.length + cnt := by simp; omega
  refine ⟨q, k + cnt, by omega, h64, take_byt cnt hb hb2, lay l k cnt zs, ?_, fun j hj => lay_get xs zs l q k cnt hx hl j hj⟩
  rw [absb_app _ _ _ (by omega), hlen]
  push_cast
  exact h

/-- A block that is full. -/
theorem next_full {w : World} {R : Nat} {xs zs : List Int} {l' : Nat → Int} {q k cnt : Nat} (hx : xs.length = 64 * q + k) (hc : cnt ≤ zs.length) (hb : ∀ x ∈ xs, 0 ≤ x ∧ x < 256) (hb2 : ∀ x ∈ zs, 0 ≤ x ∧ x < 256)
    (h64 : k + cnt = 64) (h : HRaw w R (mix (absb xs q) (blk (xs ++ zs.take cnt) q)) l' ((xs.length : Int) + cnt)) : IsH w R (xs ++ zs.take cnt) := by
  have hlen : (xs ++ zs.take cnt).length = xs.length + cnt := by simp; omega
  refine ⟨q + 1, 0, by omega, by omega, take_byt cnt hb hb2, l', ?_, fun j hj => by omega⟩
  rw [absb, absb_app _ _ q (by omega), hlen]
  push_cast
  exact h

theorem lay_row {s : St} {l : Nat → Int} {n : Int} {k cnt : Nat} {zs : List Int} (h64 : k + cnt ≤ 64) (j : Nat) : (if 5 + k ≤ j ∧ j < 5 + k + cnt then Value.int .u8 (zs.getD (j - (5 + k)) 0) else hcells s l n j) = hcells s (lay l k cnt zs) n j := by
  unfold hcells lay
  by_cases h : 5 + k ≤ j ∧ j < 5 + k + cnt
  · rw [if_pos h, if_neg (by omega), if_pos (by omega), if_pos (by omega)]
    congr 2
    omega
  · rw [if_neg h]
    by_cases h5 : j < 5
    · rw [if_pos h5, if_pos h5]
    · rw [if_neg h5, if_neg h5]
      by_cases h69 : j < 69
      · rw [if_pos h69, if_pos h69, if_neg (by omega)]
      · rw [if_neg h69, if_neg h69]

theorem size5 : (Tryz.prog.info? 5).map (·.size) = some 1 := by
  obtain ⟨i0, hi, hz0, hz1, hz2⟩ := info_parts Tryz.info5
  simp [hi, hz1]

theorem step_copy {ops : Array Oper} {o : Oper} {a : Act} {w : World} {K : Act → World → Prop} {Q : Exit → Act → World → Prop} {E : Prop} (hgd : o.guard = none) (d s : Operand)
    (ho : o.op = .call { callee := .builtin .copy, args := #[d, s], argTypes := #[22, 22] }) (R k n c cnt : Nat) (ad : Addr) (dl dc : Nat) (hd : a.eval d = .slice (some ⟨R, 5 + k, none⟩) dl dc) (hs : a.eval s = .slice (some ad) n c)
    (hdl : dl = 64 - k) (hcnt : cnt = min n (64 - k)) (hk : k < 64) {st : St} {l : Nat → Int} {sz : Int} (hrow : HRaw w R st l sz) {zs : List Int} (hr : Rd w (some ad) n c zs)
    (h : ∀ w', HRaw w' R st (lay l k cnt zs) sz → Fr (fun b => b = R) w w' → K (a.put o.dst (.int .i64 cnt)) w') :
    if Region.wanted o (yielded ops a.tmps) = true then Oper.wp Tryz.prog o a w K Q else E := by
  have hw : Region.wanted o (yielded ops a.tmps) = true := by simp [Region.wanted, hgd]
  rw [if_pos hw]
  have hzl := hr.len
  obtain ⟨cur, hg, hn, hc⟩ := hrow
  have hcs : ((zs.take cnt).map (Value.int .u8)).length = cnt := by simp; omega
  have hsrc : ∀ j v, ((zs.take cnt).map (Value.int .u8))[j]? = some v → w.cell? (ad.add j) = some v := fun j v hv => by
    have hj : j < cnt := by
      have := (List.getElem?_eq_some_iff.1 hv).1
      omega
    refine hr.cellsOf ad rfl j v ?_
    rw [← hv, List.getElem?_map, List.getElem?_map, List.getElem?_take, if_pos hj]
  have hrun := run_copy_row (P := Tryz.prog) w 22 22 o.type 5 R (5 + k) dl dc ad n c cur 175 ((zs.take cnt).map (Value.int .u8)) Tryz.underlying22 size5 hg (by rw [hcs, hcnt, hdl]) hsrc (by rw [hcs]; omega) (ints_oneCell _ _)
  unfold Oper.wp
  simp only [execOp, ho, resolve, invoke, builtin]
  simp [hd, hs, hrun, Result.andThen]
  rw [show min cnt zs.length = cnt by omega]
  refine h _ ?_ ((Fr.refl (fun b => b = R) w).setRow rfl _)
  refine World.rowIs.congr (f := fun j => if 5 + k ≤ j ∧ j < 5 + k + cnt then Value.int .u8 (zs.getD (j - (5 + k)) 0) else hcells st l sz j) ?_ (fun j _ => lay_row (by omega) j)
  refine ⟨_, setRow_heap w R cur _ 175 _ hg, ?_, fun i hi => ?_⟩
  · simp; omega
  · have hl0 : cur.toList.length = 70 := by simpa using hn
    have hlt : (List.take cnt (List.map (Value.int .u8) zs)).length = cnt := by simp; omega
    have hl1 : (List.take (5 + k) cur.toList).length = 5 + k := by simp; omega
    simp only [List.getElem?_toArray]
    by_cases h1 : i < 5 + k
    · rw [if_neg (by omega), List.getElem?_append_left (by omega), List.getElem?_take, if_pos h1]
      simpa using hc i hi
    · by_cases h2 : i < 5 + k + cnt
      · rw [if_pos (by omega), List.getElem?_append_right (by omega), List.getElem?_append_left (by omega), hl1, List.getElem?_take, if_pos (by omega), List.getElem?_map, List.getElem?_eq_getElem (by omega)]
        simp [List.getD, List.getElem?_eq_getElem (show i - (5 + k) < zs.length by omega)]
      · rw [if_neg (by omega), List.getElem?_append_right (by omega), List.getElem?_append_right (by omega), hl1, hlt, List.getElem?_drop, show 5 + k + cnt + (i - (5 + k) - cnt) = i by omega]
        simpa using hc i hi

end Go.Proofs.YtojgablpjdlegaaGreatDoor.Sha

/- Write: the walk. -/
namespace Go.Proofs.YtojgablpjdlegaaGreatDoor.Sha
open Go.RowKit

def slen : Value → Nat
  | .slice _ n _ => n
  | _ => 0

theorem HRaw.setSize {w : World} {R : Nat} {s : St} {l : Nat → Int} {n : Int} (h : HRaw w R s l n) (m : Int) : HRaw (w.setCell ⟨R, 69, none⟩ (.int .i64 m)) R s l m :=
  (World.rowIs.set h 69 _).congr (fun i hi => by
    unfold hcells
    by_cases e : i = 69
    · subst e; rfl
    · rw [if_neg e]
      by_cases h5 : i < 5
      · rw [if_pos h5, if_pos h5]
      · rw [if_neg h5, if_neg h5, if_pos (by omega), if_pos (by omega)])

/-- The world behind the store of five words. -/
def setw (w : World) (R : Nat) (r : St) : World :=
  ((((w.setCell ⟨R, 0, none⟩ (.int .u32 r.a)).setCell ⟨R, 1, none⟩ (.int .u32 r.b)).setCell ⟨R, 2, none⟩ (.int .u32 r.c)).setCell ⟨R, 3, none⟩ (.int .u32 r.d)).setCell ⟨R, 4, none⟩ (.int .u32 r.e)

theorem HRaw.setWords {w : World} {R : Nat} {s : St} {l : Nat → Int} {n : Int} (h : HRaw w R s l n) (r : St) : HRaw (setw w R r) R r l n :=
  (World.rowIs.set (World.rowIs.set (World.rowIs.set (World.rowIs.set (World.rowIs.set h 0 _) 1 _) 2 _) 3 _) 4 _).congr (fun i hi => by
    rcases i with _ | _ | _ | _ | _ | i
    · rfl
    · rfl
    · rfl
    · rfl
    · rfl
    · have e : ∀ t : St, hcells t l n (i + 5) = if i < 64 then .int .u8 (l i) else .int .i64 n := fun t => by
        unfold hcells
        by_cases h : i < 64
        · rw [if_neg (by omega), if_pos (by omega), if_pos h]; rfl
        · rw [if_neg (by omega), if_neg (by omega), if_neg h]
      show (if i + 5 = 4 then _ else if i + 5 = 3 then _ else if i + 5 = 2 then _ else if i + 5 = 1 then _ else if i + 5 = 0 then _ else hcells s l n (i + 5)) = hcells r l n (i + 5)
      rw [if_neg (by omega), if_neg (by omega), if_neg (by omega), if_neg (by omega), if_neg (by omega), e, e])

theorem setw_fr {P : Nat → Prop} {w w' : World} {R : Nat} (r : St) (h : Fr P w w') (hR : P R) : Fr P w (setw w' R r) :=
  ((((h.setCell hR _).setCell hR _).setCell hR _).setCell hR _).setCell hR _

def lv (t : TypeId) (a : Addr) : Sem Value := loadVar t a

theorem lv173 (a : Addr) : loadVar 173 a = lv 173 a := rfl

set_option maxRecDepth 100000 in
theorem lv43_run {w : World} {R : Nat} {s : St} {l : Nat → Int} {n : Int} (h : HRaw w R s l n) : (lv 173 ⟨R, 5, none⟩).run Tryz.prog w = .ok (row (fun j => .int .u8 (l j)) 64) w := by
  have := load_mid (P := Tryz.prog) (o := 5) 173 _ h 64 (by omega) Tryz.underlying173 rfl size43
  rw [row_congr _ (fun j => .int .u8 (l j)) 64 (fun i hi => by simp only [hcells]; rw [if_neg (by omega), if_pos (by omega)]; congr 2; omega)] at this
  exact this

attribute [local go_sem ↓] lv173

theorem take_more (xs ys : List Int) (p cnt : Nat) : xs ++ ys.take p ++ (ys.drop p).take cnt = xs ++ ys.take (p + cnt) := by
  rw [List.append_assoc, List.take_add]

theorem slen_ok (a : Option Addr) (n c : Nat) : slen (.slice a n c) = n := rfl

theorem sub_sep {B o cnt R c' : Nat} (h : B ≠ R) (ad : Addr) (had : (if c' = cnt then some (⟨B, o, none⟩ : Addr) else some ⟨B, o + cnt, none⟩) = some ad) : ad.block ≠ R := by
  by_cases hc : c' = cnt
  · rw [if_pos hc] at had; cases had; exact h
  · rw [if_neg hc] at had; cases had; exact h

set_option maxRecDepth 100000 in
set_option maxHeartbeats 4000000 in
theorem write_any (R : Nat) (ao : Option Addr) (n c : Nat) (xs ys : List Int) (w : World) (h : IsH w R xs) (hr : Rd w ao n c ys) (hs : ∀ ad, ao = some ad → 0 < n → ad.block ≠ R) (hl : xs.length + ys.length ≤ 1000000000) :
    Calls Tryz.prog 87 #[.pointer (some ⟨R, 0, none⟩), .slice ao n c] w fun e w' => e = .returned (.tuple #[]) ∧ IsH w' R (xs ++ ys) ∧ Fr (fun b => b = R) w w' := by
  go_enter Tryz.func87, Tryz.ntmps87
  go_wp2_with fail
  go_loopw [1] (fun b wr => ∃ (p : Nat) (ao' : Option Addr) (n' c' : Nat), b = .slice ao' n' c' ∧ p + n' = ys.length ∧ IsH wr R (xs ++ ys.take p) ∧ Rd wr ao' n' c' (ys.drop p) ∧ (∀ ad, ao' = some ad → 0 < n' → ad.block ≠ R) ∧ Fr (fun b => b = R) w wr)
    (fun b _ => slen b)
  case atStart => exact ⟨0, ao, n, c, rfl, by simp [hr.len], by simpa using h, by simpa using hr, hs, Fr.refl _ _⟩
  case round =>
    clear h hr hs
    obtain ⟨p, ao', n', c', rfl, hpn, hH, hrd, hs, fr⟩ := hrel
    by_cases hn : 0 < n'
    · obtain ⟨B, o, rfl, hcl⟩ := hrd.plain hn
      have hBR : B ≠ R := hs _ rfl hn
      obtain ⟨X, hX⟩ : ∃ X, X = xs ++ ys.take p := ⟨_, rfl⟩
      obtain ⟨zs, hzs⟩ : ∃ zs, zs = ys.drop p := ⟨_, rfl⟩
      rw [← hX] at hH
      rw [← hzs] at hrd
      obtain ⟨q, k, hlen, hk, hbyt, l, raw, hl2⟩ := hH
      obtain ⟨L, hL⟩ : ∃ L, L = X.length := ⟨_, rfl⟩
      obtain ⟨s, hss⟩ : ∃ s, s = absb X q := ⟨_, rfl⟩
      rw [← hL, ← hss] at raw
      obtain ⟨cnt, hcnt⟩ : ∃ cnt, cnt = min n' (64 - k) := ⟨_, rfl⟩
      have hzl := hrd.len
      have hLb : L + n' ≤ 1000000000 := by rw [hL, hX]; simp; omega
      have HX : Hid (X = xs ++ ys.take p ∧ zs = ys.drop p ∧ L = X.length ∧ s = absb X q ∧ cnt = min n' (64 - k) ∧ X.length = 64 * q + k ∧ p + n' = ys.length) := ⟨hX, hzs, hL, hss, hcnt, hlen, hpn⟩
      have HB : Hid ((∀ x ∈ X, 0 ≤ x ∧ x < 256) ∧ (∀ x ∈ zs, 0 ≤ x ∧ x < 256) ∧ ∀ j, j < k → l j = X.getD (64 * q + j) 0) := ⟨hbyt, hrd.byt, hl2⟩
      have hkL : (L : Int).tmod 64 = (k : Int) := by rw [Int.tmod_eq_emod_of_nonneg (by omega)]; omega
      have c69 := raw.size
      have hrd' : Rd wr.drew (some ⟨B, o, none⟩) n' c' zs := hrd.keep (Below.refl _ _).drew
      have raw' : HRaw wr.drew R s l (L : Int) := raw
      have hk64 : (k : Int) < 64 := by omega
      have hkl : (k : Int) ≤ 64 := by omega
      have hnk : ¬ 64 = k := by omega
      clear hX hzs hL hss hlen hbyt hl2 hcl hcnt hpn hzl
      go_wp2_with fail
      go_region_law (refine step_copy (by rfl) (.tmp 16) (.tmp 17) (by rfl) R k n' c' cnt ⟨B, o, none⟩ (64 - k) (64 - k) (by rfl) (by rfl) rfl HX.out.2.2.2.2.1 hk raw' hrd' ?_; intro w2 h2 f2)
      obtain ⟨hX, hzs, hL, hss, hcnt, hlen, hpn⟩ := HX.out
      have hcn : cnt ≤ n' := by omega
      have hcp : 0 < cnt := by omega
      have hkc : k + cnt ≤ 64 := by omega
      have hzl := hrd.len
      clear hX hzs hL hss hcnt hlen hpn
      have hrd2 := (hrd'.fr f2 (fun ad had _ e => hBR (by cases had; exact e))).sub cnt (n' - cnt) (by omega)
      rw [List.take_of_length_le (by simp; omega)] at hrd2
      have c69' := h2.size
      have f69 := World.rowIs.frozen h2 69
      have hcc : (cnt : Int) ≤ c' := by have := hrd.le; omega
      have hcc2 : (cnt : Int) ≤ n' := by omega
      have hcc3 : cnt ≤ c' := by have := hrd.le; omega
      have h3 := h2.setSize ((L : Int) + cnt)
      have f3 : Fr (fun b => b = R) w (w2.setCell ⟨R, 69, none⟩ (.int .i64 ((L : Int) + cnt))) := (fr.drew.trans f2 (fun _ _ e => e)).setCell rfl _
      have hrd3 : Rd (w2.setCell ⟨R, 69, none⟩ (.int .i64 ((L : Int) + cnt))) _ _ _ _ := hrd2.fr ((Fr.refl (fun b => b = R) w2).setCell rfl _) (fun ad had hp e => by
        by_cases hcx : c' = cnt
        · rw [if_pos hcx] at had; cases had; exact hBR e
        · rw [if_neg hcx] at had; simp only [Option.map_some, Option.some.injEq] at had; subst had; rw [Addr.add_lit] at e; exact hBR e)
      have hrd4 : Rd (w2.setCell ⟨R, 69, none⟩ (.int .i64 ((L : Int) + cnt))) (if c' = cnt then some ⟨B, o, none⟩ else some ⟨B, o + cnt, none⟩) (n' - cnt) (c' - cnt) (ys.drop (p + cnt)) := by
        rw [HX.out.2.1, List.drop_drop] at hrd3
        by_cases hcx : c' = cnt
        · rw [if_pos hcx] at hrd3 ⊢; exact hrd3
        · rw [if_neg hcx] at hrd3 ⊢; simpa only [Option.map_some, Addr.add_lit] using hrd3
      have HR4 : Hid (Rd (w2.setCell ⟨R, 69, none⟩ (.int .i64 ((L : Int) + cnt))) (if c' = cnt then some ⟨B, o, none⟩ else some ⟨B, o + cnt, none⟩) (n' - cnt) (c' - cnt) (ys.drop (p + cnt))) := hrd4
      have HS : Hid (∀ ad, (if c' = cnt then some (⟨B, o, none⟩ : Addr) else some ⟨B, o + cnt, none⟩) = some ad → ad.block ≠ R) := sub_sep hBR
      have HZ : Hid (zs.length = n') := hzl
      clear hrd hrd' raw raw' c69 hrd2 hrd3 hrd4 fr f2 hs hzl
      by_cases h64 : k + cnt = 64
      · have e64 : ((L : Int) + cnt).tmod 64 = 0 := by rw [Int.tmod_eq_emod_of_nonneg (by omega)]; have := HX.out; omega
        obtain ⟨bs, hbs⟩ : ∃ bs, bs = blk (X ++ zs.take cnt) q := ⟨_, rfl⟩
        have hbb : ∀ x ∈ bs, 0 ≤ x ∧ x < 256 := by rw [hbs]; exact blk_byt _ _ (take_byt cnt HB.out.1 HB.out.2.1)
        have HBB : Hid (∀ x ∈ bs, 0 ≤ x ∧ x < 256) := hbb
        have HBS : Hid (bs = blk (X ++ zs.take cnt) q) := hbs
        have hld := lv43_run (w := (w2.setCell ⟨R, 69, none⟩ (.int .i64 ((L : Int) + cnt))).drew) h3
        rw [blk_eq (X ++ zs.take cnt) q _ (fun j hj => lay_get X zs l q k cnt HX.out.2.2.2.2.2.1 HB.out.2.2 j (by omega)), ← hbs] at hld
        have hld' := hld
        clear hbb hbs hld
        have HH3 : Hid (HRaw (w2.setCell ⟨R, 69, none⟩ (.int .i64 ((L : Int) + cnt))) R s (lay l k cnt zs) ((L : Int) + cnt)) := h3
        have HF3 : Hid (Fr (fun b => b = R) w (w2.setCell ⟨R, 69, none⟩ (.int .i64 ((L : Int) + cnt)))) := f3
        clear h3 f3 hBR
        go_wp2_with fail
        all_goals
          obtain ⟨W3, hW3⟩ : ∃ W3, W3 = w2.setCell ⟨R, 69, none⟩ (.int .i64 ((L : Int) + cnt)) := ⟨_, rfl⟩
          rw [← hW3] at hld' HR4 HH3 HF3 ⊢
          clear hW3 h2 c69' f69
          have c0 := HH3.out.word 0 (by omega)
          have c1 := HH3.out.word 1 (by omega)
          have c2 := HH3.out.word 2 (by omega)
          have c3 := HH3.out.word 3 (by omega)
          have c4 := HH3.out.word 4 (by omega)
          simp only [St.nth] at c0 c1 c2 c3 c4
          go_region_with ((go_at_call 105; refine (mixed_any s bs _ HBB.out).mono ?_; rintro e w5 ⟨rfl, hb5⟩; have r5 : HRaw w5 R s (lay l k cnt zs) ((L : Int) + cnt) := HRaw.keep (w := W3.drew) HH3.out hb5; have d0 := World.rowIs.cell r5 (i := 0) (by omega); have d1 := World.rowIs.cell r5 (i := 1) (by omega); have d2 := World.rowIs.cell r5 (i := 2) (by omega); have d3 := World.rowIs.cell r5 (i := 3) (by omega); have d4 := World.rowIs.cell r5 (i := 4) (by omega); have g0 := World.rowIs.frozen r5 0; have g1 := World.rowIs.frozen r5 1; have g2 := World.rowIs.frozen r5 2; have g3 := World.rowIs.frozen r5 3; have g4 := World.rowIs.frozen r5 4))
          all_goals
            have f5 : Fr (fun b => b = R) w w5 := HF3.out.drew.trans (P' := fun _ => False) (Fr.ofBelow hb5) (fun _ _ h => h.elim)
            have r6 := r5.setWords (mix s bs)
            have f6 := setw_fr (P := fun b => b = R) (mix s bs) f5 rfl
            have f6' := setw_fr (P := fun b => b = R) (mix s bs) (Fr.refl (fun b => b = R) w5) rfl
            clear c0 c1 c2 c3 c4 d0 d1 d2 d3 d4 g0 g1 g2 g3 g4 r5 hld'
            go_wp2_with fail
            obtain ⟨hX, hzs, hL, hss, hcnt, hlen, hpn⟩ := HX.out
            have hzl := HZ.out
            have hsp := HS.out
            have f7 : Fr (fun b => b = R) W3 (setw w5 R (mix s bs)) := setw_fr (P := fun b => b = R) (mix s bs) ((Fr.refl (fun b => b = R) W3).drew.trans (P' := fun _ => False) (Fr.ofBelow hb5) (fun _ _ h => h.elim)) rfl
            have hrd6 := HR4.out.fr f7 (fun ad had _ e => hsp ad had e)
            rw [HBS.out, hss, hL] at r6
            first
              | (rw [if_pos ‹c' = cnt›, show c' - cnt = 0 by omega] at hrd6; rw [if_pos ‹c' = cnt›] at hsp)
              | rw [if_neg ‹¬ c' = cnt›] at hrd6 hsp
            refine ⟨⟨p + cnt, _, _, _, rfl, by omega, ?_, hrd6, (fun ad had _ => hsp ad had), f6⟩, by rw [slen_ok, slen_ok]; omega⟩
            rw [← take_more, ← hX, ← hzs]
            rw [HBS.out, hss]
            exact next_full hlen (by omega) HB.out.1 HB.out.2.1 h64 r6
      · have e64 : ((L : Int) + cnt).tmod 64 = ((k + cnt : Nat) : Int) := by rw [Int.tmod_eq_emod_of_nonneg (by omega)]; have := HX.out; omega
        have e65 : ¬ ((k + cnt : Nat) : Int) = 0 := by omega
        go_wp2_with fail
        obtain ⟨hX, hzs, hL, hss, hcnt, hlen, hpn⟩ := HX.out
        have hzl := HZ.out
        refine ⟨⟨p + cnt, _, _, _, rfl, by omega, ?_, HR4.out, (fun ad had _ => HS.out ad had), f3⟩, by rw [slen_ok, slen_ok]; omega⟩
        rw [← take_more, ← hX, ← hzs]
        rw [hss, hL] at h3
        exact next_part hlen (by omega) HB.out.1 HB.out.2.1 HB.out.2.2 (by omega) (by rw [hL]; exact h3)
    · obtain rfl : n' = 0 := by omega
      obtain rfl : p = ys.length := by omega
      rw [List.take_of_length_le (Nat.le_refl _)] at hH
      clear hn
      go_wp2_with fail
      go_end0
      exact ⟨rfl, hH, fr⟩

end Go.Proofs.YtojgablpjdlegaaGreatDoor.Sha
