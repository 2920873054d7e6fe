/- Rdc, Rcp, Cmz. -/
import Derived.Test.YtojgablpjdlegaaGreatDoorMR0
import Derived.Test.YtojgablpjdlegaaGreatDoorMC12
import Derived.Test.YtojgablpjdlegaaGreatDoorM13
import Derived.Test.YtojgablpjdlegaaGreatDoorMT06
import Derived.Test.YtojgablpjdlegaaGreatDoorMC10
/- The document's DecodeCommit, whatever the bytes. -/
namespace Go.Proofs.YtojgablpjdlegaaGreatDoor
open Go.RowKit Go.Shelf

/-- The parents that lines say from a place on; where they end; are they all names? -/
inductive Rps (xs : List Int) : Nat → List (List Int) → Nat → Bool → Prop
  | stop (p : Nat) (h : (rl xs p pnt).2.2 = false) : Rps xs p [] p true
  | bad (p : Nat) (h : (rl xs p pnt).2.2 = true) (hb : (par (ns ⟨(rl xs p pnt).1.toArray⟩)).2 ≠ 0) : Rps xs p [] p false
  | more (p : Nat) (ds : List (List Int)) (q : Nat) (b : Bool) (h : (rl xs p pnt).2.2 = true) (hp : (par (ns ⟨(rl xs p pnt).1.toArray⟩)).2 = 0) (t : Rps xs (rl xs p pnt).2.1 ds q b) : Rps xs p ((par (ns ⟨(rl xs p pnt).1.toArray⟩)).1 :: ds) q b

theorem rl_le (xs : List Int) (p : Nat) (wd : List UInt8) (h : p ≤ xs.length) : (rl xs p wd).2.1 ≤ xs.length := by
  unfold rl
  split
  · exact h
  · rename_i hh
    have := nx_le 10 xs p h
    have : nx 10 xs p ≠ xs.length := fun e => hh (.inl e)
    dsimp only
    omega

theorem rl_gt (xs : List Int) (p : Nat) (wd : List UInt8) (h : (rl xs p wd).2.2 = true) : p < (rl xs p wd).2.1 := by
  unfold rl at h ⊢
  split at h
  · cases h
  · rename_i hh
    rw [if_neg hh]
    have := nx_ge 10 xs p
    dsimp only
    omega

theorem rps_ex (xs : List Int) : ∀ (m p : Nat), p ≤ xs.length → xs.length - p ≤ m → ∃ ds q b, Rps xs p ds q b
  | m, p, hp, hm => by
    cases h : (rl xs p pnt).2.2 with
    | false => exact ⟨_, _, _, .stop p h⟩
    | true =>
      by_cases hq : (par (ns ⟨(rl xs p pnt).1.toArray⟩)).2 = 0
      · have h1 := rl_gt xs p pnt h
        have h2 := rl_le xs p pnt hp
        match m with
        | 0 => omega
        | m + 1 =>
          obtain ⟨ds, q, b, t⟩ := rps_ex xs m (rl xs p pnt).2.1 h2 (by omega)
          exact ⟨_, _, _, .more p ds q b h hq t⟩
      · exact ⟨_, _, _, .bad p h hq⟩

theorem Rps.le {xs : List Int} {p : Nat} {ds : List (List Int)} {q : Nat} {b : Bool} (h : Rps xs p ds q b) (hp : p ≤ xs.length) : q ≤ xs.length ∧ p + ds.length ≤ q := by
  induction h with
  | stop p h => exact ⟨hp, by simp⟩
  | bad p h hb => exact ⟨hp, by simp⟩
  | more p ds q b h hq t ih =>
    have h1 := rl_gt xs p pnt h
    have h2 := rl_le xs p pnt hp
    have := ih h2
    refine ⟨this.1, ?_⟩
    simp
    omega

theorem Rps.ids {xs : List Int} {p : Nat} {ds : List (List Int)} {q : Nat} {b : Bool} (h : Rps xs p ds q b) : ∀ x ∈ ds, IsId x := by
  induction h with
  | stop p h => intro x hx; cases hx
  | bad p h hb => intro x hx; cases hx
  | more p ds q b h hq t ih =>
    intro x hx
    rcases List.mem_cons.1 hx with rfl | hx
    · exact par_id _
    · exact ih x hx

theorem rps_at {xs : List Int} {p : Nat} {ds : List (List Int)} {q : Nat} {b : Bool} (h : Rps xs p ds q b) :
    ((rl xs p pnt).2.2 = false ∧ ds = [] ∧ q = p ∧ b = true) ∨ ((rl xs p pnt).2.2 = true ∧ (par (ns ⟨(rl xs p pnt).1.toArray⟩)).2 ≠ 0 ∧ ds = [] ∧ q = p ∧ b = false) ∨
    ((rl xs p pnt).2.2 = true ∧ (par (ns ⟨(rl xs p pnt).1.toArray⟩)).2 = 0 ∧ ∃ ds', ds = (par (ns ⟨(rl xs p pnt).1.toArray⟩)).1 :: ds' ∧ Rps xs (rl xs p pnt).2.1 ds' q b) := by
  cases h with
  | stop p h => exact .inl ⟨h, rfl, rfl, rfl⟩
  | bad p h hb => exact .inr (.inl ⟨h, hb, rfl, rfl, rfl⟩)
  | more p ds q b h hq t => exact .inr (.inr ⟨h, hq, ds, rfl, t⟩)

theorem rps_uniq {xs : List Int} {p : Nat} {ds : List (List Int)} {q : Nat} {b : Bool} (h : Rps xs p ds q b) : ∀ {ds' q' b'}, Rps xs p ds' q' b' → ds = ds' ∧ q = q' ∧ b = b' := by
  induction h with
  | stop p h =>
    intro ds' q' b' h'
    rcases rps_at h' with ⟨_, h1, h2, h3⟩ | ⟨h0, _⟩ | ⟨h0, _⟩
    · exact ⟨h1.symm, h2.symm, h3.symm⟩
    · rw [h] at h0; cases h0
    · rw [h] at h0; cases h0
  | bad p h hb =>
    intro ds' q' b' h'
    rcases rps_at h' with ⟨h0, _⟩ | ⟨_, _, h1, h2, h3⟩ | ⟨_, h0, _⟩
    · rw [h] at h0; cases h0
    · exact ⟨h1.symm, h2.symm, h3.symm⟩
    · exact absurd h0 hb
  | more p ds q b h hq t ih =>
    intro ds' q' b' h'
    rcases rps_at h' with ⟨h0, _⟩ | ⟨_, h0, _⟩ | ⟨_, _, d2, rfl, t'⟩
    · rw [h] at h0; cases h0
    · exact absurd hq h0
    · obtain ⟨h1, h2, h3⟩ := ih t'
      exact ⟨by rw [h1], h2, h3⟩

abbrev rz : Value := cmv z20 nlv [] [] []

set_option maxRecDepth 100000 in
theorem rdecC_far (ao : Option Addr) (n c : Nat) (w : World) (hn : 16384 < n) :
    Calls Tryz.prog 24 #[.slice ao n c] w fun e w' => e = .returned (.tuple #[rz, .int .i64 5]) ∧ Below w.heap.size w w' := by
  have d1 : decide ((16384 : Int) < n) = true := by simp; omega
  have d2 : decide (16384 < n) = true := by simp; omega
  have hz := zero52
  have r0 := rowIs_vals w (cf z20 nlv [] [] []) 24 52
  have HB : Hid (Below w.heap.size w (w.alloc (Obj.cells (vals (cf z20 nlv [] [] []) 24).toArray 52))) := new_below _ _
  clear hn
  go_enter Tryz.func24, Tryz.ntmps24
  go_wp2_with ((refine wpList_st rfl 52 _ _ rfl w.heap.size rfl (cf z20 nlv [] [] []) rfl r0 (by kernel_rfl) (cf_one _ _ _ _ _ rfl) ?_; intro w2 r2 f2; have HB2 : Hid (Below w.heap.size w w2) := new_fr f2; clear f2))
  refine bodyPost_ret (results_two (fn := Tryz.f24) (p := 2) (q := 3) (ty := 52) (by kernel_rfl) _ (by rfl) r2 Tryz.underlying52 rfl (by kernel_rfl)) rfl ⟨rfl, HB2.out⟩

/-- Bytes that no commit has. -/
def nocm (xs : List Int) : Prop := ∀ T DS A C M, IsId T → (∀ x ∈ DS, IsId x) → mb A C DS = true → enc T DS A C M ≠ tb xs

theorem rl_size (xs : List Int) (p : Nat) (wd : List UInt8) : (rl xs p wd).1.length ≤ xs.length := by
  unfold rl
  split
  · simp
  · rw [tb_len, List.length_take, List.length_drop]; omega

theorem rencC2 (T : List Int) (v : Value) (A C M : List UInt8) (d : Array (List Int)) (B : Nat) (w : World) (hT : IsId T) (hv : Dn B w v d) (hA : A.length ≤ 20000) (hC : C.length ≤ 20000) (hM : M.length ≤ 100000) (hd : d.size < 20000) :
    Calls Tryz.prog 42 #[cmv T v A C M] w fun e w' => ∃ ao n c, e = .returned (.tuple #[.slice ao n c, .int .i64 (ec A C M T d.toList)]) ∧ Rd w' ao n c (xc A C M T d.toList) ∧ Below w.heap.size w w' := by
  unfold xc ec
  by_cases hm : mb A C d.toList = true
  · rw [if_pos hm]
    refine (rencCommit_any T v A C M d B w hT hv hM hm).mono ?_
    rintro e w' ⟨ao, n, c, h1, h2, h3⟩
    refine ⟨ao, n, c, h1, ?_, h3⟩
    by_cases hl : (enc T d.toList A C M).length ≤ 16384
    · rw [if_pos hl, if_pos rfl]; rw [if_pos hl] at h2; exact h2
    · rw [if_neg hl, if_neg (by decide)]; rw [if_neg hl] at h2; exact h2
  · rw [if_neg hm]
    refine (rencCommit_no T v A C M d B w hv (by omega) (by omega) (by omega) (by simpa using hm)).mono ?_
    rintro e w' ⟨h1, h2⟩
    exact ⟨none, 0, 0, h1, by rw [if_neg (by decide)]; exact Rd.nil _, h2⟩

theorem wpList_stv26 {ops : Array Oper} {rest : List Oper} {op : Oper} {a : Act} {w : World} {Q : Exit → Act → World → Prop} (hgd : op.guard = none) (x y : Operand) (ho : op.op = .store 26 x y)
    (b o : Nat) (hx : a.eval x = .pointer (some ⟨b, o, none⟩)) (z : List Int) (hy : a.eval y = idv z) (ht : w.there b o 20) (w' : World) (hw' : w.setCells b o (vals (cl z) 20) = w')
    (hk : wpList Tryz.prog ops Q rest (a.put op.dst undef) w') : wpList Tryz.prog ops Q (op :: rest) a w := by
  subst hw'
  exact wpList_store_mid hgd 26 x y ho b o (vals (cl z) 20).toArray hx hy (by rw [vals_size]; exact ht) (by rw [vals_size]; kernel_rfl) (vals_one (cl z) 20 (fun _ => rfl)) hk

theorem set26 {w : World} {b : Nat} {t : List Int} {p : Value} {a c m : List UInt8} (h : w.rowIs b 52 24 (cf t p a c m)) (x : List Int) : (w.setCells b 0 (vals (cl x) 20)).rowIs b 52 24 (cf x p a c m) ∧ Fr (fun k => k = b) w (w.setCells b 0 (vals (cl x) 20)) := by
  refine ⟨(rowIs_setCells (vals (cl x) 20) 0 w _ h).congr (fun j hj => ?_), Fr.setCells (P := fun k => k = b) rfl _ _ _ _ (Fr.refl _ _)⟩
  rw [vals_len]
  unfold cf
  by_cases h20 : j < 20
  · rw [if_pos (by omega), if_pos h20, Nat.sub_zero, vals_get _ _ _ h20]
    rfl
  · rw [if_neg (by omega), if_neg h20, if_neg h20]

theorem ld50 (W : World) (ad : Addr) (a : Option Addr) (n c : Nat) (h : W.cell? ad = some (.slice a n c)) : (loadVar 50 ad).run Tryz.prog W = .ok (.slice a n c) W := by simp [go_sem, h]

theorem row_low {w w' : World} {b B t n : Nat} {f : Nat → Value} (h : w.rowIs b t n f) (hb : Below B w w') (hlt : b < B) : w'.rowIs b t n f := by
  have F : Fr (fun k => B ≤ k) w w' := ⟨hb.os, hb.tape, hb.output, hb.size, fun k hk hn => hb.block k (by omega)⟩
  exact rowIs_fr h F (by omega)

theorem wpList_st50 {ops : Array Oper} {rest : List Oper} {op : Oper} {a : Act} {w : World} {Q : Exit → Act → World → Prop} (hgd : op.guard = none) (x y : Operand) (ho : op.op = .store 50 x y) (b i : Nat) (hx : a.eval x = .pointer (some ⟨b, i, none⟩)) (p : Option Addr) (n c : Nat) (hy : a.eval y = .slice p n c)
    (u : Value) (hc : w.cell? ⟨b, i, none⟩ = some u) (hf : w.frozen? ⟨b, i, none⟩ = false) (w' : World) (hw' : w.setCell ⟨b, i, none⟩ (.slice p n c) = w') (hk : wpList Tryz.prog ops Q rest (a.put op.dst undef) w') : wpList Tryz.prog ops Q (op :: rest) a w := by
  refine wpList_plain hgd fun K hK => ?_
  subst hw'
  unfold Oper.wp
  simp only [execOp, ho, hx, hy]
  simp [go_sem, hc, hf]
  exact hK _ _ hk

theorem wpList_st9 {ops : Array Oper} {rest : List Oper} {op : Oper} {a : Act} {w : World} {Q : Exit → Act → World → Prop} (hgd : op.guard = none) (x y : Operand) (ho : op.op = .store 9 x y) (b i : Nat) (hx : a.eval x = .pointer (some ⟨b, i, none⟩)) (l : List UInt8) (hy : a.eval y = sv l)
    (u : Value) (hc : w.cell? ⟨b, i, none⟩ = some u) (hf : w.frozen? ⟨b, i, none⟩ = false) (w' : World) (hw' : w.setCell ⟨b, i, none⟩ (sv l) = w') (hk : wpList Tryz.prog ops Q rest (a.put op.dst undef) w') : wpList Tryz.prog ops Q (op :: rest) a w := by
  refine wpList_plain hgd fun K hK => ?_
  subst hw'
  unfold Oper.wp
  simp only [execOp, ho, hx, hy]
  simp [go_sem, hc, hf]
  exact hK _ _ hk

set_option maxRecDepth 100000 in
set_option maxHeartbeats 8000000 in
theorem rdecC_any (ao : Option Addr) (n c : Nat) (xs : List Int) (w : World) (hr : Rd w ao n c xs) (hn : n ≤ 16384)
    (l0 l1 l2 : List UInt8) (p0 p1 p2 q : Nat) (k0 k1 k2 kb : Bool) (T : List Int) (eT : Int) (DS : List (List Int))
    (h0 : rl xs 0 tre = (l0, p0, k0)) (hT : par (ns ⟨l0.toArray⟩) = (T, eT)) (hP : Rps xs p0 DS q kb) (h1 : rl xs q aut = (l1, p1, k1)) (h2 : rl xs p1 com = (l2, p2, k2))
    (hb1 : k0 = false ∨ eT ≠ 0 → nocm xs) (hb2 : kb = false → nocm xs) (hb3 : k1 = false ∨ k2 = false ∨ n ≤ p2 ∨ xs.getD p2 0 ≠ 10 → nocm xs) (hb4 : (mb l1 l2 DS = true → enc T DS l1 l2 (tb (xs.drop (p2 + 1))) ≠ tb xs) → nocm xs) :
    Calls Tryz.prog 24 #[.slice ao n c] w fun e w' => (e = .returned (.tuple #[rz, .int .i64 2]) ∧ nocm xs ∧ Below w.heap.size w w') ∨
      (∃ v, e = .returned (.tuple #[cmv T v l1 l2 (tb (xs.drop (p2 + 1))), .int .i64 0]) ∧ mb l1 l2 DS = true ∧ enc T DS l1 l2 (tb (xs.drop (p2 + 1))) = tb xs ∧ Dn w.heap.size w' v DS.toArray ∧ Below w.heap.size w w') := by
  have hz := zero52
  have d1 : decide ((16384 : Int) < n) = false := by simp; omega
  have d2 : decide (16384 < n) = false := by simp; omega
  obtain ⟨W, hW⟩ : ∃ W, W = (w.alloc (Obj.cells (vals (cf z20 nlv [] [] []) 24).toArray 52)).alloc (Obj.cells (vals (cf z20 nlv [] [] []) 24).toArray 52) := ⟨_, rfl⟩
  have bW : Below w.heap.size w W := by rw [hW]; exact (new_below _ _).alloc (by simp) _
  have r0 : W.rowIs w.heap.size 52 24 (cf z20 nlv [] [] []) := by rw [hW]; exact rowIs_fr (P := fun _ => False) (rowIs_vals w _ 24 52) (Fr.ofBelow (new_below _ _)) (fun h => h)
  have r1 : W.rowIs (w.heap.size + 1) 52 24 (cf z20 nlv [] [] []) := by rw [hW]; have := rowIs_vals (w.alloc (Obj.cells (vals (cf z20 nlv [] [] []) 24).toArray 52)) (cf z20 nlv [] [] []) 24 52; simpa using this
  have hlen := hr.len
  have HRD : Hid (∀ V : World, Below w.heap.size w V → Rd V ao n c xs) := fun V hV => hr.keep hV
  have HNN : Hid (xs.length = n ∧ n ≤ 16384) := ⟨hlen, hn⟩
  have HBW : Hid (Below w.heap.size w W) := bW
  have HWS : Hid (W.heap.size = w.heap.size + 2) := by show _ = _; rw [hW]; simp
  have HR0 : Hid (W.rowIs w.heap.size 52 24 (cf z20 nlv [] [] [])) := r0
  have HR1 : Hid (W.rowIs (w.heap.size + 1) 52 24 (cf z20 nlv [] [] [])) := r1
  have hL0 : Calls Tryz.prog 59 #[.slice ao n c, .int .i64 0, .string ⟨#[116, 114, 101, 101]⟩] W fun e w' => e = .returned (.tuple #[sv l0, .int .i64 p0, .bool k0]) ∧ w' = W := by
    have := rline_any ao n c xs 0 tre W (HRD.out W bW) (by omega) (by omega) (by decide)
    rw [h0] at this
    exact this
  have hp0 : p0 ≤ xs.length := by have := rl_le xs 0 tre (by omega); rw [h0] at this; exact this
  have HP0 : Hid (p0 ≤ n) := by show _ ≤ _; omega
  have HT : Hid (∀ V : World, Calls Tryz.prog 60 #[sv l0] V fun e w' => e = .returned (.tuple #[idv T, .int .i64 eT]) ∧ Below V.heap.size V w') := fun V => by
    have := rparse_any ⟨l0.toArray⟩ V
    rw [hT] at this
    exact this
  have HTI : Hid (IsId T) := by have := par_id (ns ⟨l0.toArray⟩); rw [hT] at this; exact this
  have HPS : Hid (Rps xs p0 DS q kb) := hP
  have HH1 : Hid (rl xs q aut = (l1, p1, k1)) := h1
  have HH2 : Hid (rl xs p1 com = (l2, p2, k2)) := h2
  have HX1 : Hid (k0 = false ∨ eT ≠ 0 → nocm xs) := hb1
  have HX2 : Hid (kb = false → nocm xs) := hb2
  have HX3 : Hid (k1 = false ∨ k2 = false ∨ n ≤ p2 ∨ xs.getD p2 0 ≠ 10 → nocm xs) := hb3
  have HX4 : Hid ((mb l1 l2 DS = true → enc T DS l1 l2 (tb (xs.drop (p2 + 1))) ≠ tb xs) → nocm xs) := hb4
  clear hr hn bW r0 r1 hlen hp0 h0 hT hP h1 h2 hb1 hb2 hb3 hb4
  go_enter Tryz.func24, Tryz.ntmps24
  go_wp2_with fail
  rw [← hW]
  clear hW
  refine hL0.mono ?_
  rintro e wx ⟨rfl, hwx⟩
  subst wx
  clear hL0
  go_wp2_with fail
  refine (HT.out W).mono ?_
  rintro e w1 ⟨rfl, b1⟩
  have HB1 : Hid (Below w.heap.size w w1) := HBW.out.trans (b1.mono HBW.out.size)
  have H10 : Hid (w1.rowIs w.heap.size 52 24 (cf z20 nlv [] [] [])) := rowIs_fr (P := fun _ => False) HR0.out (Fr.ofBelow b1) (fun h => h)
  have H11 : Hid (w1.rowIs (w.heap.size + 1) 52 24 (cf z20 nlv [] [] [])) := rowIs_fr (P := fun _ => False) HR1.out (Fr.ofBelow b1) (fun h => h)
  have HB1' : Hid (w.heap.size + 2 ≤ w1.heap.size) := by have := HWS.out; have := b1.size; show _ ≤ _; omega
  clear b1
  have HS1 : Hid (w.heap.size + 2 ≤ w1.heap.size) := by have := HB1'.out; show _ ≤ _; omega
  by_cases hk : k0 = true ∧ eT = 0
  · obtain ⟨rfl, rfl⟩ := hk
    go_wp2_with (first
      | (refine wpList_st rfl 26 _ _ rfl w1.heap.size rfl (cl T) rfl (z_row w1 26) (by kernel_rfl) (cl_one _) ?_; intro w2 r2 f2; have HB12 : Hid (Below w1.heap.size w1 w2) := new_fr f2; have HTR : Hid (w2.rowIs w1.heap.size 26 20 (cl T)) := r2; have ht11 := there_any (rowIs_fr (P := fun _ => False) H11.out (Fr.ofBelow HB12.out) (fun h => h)) 0 20 (by omega); have hl26 : (loadVar 26 ⟨w1.heap.size, 0, none⟩).run Tryz.prog w2 = .ok (idv T) w2 := load_all (P := Tryz.prog) 26 _ r2 Tryz.underlying26 rfl (by kernel_rfl); have s3 := set26 (rowIs_fr (P := fun _ => False) H11.out (Fr.ofBelow HB12.out) (fun h => h)) T; obtain ⟨w3, hw3⟩ : ∃ V, w2.setCells (w.heap.size + 1) 0 (vals (cl T) 20) = V := ⟨_, rfl⟩; rw [hw3] at s3; clear f2 r2)
      | (refine wpList_ldv rfl 26 _ rfl ⟨w1.heap.size, 0, none⟩ rfl (idv T) hl26 ?_; clear hl26)
      | (refine wpList_stv26 rfl _ _ rfl (w.heap.size + 1) 0 rfl T rfl ht11 w3 hw3 ?_))
    have HB3 : Hid (Below w.heap.size w w3) := (HB1.out.trans (HB12.out.mono HB1.out.size)).trans (by
      have h1 : Fr (fun k => k = w.heap.size + 1) w2 w3 := s3.2
      exact h1.below w.heap.size (by have := HB12.out.size; have := HS1.out; omega) (fun i hi e => by omega))
    have H31 : Hid (w3.rowIs (w.heap.size + 1) 52 24 (cf T nlv [] [] [])) := s3.1
    have H30 : Hid (w3.rowIs w.heap.size 52 24 (cf z20 nlv [] [] [])) := rowIs_fr (rowIs_fr (P := fun _ => False) H10.out (Fr.ofBelow HB12.out) (fun h => h)) s3.2 (fun e => by omega)
    have HS3 : Hid (w.heap.size + 2 ≤ w3.heap.size) := by have := HS1.out; have := HB12.out.size; have := s3.2.size; show _ ≤ _; omega
    clear s3 hw3 ht11
    simp only [Act.put]
    go_loopw [6] (fun s6 wr => ∃ (p : Nat) (ds : Array (List Int)) (rest : List (List Int)) (v : Value), s6 = .int .i64 (p : Int) ∧ p ≤ n ∧ Hid (wr.rowIs w.heap.size 52 24 (cf z20 nlv [] [] [])) ∧ Hid (wr.rowIs (w.heap.size + 1) 52 24 (cf T v [] [] [])) ∧ Hid (Dn (w.heap.size + 2) wr v ds) ∧ Hid (Rps xs p rest q kb) ∧ Hid (ds.toList ++ rest = DS) ∧ Hid (Below w.heap.size w wr) ∧ Hid (w.heap.size + 2 ≤ wr.heap.size)) (fun s6 _ => n - (intOf s6).toNat)
    case atStart => exact ⟨p0, #[], DS, nlv, rfl, HP0.out, H30, H31, dn_nil _ _, HPS, by show _ = _; simp, HB3, HS3⟩
    case round =>
      obtain ⟨p, ds, rest, v, rfl, hpn, HA0, HA1, HAD, HAP, HAE, HAB, HAS⟩ := hrel
      obtain ⟨va, vc, hv⟩ := HAD.out.shape
      obtain ⟨dn, hdn⟩ : ∃ dn, dn = ds.size := ⟨_, rfl⟩
      rw [← hdn] at hv
      subst hv
      obtain ⟨l, pp, kp, hl⟩ : ∃ l pp kp, rl xs p pnt = (l, pp, kp) := ⟨_, _, _, rfl⟩
      have HLN : Hid (rl xs p pnt = (l, pp, kp)) := hl
      have hcall : Calls Tryz.prog 59 #[.slice ao n c, .int .i64 (p : Int), .string ⟨#[112, 97, 114, 101, 110, 116]⟩] wr fun e w' => e = .returned (.tuple #[sv l, .int .i64 pp, .bool kp]) ∧ w' = wr := by
        have := rline_any ao n c xs p pnt wr (HRD.out wr HAB.out) (by have := HNN.out; omega) hpn (by decide)
        rw [hl] at this
        exact this
      have HPN : Hid (p ≤ n ∧ dn = ds.size) := ⟨hpn, hdn⟩
      clear hl hpn hdn
      go_wp2_with fail
      refine hcall.mono ?_
      rintro e wx ⟨rfl, hwx⟩
      subst wx
      clear hcall
      cases kp with
      | false =>
        have hst : rest = [] ∧ q = p := by
          have h := rps_at HAP.out
          rw [HLN.out] at h
          rcases h with ⟨_, h1, h2, _⟩ | ⟨h0, _⟩ | ⟨h0, _⟩
          · exact ⟨h1, h2⟩
          · cases h0
          · cases h0
        obtain ⟨hre, rfl⟩ := hst
        subst hre
        have HDS : Hid (ds.toList = DS) := by have := HAE.out; show _ = _; rw [← this]; simp
        have hc1 : Calls Tryz.prog 59 #[.slice ao n c, .int .i64 (q : Int), .string ⟨#[97, 117, 116, 104, 111, 114]⟩] wr fun e w' => e = .returned (.tuple #[sv l1, .int .i64 p1, .bool k1]) ∧ w' = wr := by
          have := rline_any ao n c xs q aut wr (HRD.out wr HAB.out) (by have := HNN.out; omega) HPN.out.1 (by decide)
          rw [HH1.out] at this
          exact this
        have hp1 : p1 ≤ xs.length := by have := rl_le xs q aut (by have := HPN.out; have := HNN.out; omega); rw [HH1.out] at this; exact this
        have hc2 : Calls Tryz.prog 59 #[.slice ao n c, .int .i64 (p1 : Int), .string ⟨#[99, 111, 109, 109, 105, 116, 116, 101, 114]⟩] wr fun e w' => e = .returned (.tuple #[sv l2, .int .i64 p2, .bool k2]) ∧ w' = wr := by
          have := rline_any ao n c xs p1 com wr (HRD.out wr HAB.out) (by have := HNN.out; omega) (by have := HNN.out; omega) (by decide)
          rw [HH2.out] at this
          exact this
        have hp2 : p2 ≤ xs.length := by have := rl_le xs p1 com hp1; rw [HH2.out] at this; exact this
        have HP12 : Hid (p1 ≤ n ∧ p2 ≤ n) := by have := HNN.out; exact ⟨by omega, by omega⟩
        clear hp1 hp2
        go_wp2_with fail
        refine hc1.mono ?_
        rintro e wx ⟨rfl, hwx⟩
        subst wx
        clear hc1
        go_wp2_with fail
        refine hc2.mono ?_
        rintro e wx ⟨rfl, hwx⟩
        subst wx
        clear hc2
        by_cases hbad : k1 = false ∨ k2 = false ∨ n ≤ p2 ∨ xs.getD p2 0 ≠ 10
        · have HNO : Hid (nocm xs) := HX3.out hbad
          cases k1 with
          | false =>
            clear hbad
            go_wp2_with (refine wpList_st rfl 52 _ _ rfl w.heap.size rfl (cf z20 nlv [] [] []) rfl HA0.out (by kernel_rfl) (cf_one _ _ _ _ _ rfl) ?_; intro w9 r9 f9; have HB9 : Hid (Below w.heap.size w w9) := st_below HAB.out f9; clear f9)
            refine bodyPost_ret (results_two (fn := Tryz.f24) (p := 2) (q := 3) (ty := 52) (by kernel_rfl) _ (by rfl) r9 Tryz.underlying52 rfl (by kernel_rfl)) rfl (.inl ⟨rfl, HNO.out, HB9.out⟩)
          | true =>
            cases k2 with
            | false =>
              clear hbad
              go_wp2_with (refine wpList_st rfl 52 _ _ rfl w.heap.size rfl (cf z20 nlv [] [] []) rfl HA0.out (by kernel_rfl) (cf_one _ _ _ _ _ rfl) ?_; intro w9 r9 f9; have HB9 : Hid (Below w.heap.size w w9) := st_below HAB.out f9; clear f9)
              refine bodyPost_ret (results_two (fn := Tryz.f24) (p := 2) (q := 3) (ty := 52) (by kernel_rfl) _ (by rfl) r9 Tryz.underlying52 rfl (by kernel_rfl)) rfl (.inl ⟨rfl, HNO.out, HB9.out⟩)
            | true =>
              by_cases hp : n ≤ p2
              · have g1 : decide ((n : Int) ≤ (p2 : Int)) = true := by simp; omega
                have g2 : decide (n ≤ p2) = true := by simp; omega
                clear hbad hp
                go_wp2_with (refine wpList_st rfl 52 _ _ rfl w.heap.size rfl (cf z20 nlv [] [] []) rfl HA0.out (by kernel_rfl) (cf_one _ _ _ _ _ rfl) ?_; intro w9 r9 f9; have HB9 : Hid (Below w.heap.size w w9) := st_below HAB.out f9; clear f9)
                refine bodyPost_ret (results_two (fn := Tryz.f24) (p := 2) (q := 3) (ty := 52) (by kernel_rfl) _ (by rfl) r9 Tryz.underlying52 rfl (by kernel_rfl)) rfl (.inl ⟨rfl, HNO.out, HB9.out⟩)
              · obtain ⟨b, off, rfl, hcl⟩ := (HRD.out wr HAB.out).plain (by omega)
                have cj := hcl p2 (by omega)
                obtain ⟨z, hz⟩ : ∃ z, z = xs.getD p2 0 := ⟨_, rfl⟩
                have z1 : (z == 10) = false := by
                  rw [hz]
                  rcases hbad with h | h | h | h
                  · cases h
                  · cases h
                  · omega
                  · simpa using h
                rw [← hz] at cj
                have g1 : decide ((n : Int) ≤ (p2 : Int)) = false := by simp; omega
                have g2 : decide (n ≤ p2) = false := by simp; omega
                have x1 : (p2 : Int) < n := by omega
                have x2 : p2 < n := by omega
                clear hbad hp hcl hz
                go_wp2_with (refine wpList_st rfl 52 _ _ rfl w.heap.size rfl (cf z20 nlv [] [] []) rfl HA0.out (by kernel_rfl) (cf_one _ _ _ _ _ rfl) ?_; intro w9 r9 f9; have HB9 : Hid (Below w.heap.size w w9) := st_below HAB.out f9; clear f9)
                refine bodyPost_ret (results_two (fn := Tryz.f24) (p := 2) (q := 3) (ty := 52) (by kernel_rfl) _ (by rfl) r9 Tryz.underlying52 rfl (by kernel_rfl)) rfl (.inl ⟨rfl, HNO.out, HB9.out⟩)
        · have hk1 : k1 = true := by cases k1; exact absurd (.inl rfl) hbad; rfl
          have hk2 : k2 = true := by cases k2; exact absurd (.inr (.inl rfl)) hbad; rfl
          subst hk1
          subst hk2
          have hp : p2 < n := by
            rcases Nat.lt_or_ge p2 n with h | h
            · exact h
            · exact absurd (.inr (.inr (.inl h))) hbad
          have hz : xs.getD p2 0 = 10 := by
            by_cases h : xs.getD p2 0 = 10
            · exact h
            · exact absurd (.inr (.inr (.inr h))) hbad
          obtain ⟨b, off, rfl, hcl⟩ := (HRD.out wr HAB.out).plain (by omega)
          have cj := hcl p2 hp
          rw [hz] at cj
          have g1 : decide ((n : Int) ≤ (p2 : Int)) = false := by simp; omega
          have g2 : decide (n ≤ p2) = false := by simp; omega
          have x1 : (p2 : Int) < n := by omega
          have x2 : p2 < n := by omega
          obtain ⟨P, hP⟩ : ∃ P, P = p2 + 1 := ⟨_, rfl⟩
          have y1 : IntKind.i64.wrap ((p2 : Int) + 1) = (P : Int) := by rw [IntKind.wrap_i64]; have := HNN.out; omega
          obtain ⟨m, hm⟩ : ∃ m, m = n - P := ⟨_, rfl⟩
          have HPM : Hid (P + m = n ∧ P = p2 + 1) := ⟨by omega, hP⟩
          obtain ⟨M, hM⟩ : ∃ M, M = tb (xs.drop (p2 + 1)) := ⟨_, rfl⟩
          have HM : Hid (M = tb (xs.drop (p2 + 1)) ∧ tb ((xs.drop P).take m) = M) := ⟨hM, by rw [List.take_of_length_le (by rw [List.length_drop]; have := HNN.out; omega), hM, hP]⟩
          have c1 := HA1.out.cell (i := 21) (by omega)
          have z1 := World.rowIs.frozen HA1.out 21
          obtain ⟨wA, hwA⟩ : ∃ V, wr.setCell ⟨w.heap.size + 1, 21, none⟩ (sv l1) = V := ⟨_, rfl⟩
          have sA := set_row HA1.out 21 (sv l1) (cf21 T (.slice va dn vc) [] [] [] l1)
          have fA := set_fr wr (w.heap.size + 1) 21 (sv l1)
          rw [hwA] at sA fA
          have c2 := World.rowIs.cell sA (i := 22) (by omega)
          have z2 := World.rowIs.frozen sA 22
          obtain ⟨wB, hwB⟩ : ∃ V, wA.setCell ⟨w.heap.size + 1, 22, none⟩ (sv l2) = V := ⟨_, rfl⟩
          have sB := set_row sA 22 (sv l2) (cf22 T (.slice va dn vc) l1 [] [] l2)
          have fB := set_fr wA (w.heap.size + 1) 22 (sv l2)
          rw [hwB] at sB fB
          have c3 := World.rowIs.cell sB (i := 23) (by omega)
          have z3 := World.rowIs.frozen sB 23
          obtain ⟨wC, hwC⟩ : ∃ V, wB.setCell ⟨w.heap.size + 1, 23, none⟩ (sv M) = V := ⟨_, rfl⟩
          have sC := set_row sB 23 (sv M) (cf23 T (.slice va dn vc) l1 l2 [] M)
          have fC := set_fr wB (w.heap.size + 1) 23 (sv M)
          rw [hwC] at sC fC
          have fAC := (fA.trans fB (fun _ _ h => h)).trans fC (fun _ _ h => h)
          have HBC : Hid (Below w.heap.size w wC) := HAB.out.trans (fAC.below w.heap.size HAB.out.size (fun i hi e => by omega))
          have HC0 : Hid (wC.rowIs w.heap.size 52 24 (cf z20 nlv [] [] [])) := rowIs_fr HA0.out fAC (fun e => by omega)
          have HDC : Hid (Dn (w.heap.size + 2) wC (.slice va dn vc) ds) := ⟨ownsRow_fr HAD.out.own fAC (fun k hk e => by have := (HAD.out.own.lt k hk).1; omega), HAD.out.ids⟩
          have hRB : Rd wB (some ⟨b, off, none⟩) n c xs := HRD.out wB (HAB.out.trans ((fA.trans fB (fun _ _ h => h)).below w.heap.size HAB.out.size (fun i hi e => by omega)))
          have HRB : Hid (Rd wB (some ⟨b, off, none⟩) n c xs) := hRB
          have hl52 : (loadVar 52 ⟨w.heap.size + 1, 0, none⟩).run Tryz.prog wC = .ok (cmv T (.slice va dn vc) l1 l2 M) wC := load_all (P := Tryz.prog) 52 _ sC Tryz.underlying52 rfl (by kernel_rfl)
          have HSC : Hid (wC.rowIs (w.heap.size + 1) 52 24 (cf T (.slice va dn vc) l1 l2 M)) := sC
          clear hbad hp hz hcl hP hm hM sA fA sB fB sC fC fAC hRB
          go_wp2_with (first
            | (refine wpList_st9 rfl _ _ rfl (w.heap.size + 1) 21 rfl l1 rfl _ c1 z1 wA hwA ?_; clear c1 z1 hwA)
            | (refine wpList_st9 rfl _ _ rfl (w.heap.size + 1) 22 rfl l2 rfl _ c2 z2 wB hwB ?_; clear c2 z2 hwB)
            | (refine wpList_subW (by kernel_rfl) _ _ _ rfl HRB.out P m (by have := HPM.out; omega) rfl (.inl rfl) (.inr ⟨rfl, HPM.out.1⟩) ?_; intro a5 c5 rd5; have HR5 : Hid _ := rd5; clear rd5)
            | (refine wpList_convW (by kernel_rfl) _ rfl HR5.out rfl M HM.out.2 ?_)
            | (refine wpList_st9 rfl _ _ rfl (w.heap.size + 1) 23 rfl M rfl _ c3 z3 wC hwC ?_; clear c3 z3 hwC)
            | (refine wpList_ldv rfl 52 _ rfl ⟨w.heap.size + 1, 0, none⟩ rfl (cmv T (.slice va dn vc) l1 l2 M) hl52 ?_; clear hl52))
          obtain ⟨er, her⟩ : ∃ er, er = ec l1 l2 M T ds.toList := ⟨_, rfl⟩
          obtain ⟨X, hX⟩ : ∃ X, X = xc l1 l2 M T ds.toList := ⟨_, rfl⟩
          have HEX : Hid (er = ec l1 l2 M T ds.toList ∧ X = xc l1 l2 M T ds.toList) := ⟨her, hX⟩
          have hen := rencC2 T (.slice va dn vc) l1 l2 M ds (w.heap.size + 2) wC HTI.out HDC.out (by have h := rl_size xs q aut; rw [HH1.out] at h; have h' : l1.length ≤ xs.length := h; have := HNN.out; omega) (by have h := rl_size xs p1 com; rw [HH2.out] at h; have h' : l2.length ≤ xs.length := h; have := HNN.out; omega) (by rw [HM.out.1, tb_len, List.length_drop]; have := HNN.out; omega) (by
            have h1 := congrArg List.length HDS.out
            have h2 := HPS.out.le (by have := HP0.out; have := HNN.out; omega)
            have := HNN.out
            simp at h1
            omega)
          rw [← her, ← hX] at hen
          clear her hX
          refine hen.mono ?_
          rintro e w6 ⟨o6, n6, q6, rfl, rd6, b6⟩
          have HB6 : Hid (Below w.heap.size w w6) := HBC.out.trans (b6.mono HBC.out.size)
          have H60 : Hid (w6.rowIs w.heap.size 52 24 (cf z20 nlv [] [] [])) := rowIs_fr (P := fun _ => False) HC0.out (Fr.ofBelow b6) (fun h => h)
          have H61 : Hid (w6.rowIs (w.heap.size + 1) 52 24 (cf T (.slice va dn vc) l1 l2 M)) := rowIs_fr (P := fun _ => False) HSC.out (Fr.ofBelow b6) (fun h => h)
          have H6D : Hid (Dn (w.heap.size + 2) w6 (.slice va dn vc) ds) := HDC.out.keep b6
          have HR6 : Hid (Rd w6 o6 n6 q6 X) := rd6
          have HRB6 : Hid (Rd w6 (some ⟨b, off, none⟩) n c xs) := HRD.out w6 HB6.out
          clear hen rd6 b6
          by_cases he : er = 0
          · obtain ⟨E, hE⟩ : ∃ E, E = enc T DS l1 l2 M := ⟨_, rfl⟩
            obtain ⟨G, hG⟩ : ∃ G, G = tb xs := ⟨_, rfl⟩
            have hz := ec_zero (HEX.out.1.symm.trans he)
            have HME : Hid (mb l1 l2 DS = true ∧ E = enc T DS l1 l2 M) := ⟨by rw [← HDS.out]; exact hz.1, hE⟩
            have HXE : Hid (tb X = E) := by show _ = _; rw [HEX.out.2, hz.2.2, tb_tn, hE, HDS.out]
            have HG : Hid (tb xs = G) := hG.symm
            subst he
            by_cases heq : E = G
            · have hl52 : (loadVar 52 ⟨w.heap.size + 1, 0, none⟩).run Tryz.prog w6 = .ok (cmv T (.slice va dn vc) l1 l2 M) w6 := load_all (P := Tryz.prog) 52 _ H61.out Tryz.underlying52 rfl (by kernel_rfl)
              have HEG : Hid (E = G) := heq
              have g5 : (E == G) = true := by simp [heq]
              clear hz hE hG heq
              go_wp2_with (first
                | (refine wpList_convW (by kernel_rfl) _ rfl HR6.out rfl E HXE.out ?_)
                | (refine wpList_convW (by kernel_rfl) _ rfl HRB6.out rfl G HG.out ?_)
                | (refine wpList_ldv rfl 52 _ rfl ⟨w.heap.size + 1, 0, none⟩ rfl (cmv T (.slice va dn vc) l1 l2 M) hl52 ?_; clear hl52)
                | (refine wpList_st rfl 52 _ _ rfl w.heap.size rfl (cf T (.slice va dn vc) l1 l2 M) rfl H60.out (by kernel_rfl) (cf_one _ _ _ _ _ rfl) ?_; intro w9 r9 f9; have HB9 : Hid (Below w.heap.size w w9) := st_below HB6.out f9; have HD9 : Hid (Dn (w.heap.size + 2) w9 (.slice va dn vc) ds) := ⟨ownsRow_fr H6D.out.own f9 (fun k hk e => by have := (H6D.out.own.lt k hk).1; omega), H6D.out.ids⟩; clear f9))
              refine bodyPost_ret (results_two (fn := Tryz.f24) (p := 2) (q := 3) (ty := 52) (by kernel_rfl) _ (by rfl) r9 Tryz.underlying52 rfl (by kernel_rfl)) rfl (.inr ⟨_, by rw [← HM.out.1]; rfl, HME.out.1, by rw [← HM.out.1, ← HME.out.2, HEG.out, HG.out], ?_, HB9.out⟩)
              have hd : ds = DS.toArray := by rw [← HDS.out]
              rw [← hd]
              exact HD9.out.weak (by omega)
            · have HNO : Hid (nocm xs) := HX4.out (fun _ h => heq (by rw [HME.out.2, HM.out.1, h, HG.out]))
              have g5 : (E == G) = false := by simpa using heq
              clear hz hE hG heq
              go_wp2_with (first
                | (refine wpList_convW (by kernel_rfl) _ rfl HR6.out rfl E HXE.out ?_)
                | (refine wpList_convW (by kernel_rfl) _ rfl HRB6.out rfl G HG.out ?_)
                | (refine wpList_st rfl 52 _ _ rfl w.heap.size rfl (cf z20 nlv [] [] []) rfl H60.out (by kernel_rfl) (cf_one _ _ _ _ _ rfl) ?_; intro w9 r9 f9; have HB9 : Hid (Below w.heap.size w w9) := st_below HB6.out f9; clear f9))
              refine bodyPost_ret (results_two (fn := Tryz.f24) (p := 2) (q := 3) (ty := 52) (by kernel_rfl) _ (by rfl) r9 Tryz.underlying52 rfl (by kernel_rfl)) rfl (.inl ⟨rfl, HNO.out, HB9.out⟩)
          · have HNO : Hid (nocm xs) := HX4.out (fun hmb henc => by
              apply he
              rw [HEX.out.1]
              unfold ec
              rw [HDS.out, if_pos hmb, if_pos (by rw [HM.out.1, henc, tb_len]; have := HNN.out; omega)])
            have e0 : (er == 0) = false := by simpa using he
            go_wp2_with (refine wpList_st rfl 52 _ _ rfl w.heap.size rfl (cf z20 nlv [] [] []) rfl H60.out (by kernel_rfl) (cf_one _ _ _ _ _ rfl) ?_; intro w9 r9 f9; have HB9 : Hid (Below w.heap.size w w9) := st_below HB6.out f9; clear f9)
            refine bodyPost_ret (results_two (fn := Tryz.f24) (p := 2) (q := 3) (ty := 52) (by kernel_rfl) _ (by rfl) r9 Tryz.underlying52 rfl (by kernel_rfl)) rfl (.inl ⟨rfl, HNO.out, HB9.out⟩)
      | true =>
        obtain ⟨D, eD, hD⟩ : ∃ D eD, par (ns ⟨l.toArray⟩) = (D, eD) := ⟨_, _, rfl⟩
        have HDI : Hid (IsId D) := by have := par_id (ns ⟨l.toArray⟩); rw [hD] at this; exact this
        have HPA : Hid (∀ V : World, Calls Tryz.prog 60 #[sv l] V fun e w' => e = .returned (.tuple #[idv D, .int .i64 eD]) ∧ Below V.heap.size V w') := fun V => by
          have := rparse_any ⟨l.toArray⟩ V
          rw [hD] at this
          exact this
        have HST : Hid ((eD ≠ 0 → kb = false) ∧ (eD = 0 → ∃ rest', rest = D :: rest' ∧ Rps xs pp rest' q kb)) := by
          have h := rps_at HAP.out
          rw [HLN.out] at h
          rcases h with ⟨h0, _⟩ | ⟨_, h0, _, _, h3⟩ | ⟨_, h0, r', h1, h2⟩
          · cases h0
          · rw [hD] at h0
            exact ⟨fun _ => h3, fun e => absurd e h0⟩
          · rw [hD] at h0 h1
            exact ⟨fun e => absurd h0 e, fun _ => ⟨r', h1, h2⟩⟩
        have HPQ : Hid (p < pp ∧ pp ≤ n) := by
          have h1 := rl_gt xs p pnt (by rw [HLN.out])
          have h2 := rl_le xs p pnt (by have := HPN.out; have := HNN.out; omega)
          rw [HLN.out] at h1 h2
          have := HNN.out
          have h3 : pp ≤ xs.length := h2
          exact ⟨h1, by omega⟩
        clear hD
        go_wp2_with fail
        refine (HPA.out wr).mono ?_
        rintro e w4 ⟨rfl, b4⟩
        have HB4 : Hid (Below w.heap.size w w4) := HAB.out.trans (b4.mono HAB.out.size)
        have H40 : Hid (w4.rowIs w.heap.size 52 24 (cf z20 nlv [] [] [])) := rowIs_fr (P := fun _ => False) HA0.out (Fr.ofBelow b4) (fun h => h)
        have H41 : Hid (w4.rowIs (w.heap.size + 1) 52 24 (cf T (.slice va dn vc) [] [] [])) := rowIs_fr (P := fun _ => False) HA1.out (Fr.ofBelow b4) (fun h => h)
        have H4D : Hid (Dn (w.heap.size + 2) w4 (.slice va dn vc) ds) := HAD.out.keep b4
        have HS4 : Hid (w.heap.size + 2 ≤ w4.heap.size) := by have := HAS.out; have := b4.size; show _ ≤ _; omega
        clear b4
        by_cases he : eD = 0
        · subst he
          obtain ⟨rest', hrest, hps'⟩ := HST.out.2 rfl
          have HRE : Hid (rest = D :: rest') := hrest
          have HPS' : Hid (Rps xs pp rest' q kb) := hps'
          have HSZ : Hid (dn < 20000) := by
            have h1 := congrArg List.length HAE.out
            have h2 := HPS.out.le (by have := HP0.out; have := HNN.out; omega)
            rw [List.length_append] at h1
            have := HPN.out
            have := HNN.out
            simp at h1
            show _ < _
            omega
          clear hrest hps'
          go_wp2_with (first
            | (refine wpList_st rfl 26 _ _ rfl w4.heap.size rfl (cl D) rfl (z_row w4 26) (by kernel_rfl) (cl_one _) ?_; intro w5 r5 f5; have HB5 : Hid (Below w4.heap.size w4 w5) := new_fr f5; have HF5 : Hid (Below w.heap.size w w5) := HB4.out.trans (HB5.out.mono HB4.out.size); have H50 : Hid (w5.rowIs w.heap.size 52 24 (cf z20 nlv [] [] [])) := rowIs_fr (P := fun _ => False) H40.out (Fr.ofBelow HB5.out) (fun h => h); have H51 : Hid (w5.rowIs (w.heap.size + 1) 52 24 (cf T (.slice va dn vc) [] [] [])) := rowIs_fr (P := fun _ => False) H41.out (Fr.ofBelow HB5.out) (fun h => h); have c5 := H51.out.cell (i := 20) (by omega); have H5D : Hid (Dn (w.heap.size + 2) w5 (.slice va dn vc) ds) := H4D.out.keep HB5.out; have hl26 : (loadVar 26 ⟨w4.heap.size, 0, none⟩).run Tryz.prog w5 = .ok (idv D) w5 := load_all (P := Tryz.prog) 26 _ r5 Tryz.underlying26 rfl (by kernel_rfl); have hl50 : (loadVar 50 ⟨w.heap.size + 1, 20, none⟩).run Tryz.prog w5 = .ok (.slice va dn vc) w5 := ld50 _ _ _ _ _ c5; clear f5 r5 c5)
            | (refine wpList_ldv rfl 50 _ rfl ⟨w.heap.size + 1, 20, none⟩ rfl (.slice va dn vc) hl50 ?_; clear hl50)
            | (refine wpList_ldv rfl 26 _ rfl ⟨w4.heap.size, 0, none⟩ rfl (idv D) hl26 ?_; clear hl26)
            | (refine wpList_bs1 rfl _ rfl D rfl ?_; intro w6 hw6; have HW6 : Hid _ := hw6; clear hw6)
            | (refine wpList_app1 (w0 := w5) rfl _ _ rfl (w.heap.size + 2) _ ds D HDI.out rfl rfl HW6.out H5D.out (by have := HSZ.out; have := HPN.out; omega) (by have := HS4.out; have := HB5.out.size; omega) ?_; intro v7 w7 g1 g2; have HV7 : Hid (Dn (w.heap.size + 2) w7 v7 (ds.push D)) := g1; have HB7 : Hid (Below (w.heap.size + 2) w5 w7) := g2; clear g1 g2; obtain ⟨va7, vc7, hv7⟩ := HV7.out.shape; subst hv7; have H71 : Hid (w7.rowIs (w.heap.size + 1) 52 24 (cf T (.slice va dn vc) [] [] [])) := row_low H51.out HB7.out (by omega); have H70 : Hid (w7.rowIs w.heap.size 52 24 (cf z20 nlv [] [] [])) := row_low H50.out HB7.out (by omega); have c7 := H71.out.cell (i := 20) (by omega); have z7 := World.rowIs.frozen H71.out 20))
          have hsz : (ds.push D).size = ds.size + 1 := Array.size_push ..
          have hV8 := HV7.out
          rw [hsz] at hV8
          have s8 := set_row H71.out 20 (.slice va7 (ds.size + 1) vc7) (cf20 T (.slice va dn vc) (.slice va7 (ds.size + 1) vc7) [] [] [])
          have f8 := set_fr w7 (w.heap.size + 1) 20 (.slice va7 (ds.size + 1) vc7)
          refine ⟨⟨pp, ds.push D, rest', .slice va7 (ds.size + 1) vc7, rfl, HPQ.out.2, rowIs_fr H70.out f8 (fun e => by omega), s8, ⟨ownsRow_fr hV8.own f8 (fun k hk e => by have := (hV8.own.lt k hk).1; omega), hV8.ids⟩, HPS', ?_, ?_, ?_⟩, ?_⟩
          · show _ = _
            rw [← HAE.out, HRE.out]
            simp
          · have hb : Below w.heap.size w w7 := HF5.out.trans (HB7.out.mono (by omega))
            exact hb.trans (f8.below w.heap.size hb.size (fun i hi e => by omega))
          · have := HS4.out
            have := HB5.out.size
            have := HB7.out.size
            have := f8.size
            show _ ≤ _
            omega
          · simp [intOf]
            have := HPQ.out
            omega
        · have e0 : (eD == 0) = false := by simpa using he
          have HNO : Hid (nocm xs) := HX2.out (HST.out.1 he)
          clear he
          go_wp2_with (first
            | (refine wpList_st rfl 26 _ _ rfl w4.heap.size rfl (cl D) rfl (z_row w4 26) (by kernel_rfl) (cl_one _) ?_; intro w5 r5 f5; have HB5 : Hid (Below w4.heap.size w4 w5) := new_fr f5; have HF5 : Hid (Below w.heap.size w w5) := HB4.out.trans (HB5.out.mono HB4.out.size); have H50 : Hid (w5.rowIs w.heap.size 52 24 (cf z20 nlv [] [] [])) := rowIs_fr (P := fun _ => False) H40.out (Fr.ofBelow HB5.out) (fun h => h); clear f5 r5)
            | (refine wpList_st rfl 52 _ _ rfl w.heap.size rfl (cf z20 nlv [] [] []) rfl H50.out (by kernel_rfl) (cf_one _ _ _ _ _ rfl) ?_; intro w9 r9 f9; have HB9 : Hid (Below w.heap.size w w9) := st_below HF5.out f9; clear f9))
          refine bodyPost_ret (results_two (fn := Tryz.f24) (p := 2) (q := 3) (ty := 52) (by kernel_rfl) _ (by rfl) r9 Tryz.underlying52 rfl (by kernel_rfl)) rfl (.inl ⟨rfl, HNO.out, HB9.out⟩)
  · have HNO : Hid (nocm xs) := HX1.out (by
      by_cases h : k0 = true
      · exact .inr (fun h0 => hk ⟨h, h0⟩)
      · exact .inl (by simpa using h))
    cases k0 with
    | false =>
      clear hk
      go_wp2_with (first
        | (refine wpList_st rfl 26 _ _ rfl w1.heap.size rfl (cl T) rfl (z_row w1 26) (by kernel_rfl) (cl_one _) ?_; intro w2 r2 f2; have HB12 : Hid (Below w1.heap.size w1 w2) := new_fr f2; have HB2 : Hid (Below w.heap.size w w2) := HB1.out.trans (HB12.out.mono HB1.out.size); have H20 : Hid (w2.rowIs w.heap.size 52 24 (cf z20 nlv [] [] [])) := rowIs_fr (P := fun _ => False) H10.out (Fr.ofBelow HB12.out) (fun h => h); clear f2 r2)
        | (refine wpList_st rfl 52 _ _ rfl w.heap.size rfl (cf z20 nlv [] [] []) rfl H20.out (by kernel_rfl) (cf_one _ _ _ _ _ rfl) ?_; intro w9 r9 f9; have HB9 : Hid (Below w.heap.size w w9) := st_below HB2.out f9; clear f9))
      refine bodyPost_ret (results_two (fn := Tryz.f24) (p := 2) (q := 3) (ty := 52) (by kernel_rfl) _ (by rfl) r9 Tryz.underlying52 rfl (by kernel_rfl)) rfl (.inl ⟨rfl, HNO.out, HB9.out⟩)
    | true =>
      have e0 : (eT == 0) = false := by simpa using hk
      clear hk
      go_wp2_with (first
        | (refine wpList_st rfl 26 _ _ rfl w1.heap.size rfl (cl T) rfl (z_row w1 26) (by kernel_rfl) (cl_one _) ?_; intro w2 r2 f2; have HB12 : Hid (Below w1.heap.size w1 w2) := new_fr f2; have HB2 : Hid (Below w.heap.size w w2) := HB1.out.trans (HB12.out.mono HB1.out.size); have H20 : Hid (w2.rowIs w.heap.size 52 24 (cf z20 nlv [] [] [])) := rowIs_fr (P := fun _ => False) H10.out (Fr.ofBelow HB12.out) (fun h => h); clear f2 r2)
        | (refine wpList_st rfl 52 _ _ rfl w.heap.size rfl (cf z20 nlv [] [] []) rfl H20.out (by kernel_rfl) (cf_one _ _ _ _ _ rfl) ?_; intro w9 r9 f9; have HB9 : Hid (Below w.heap.size w w9) := st_below HB2.out f9; clear f9))
      refine bodyPost_ret (results_two (fn := Tryz.f24) (p := 2) (q := 3) (ty := 52) (by kernel_rfl) _ (by rfl) r9 Tryz.underlying52 rfl (by kernel_rfl)) rfl (.inl ⟨rfl, HNO.out, HB9.out⟩)

end Go.Proofs.YtojgablpjdlegaaGreatDoor

/- The document's lines where a commit was written. -/
namespace Go.Proofs.YtojgablpjdlegaaGreatDoor
open Go.RowKit Go.Shelf

theorem tw_pre (z : Int) (a r : List Int) (h : ∀ x ∈ a, x ≠ z) : (a ++ z :: r).takeWhile (fun x => !decide (x = z)) = a := by
  induction a with
  | nil => simp
  | cons x a ih =>
    have hx := h x (by simp)
    simp [hx]
    exact ih (fun y hy => h y (by simp [hy]))

theorem tn_no10 (l : List UInt8) (h : ∀ b ∈ l, b ≠ 10) : ∀ x ∈ tn l, x ≠ 10 := by
  intro x hx
  unfold tn at hx
  obtain ⟨b, hb, rfl⟩ := List.mem_map.1 hx
  intro e
  apply h b hb
  have : b.toNat = 10 := by exact_mod_cast e
  exact UInt8.toNat_inj.1 this

/-- A line that stands at a place. -/
theorem rl_ln (xs : List Int) (p : Nat) (wd x r : List UInt8) (hb : ∀ b ∈ xs, 0 ≤ b ∧ b < 256) (hp : p ≤ xs.length) (hw : ∀ b ∈ wd, b ≠ 10) (hx : ∀ b ∈ x, b ≠ 10) (h : tb (xs.drop p) = ln wd x r) :
    ∃ q, rl xs p wd = (x, q, true) ∧ tb (xs.drop q) = r ∧ q ≤ xs.length := by
  have hd : xs.drop p = tn (ln wd x r) := by rw [← h, tn_tb' _ (fun b hb' => hb b (List.mem_of_mem_drop hb'))]
  have hd2 : xs.drop p = (tn wd ++ tn [32] ++ tn x) ++ 10 :: tn r := by
    rw [hd]
    unfold ln
    simp only [tn_app]
    simp [tn]
  have htw : (xs.drop p).takeWhile (fun x => !decide (x = 10)) = tn wd ++ tn [32] ++ tn x := by
    rw [hd2]
    refine tw_pre 10 _ _ (fun y hy => ?_)
    rcases List.mem_append.1 hy with hy | hy
    · rcases List.mem_append.1 hy with hy | hy
      · exact tn_no10 wd hw y hy
      · simp [tn] at hy; subst hy; decide
    · exact tn_no10 x hx y hy
  have hlen := congrArg List.length hd2
  simp only [List.length_drop, List.length_append, List.length_cons, tn_len, List.length_nil] at hlen
  have hnx : nx 10 xs p = p + (wd.length + 1 + x.length) := by
    unfold nx
    rw [htw]
    simp only [List.length_append, tn_len, List.length_cons, List.length_nil]
  have h1 : tb ((xs.drop p).take (wd.length + 1)) = wd ++ [32] := by
    rw [hd2]
    have : (tn wd ++ tn [32] ++ tn x ++ 10 :: tn r).take (wd.length + 1) = tn (wd ++ [32]) := by
      rw [tn_app, List.append_assoc (tn wd ++ tn [32])]
      exact List.take_left' (by simp [tn_len])
    rw [this, tb_tn]
  have h2 : (xs.drop (p + wd.length + 1)).take (nx 10 xs p - (p + wd.length + 1)) = tn x := by
    have e1 : xs.drop (p + wd.length + 1) = (xs.drop p).drop (wd.length + 1) := by rw [List.drop_drop]; congr 1
    rw [e1, hd2, List.append_assoc (tn wd ++ tn [32]), List.drop_left' (by simp [tn_len]), hnx]
    exact List.take_left' (by rw [tn_len]; omega)
  have h3 : xs.drop (nx 10 xs p + 1) = tn r := by
    have e1 : xs.drop (nx 10 xs p + 1) = (xs.drop p).drop (wd.length + 1 + x.length + 1) := by rw [List.drop_drop, hnx]; congr 1
    rw [e1, hd2]
    have : (tn wd ++ tn [32] ++ tn x ++ 10 :: tn r) = (tn wd ++ tn [32] ++ tn x ++ [10]) ++ tn r := by simp
    rw [this]
    exact List.drop_left' (by simp only [List.length_append, tn_len, List.length_cons, List.length_nil])
  refine ⟨nx 10 xs p + 1, ?_, by rw [h3, tb_tn], by rw [hnx]; omega⟩
  unfold rl
  rw [if_neg, h2, tb_tn]
  rintro (h | h | h)
  · rw [hnx] at h; omega
  · rw [hnx] at h; omega
  · exact h h1

theorem rl_other (xs : List Int) (p : Nat) (wd : List UInt8) (h : (tb (xs.drop p)).take (wd.length + 1) ≠ wd ++ [32]) : (rl xs p wd).2.2 = false := by
  unfold rl
  rw [if_pos]
  refine .inr (.inr ?_)
  intro e
  apply h
  rw [← e]
  simp [tb, List.map_take]

theorem rps_enc (xs : List Int) (hb : ∀ b ∈ xs, 0 ≤ b ∧ b < 256) (rest : List UInt8) (hr : rest.take 7 ≠ pnt ++ [32]) : ∀ (ds : List (List Int)) (p : Nat), (∀ x ∈ ds, IsId x) → p ≤ xs.length → tb (xs.drop p) = wls (ds.map pl) ++ rest → ∃ q, Rps xs p ds q true ∧ tb (xs.drop q) = rest ∧ q ≤ xs.length
  | [], p, _, hp, h => ⟨p, .stop p (rl_other xs p pnt (by rw [h]; exact hr)), h, hp⟩
  | x :: ds, p, hds, hp, h => by
    have hxi := hds x (by simp)
    have e : tb (xs.drop p) = ln pnt (tb (hx x)) (wls (ds.map pl) ++ rest) := by
      rw [h, ← pl_line]
      simp [wls]
    obtain ⟨q1, h1, h2, h3⟩ := rl_ln xs p pnt _ _ hb hp (by decide) (hex_no10 x hxi) e
    obtain ⟨q, g1, g2, g3⟩ := rps_enc xs hb rest hr ds q1 (fun y hy => hds y (by simp [hy])) h3 h2
    have hpar := par_tb x hxi
    refine ⟨q, ?_, g2, g3⟩
    have := Rps.more p ds q true (by rw [h1]) (by rw [h1]; exact congrArg (·.2) hpar) (by rw [h1]; exact g1)
    rw [h1] at this
    simpa [hpar] using this

/-- What the document reads where a commit was written. -/
theorem enc_path (xs : List Int) (hb : ∀ b ∈ xs, 0 ≤ b ∧ b < 256) (T : List Int) (DS : List (List Int)) (A C M : List UInt8) (hT : IsId T) (hD : ∀ x ∈ DS, IsId x) (hm : mb A C DS = true) (h : enc T DS A C M = tb xs) :
    ∃ l0 p0 q p1 p2, rl xs 0 tre = (l0, p0, true) ∧ par (ns ⟨l0.toArray⟩) = (T, 0) ∧ Rps xs p0 DS q true ∧ rl xs q aut = (A, p1, true) ∧ rl xs p1 com = (C, p2, true) ∧ p2 < xs.length ∧ xs.getD p2 0 = 10 ∧ tb (xs.drop (p2 + 1)) = M := by
  rw [enc_lines] at h
  unfold mb at hm
  simp only [Bool.and_eq_true] at hm
  obtain ⟨p0, h1, h2, h3⟩ := rl_ln xs 0 tre _ _ hb (by omega) (by decide) (hex_no10 T hT) (by rw [List.drop_zero]; exact h.symm)
  obtain ⟨q, g1, g2, g3⟩ := rps_enc xs hb _ (by
    intro e
    unfold ln at e
    simp [aut, pnt] at e) DS p0 hD h3 h2
  obtain ⟨p1, i1, i2, i3⟩ := rl_ln xs q aut _ _ hb g3 (by decide) (txt_no10 A 200 hm.1) g2
  obtain ⟨p2, j1, j2, j3⟩ := rl_ln xs p1 com _ _ hb i3 (by decide) (txt_no10 C 200 hm.2.1) i2
  have hlt : p2 < xs.length := by
    have := congrArg List.length j2
    simp [tb] at this
    omega
  have hd := List.drop_eq_getElem_cons hlt
  rw [hd] at j2
  have e1 : xs[p2] = 10 := by
    have hr := hb xs[p2] (List.getElem_mem hlt)
    have h1 : UInt8.ofNat xs[p2].toNat = 10 := by
      have : tb (xs[p2] :: xs.drop (p2 + 1)) = UInt8.ofNat xs[p2].toNat :: tb (xs.drop (p2 + 1)) := rfl
      rw [this] at j2
      exact (List.cons.inj j2).1
    have h10 := congrArg UInt8.toNat h1
    rw [UInt8.toNat_ofNat'] at h10
    have : (10 : UInt8).toNat = 10 := rfl
    omega
  have e2 : tb (xs.drop (p2 + 1)) = M := by
    have := congrArg List.tail j2
    simpa [tb] using this
  exact ⟨_, p0, q, p1, p2, h1, par_tb T hT, g1, i1, j1, hlt, by simp [List.getD, hlt, e1], e2⟩

/-- The document's DecodeCommit: the commit that was written, or none. -/
theorem rdecC (ao : Option Addr) (n c : Nat) (xs : List Int) (w : World) (hr : Rd w ao n c xs) (hn : n ≤ 16384) :
    Calls Tryz.prog 24 #[.slice ao n c] w fun e w' => (e = .returned (.tuple #[rz, .int .i64 2]) ∧ nocm xs ∧ Below w.heap.size w w') ∨
      (∃ T v A C M DS, e = .returned (.tuple #[cmv T v A C M, .int .i64 0]) ∧ IsId T ∧ (∀ x ∈ DS, IsId x) ∧ mb A C DS = true ∧ enc T DS A C M = tb xs ∧ Dn w.heap.size w' v DS.toArray ∧ Below w.heap.size w w') := by
  have hb := hr.byt
  have hl := hr.len
  obtain ⟨l0, p0, k0, h0⟩ : ∃ l p k, rl xs 0 tre = (l, p, k) := ⟨_, _, _, rfl⟩
  obtain ⟨T, eT, hT⟩ : ∃ T e, par (ns ⟨l0.toArray⟩) = (T, e) := ⟨_, _, rfl⟩
  have hp0 : p0 ≤ xs.length := by have := rl_le xs 0 tre (by omega); rw [h0] at this; exact this
  obtain ⟨DS, q, kb, hP⟩ := rps_ex xs _ p0 hp0 (Nat.le_refl _)
  obtain ⟨l1, p1, k1, h1⟩ : ∃ l p k, rl xs q aut = (l, p, k) := ⟨_, _, _, rfl⟩
  obtain ⟨l2, p2, k2, h2⟩ : ∃ l p k, rl xs p1 com = (l, p, k) := ⟨_, _, _, rfl⟩
  have key : ∀ T' DS' A C M, IsId T' → (∀ x ∈ DS', IsId x) → mb A C DS' = true → enc T' DS' A C M = tb xs → k0 = true ∧ eT = 0 ∧ T' = T ∧ kb = true ∧ DS' = DS ∧ k1 = true ∧ l1 = A ∧ k2 = true ∧ l2 = C ∧ p2 < n ∧ xs.getD p2 0 = 10 ∧ tb (xs.drop (p2 + 1)) = M := by
    intro T' DS' A C M g1 g2 g3 g4
    obtain ⟨l0', p0', q', p1', p2', i1, i2, i3, i4, i5, i6, i7, i8⟩ := enc_path xs hb T' DS' A C M g1 g2 g3 g4
    rw [h0] at i1
    cases i1
    rw [hT] at i2
    cases i2
    obtain ⟨j1, j2, j3⟩ := rps_uniq hP i3
    subst j1
    subst j2
    subst j3
    rw [h1] at i4
    cases i4
    rw [h2] at i5
    cases i5
    exact ⟨rfl, rfl, rfl, rfl, rfl, rfl, rfl, rfl, rfl, by omega, i7, i8⟩
  have hTI : IsId T := by have := par_id (ns ⟨l0.toArray⟩); rw [hT] at this; exact this
  refine (rdecC_any ao n c xs w hr hn l0 l1 l2 p0 p1 p2 q k0 k1 k2 kb T eT DS h0 hT hP h1 h2 ?_ ?_ ?_ ?_).mono ?_
  · intro h T' DS' A C M g1 g2 g3 g4
    obtain ⟨j1, j2, _⟩ := key T' DS' A C M g1 g2 g3 g4
    rcases h with h | h
    · rw [h] at j1; cases j1
    · exact h j2
  · intro h T' DS' A C M g1 g2 g3 g4
    have := (key T' DS' A C M g1 g2 g3 g4).2.2.2.1
    rw [h] at this
    cases this
  · intro h T' DS' A C M g1 g2 g3 g4
    obtain ⟨_, _, _, _, _, j1, _, j2, _, j3, j4, _⟩ := key T' DS' A C M g1 g2 g3 g4
    rcases h with h | h | h | h
    · rw [h] at j1; cases j1
    · rw [h] at j2; cases j2
    · omega
    · exact h j4
  · intro h T' DS' A C M g1 g2 g3 g4
    obtain ⟨_, _, rfl, _, rfl, _, rfl, _, rfl, _, _, rfl⟩ := key T' DS' A C M g1 g2 g3 g4
    exact h g3 g4
  · rintro e w' (⟨g1, g2, g3⟩ | ⟨v, g1, g2, g3, g4, g5⟩)
    · exact .inl ⟨g1, g2, g3⟩
    · exact .inr ⟨T, v, l1, l2, _, DS, g1, hTI, hP.ids, g2, g3, g4, g5⟩

end Go.Proofs.YtojgablpjdlegaaGreatDoor

/- What was read as a commit, as a tag, is what is written of it. -/
namespace Go.Proofs.YtojgablpjdlegaaGreatDoor
open Go.RowKit Go.Shelf

theorem nd0 {b : Bool} {e : Int} (h : nd b e 2 = 0) : b = true ∧ e = 0 := by
  unfold nd at h
  split at h
  · cases h
  · rename_i hh
    subst h
    cases b with
    | true => exact ⟨rfl, rfl⟩
    | false => exact absurd ⟨rfl, rfl⟩ hh

theorem nd02 {b : Bool} {e : Int} (h : e = 0 ∨ e = 2) : nd b e 2 = 0 ∨ nd b e 2 = 2 := by
  unfold nd
  split
  · exact .inr rfl
  · exact h

theorem inone (z : UInt8) : ∀ h : List UInt8, (∀ b ∈ h, b ≠ z) → Lib.index h [z] = -1
  | [], _ => by simp [Lib.index]
  | b :: h, hz => by
    have ih := inone z h (fun x hx => hz x (by simp [hx]))
    have hb : b ≠ z := hz b (by simp)
    unfold Lib.index
    rw [ih]
    simp
    exact fun e => absurd e.symm hb

theorem mfirst (z : UInt8) : ∀ l : List UInt8, (∀ b ∈ l, b ≠ z) ∨ ∃ h r, l = h ++ z :: r ∧ ∀ x ∈ h, x ≠ z
  | [] => .inl (fun x hx => by cases hx)
  | b :: l => by
    by_cases hb : b = z
    · exact .inr ⟨[], l, by rw [hb]; rfl, fun x hx => by cases hx⟩
    · rcases mfirst z l with h | ⟨h, r, rfl, hz⟩
      · exact .inl (fun x hx => by rcases List.mem_cons.1 hx with rfl | hx; exact hb; exact h x hx)
      · exact .inr ⟨b :: h, r, rfl, fun x hx => by rcases List.mem_cons.1 hx with rfl | hx; exact hb; exact hz x hx⟩

theorem cnone (z : UInt8) (h : List UInt8) (hz : ∀ b ∈ h, b ≠ z) : Lib.cut h [z] = (h, [], false) := by
  unfold Lib.cut
  rw [inone z h hz, if_neg (by omega)]

theorem cut_inv (z : UInt8) (l : List UInt8) (h : (Lib.cut l [z]).2.2 = true) : l = (Lib.cut l [z]).1 ++ z :: (Lib.cut l [z]).2.1 ∧ ∀ b ∈ (Lib.cut l [z]).1, b ≠ z := by
  rcases mfirst z l with hn | ⟨a, r, rfl, hz⟩
  · rw [cnone z l hn] at h; cases h
  · rw [cut_first z a r hz]
    exact ⟨rfl, hz⟩

theorem lnF_inv (wd l : List UInt8) (h : (lnF wd l).2.2 = true) : l = ln wd (lnF wd l).1 (lnF wd l).2.1 ∧ ∀ b ∈ (lnF wd l).1, b ≠ 10 := by
  unfold lnF at h ⊢
  split at h
  · rename_i hp
    rw [if_pos hp]
    obtain ⟨r, hr⟩ := pre_len l _ hp
    have ht : Lib.trimPrefix l (wd ++ [32]) = r := by
      unfold Lib.trimPrefix
      rw [if_pos hp, hr]
      exact List.drop_left' rfl
    rw [ht] at h ⊢
    obtain ⟨h1, h2⟩ := cut_inv 10 r h
    refine ⟨?_, h2⟩
    unfold ln
    rw [hr]
    conv => lhs; rw [h1]
    simp
  · cases h

theorem cu_true {x : List UInt8 × List UInt8 × Bool} (h : x.2.2 = true) : cu x = (x.1, x.2.1) := by unfold cu; rw [if_pos h]

theorem lin_inv {wd l x r : List UInt8} (h : lin wd l = (x, r)) (hk : (lnF wd l).2.2 = true) : l = ln wd x r ∧ ∀ b ∈ x, b ≠ 10 := by
  have h1 := lnF_inv wd l hk
  unfold lin at h
  rw [cu_true hk] at h
  injection h with h2 h3
  rw [h2, h3] at h1
  exact ⟨h1.1, by rw [← h2]; rw [h2]; exact h1.2⟩

theorem par_inv (x : List UInt8) (T : List Int) (h : par (ns ⟨x.toArray⟩) = (T, 0)) : tb (hx T) = x ∧ IsId T := by
  unfold par at h
  split at h
  · rename_i hc
    injection h with h1 _
    refine ⟨?_, by rw [← h1]; exact pr_id _ hc.1 hc.2⟩
    rw [← h1, hx_pr _ (by omega) hc.2]
    unfold ns tb
    rw [List.map_map]
    conv => rhs; rw [← List.map_id x]
    apply List.map_congr_left
    intro b _
    simp
  · injection h with _ h2
    cases h2

theorem idE_inv {wd l : List UInt8} {e : Int} (h : idE wd l e = 0) : l = ln wd (tb (hx (par (ns ⟨(lin wd l).1.toArray⟩)).1)) (lin wd l).2 ∧ IsId (par (ns ⟨(lin wd l).1.toArray⟩)).1 ∧ e = 0 := by
  unfold idE at h
  obtain ⟨h1, h2⟩ := nd0 h
  obtain ⟨h3, h4⟩ := nd0 h2
  obtain ⟨g1, _⟩ := lin_inv (x := (lin wd l).1) (r := (lin wd l).2) rfl h3
  have hp : par (ns ⟨(lin wd l).1.toArray⟩) = ((par (ns ⟨(lin wd l).1.toArray⟩)).1, 0) := by
    rw [← of_decide_eq_true h1]
  obtain ⟨k1, k2⟩ := par_inv _ _ hp
  exact ⟨by rw [k1]; exact g1, k2, h4⟩

theorem msE_inv {l : List UInt8} {e : Int} (h : msE l e = 0) : l = [10] ++ msL l ∧ e = 0 := by
  unfold msE at h
  obtain ⟨h1, h2⟩ := nd0 h
  obtain ⟨h3, h4⟩ := nd0 h2
  obtain ⟨g1, _⟩ := cut_inv 10 l h3
  unfold msL
  rw [cu_true h3] at h1 ⊢
  have he : (Lib.cut l [10]).1 = [] := by simpa using h1
  refine ⟨?_, h4⟩
  conv => lhs; rw [g1, he]
  rfl

theorem ps_inv {l : List UInt8} {e : Int} {ds : List (List Int)} {l' : List UInt8} {e' : Int} (h : Ps l e ds l' e') : e' = 0 → e = 0 ∧ l = wls (ds.map pl) ++ l' := by
  induction h with
  | stop l e h => exact fun he => ⟨he, by simp [wls]⟩
  | more l e ds l' e' h t ih =>
    intro he
    obtain ⟨h1, h2⟩ := ih he
    obtain ⟨g1, g2, g3⟩ := idE_inv h1
    refine ⟨g3, ?_⟩
    conv => lhs; rw [g1]
    rw [h2, ← pl_line]
    simp [wls]

theorem cmg_inv {l : List UInt8} {T : List Int} {DS : List (List Int)} {A C M : List UInt8} (h : Cmg l 0 T DS A C M 0) : enc T DS A C M = l ∧ mb A C DS = true ∧ IsId T ∧ ∀ x ∈ DS, IsId x := by
  obtain ⟨l1, e1, lp, ep, l2, e2, l3, e3, e4, h1, h2, h3, h4, _, _, h7, h8, h9, h10, h11, h12, h13⟩ := h.ex
  obtain ⟨hm, he4⟩ := nd0 h13
  subst he4
  obtain ⟨g1, he3⟩ := msE_inv h12
  subst he3
  obtain ⟨k1, he2⟩ := nd0 h10
  subst he2
  obtain ⟨k2, hep⟩ := nd0 h8
  obtain ⟨i1, _⟩ := lin_inv h9 k1
  obtain ⟨i2, _⟩ := lin_inv h7 k2
  obtain ⟨j1, j2⟩ := ps_inv h4 hep
  rw [j1] at h3
  obtain ⟨o1, o2, _⟩ := idE_inv h3
  rw [h1, h2] at o1
  rw [h1] at o2
  refine ⟨?_, hm, o2, h4.ids⟩
  rw [enc_lines, o1, j2, i2, i1, g1, h11]

theorem cmg_err {l : List UInt8} {T : List Int} {DS : List (List Int)} {A C M : List UInt8} {e : Int} (h : Cmg l 0 T DS A C M e) : e = 0 ∨ e = 2 := by
  obtain ⟨l1, e1, lp, ep, l2, e2, l3, e3, e4, h1, h2, h3, h4, _, _, h7, h8, h9, h10, h11, h12, h13⟩ := h.ex
  have hid : ∀ (wd l : List UInt8) (e : Int), e = 0 ∨ e = 2 → idE wd l e = 0 ∨ idE wd l e = 2 := fun wd l e he => nd02 (nd02 he)
  have hps : ∀ {l e ds l' e'}, Ps l e ds l' e' → e = 0 ∨ e = 2 → e' = 0 ∨ e' = 2 := by
    intro l e ds l' e' h
    induction h with
    | stop l e h => exact fun h => h
    | more l e ds l' e' h t ih => exact fun he => ih (hid _ _ _ he)
  have a1 : e1 = 0 ∨ e1 = 2 := by rw [← h3]; exact hid _ _ _ (.inl rfl)
  have a2 := hps h4 a1
  have a3 : e2 = 0 ∨ e2 = 2 := by rw [← h8]; exact nd02 a2
  have a4 : e3 = 0 ∨ e3 = 2 := by rw [← h10]; exact nd02 a3
  have a5 : e4 = 0 ∨ e4 = 2 := by rw [← h12]; exact nd02 (nd02 a4)
  rw [← h13]
  exact nd02 a5

theorem tgg_inv {l : List UInt8} {T : List Int} {K : Int} {N G M : List UInt8} (h : Tgg l 0 T K N G M 0) : encT T K N G M = l ∧ mbT K N G = true ∧ IsId T := by
  obtain ⟨l1, e1, ty, l2, e2, l3, e3, l4, e4, e5, h1, h2, h3, h4, h5, h6, h7, h8, h9, h10, h11, h12, h13⟩ := h.ex
  obtain ⟨hm, he5⟩ := nd0 h13
  subst he5
  obtain ⟨g1, he4⟩ := msE_inv h12
  subst he4
  obtain ⟨k1, he3⟩ := nd0 h10
  subst he3
  obtain ⟨k2, he2⟩ := nd0 h8
  subst he2
  obtain ⟨k3, he1⟩ := nd0 h5
  rw [he1] at h3
  obtain ⟨i1, _⟩ := lin_inv h9 k1
  obtain ⟨i2, _⟩ := lin_inv h7 k2
  obtain ⟨i3, _⟩ := lin_inv h4 k3
  obtain ⟨o1, o2, _⟩ := idE_inv h3
  rw [h1, h2] at o1
  rw [h1] at o2
  have hk : isK K = true := by
    unfold mbT at hm
    simp only [Bool.and_eq_true] at hm
    exact hm.1
  have hty : wl K = ty := by
    rw [← h6] at hk ⊢
    unfold kof at hk ⊢
    by_cases a1 : wl 1 = ty
    · rw [if_pos a1]; exact a1
    · rw [if_neg a1] at hk ⊢
      by_cases a2 : wl 2 = ty
      · rw [if_pos a2]; exact a2
      · rw [if_neg a2] at hk ⊢
        by_cases a3 : wl 3 = ty
        · rw [if_pos a3]; exact a3
        · rw [if_neg a3] at hk ⊢
          by_cases a4 : wl 4 = ty
          · rw [if_pos a4]; exact a4
          · rw [if_neg a4] at hk
            exact absurd hk (by decide)
  refine ⟨?_, hm, o2⟩
  rw [encT_lines, o1, i3, i2, i1, g1, h11, hty]

theorem tgg_err {l : List UInt8} {T : List Int} {K : Int} {N G M : List UInt8} {e : Int} (h : Tgg l 0 T K N G M e) : e = 0 ∨ e = 2 := by
  obtain ⟨l1, e1, ty, l2, e2, l3, e3, l4, e4, e5, h1, h2, h3, h4, h5, h6, h7, h8, h9, h10, h11, h12, h13⟩ := h.ex
  have a1 : e1 = 0 ∨ e1 = 2 := by rw [← h3]; exact nd02 (nd02 (.inl rfl))
  have a2 : e2 = 0 ∨ e2 = 2 := by rw [← h5]; exact nd02 a1
  have a3 : e3 = 0 ∨ e3 = 2 := by rw [← h8]; exact nd02 a2
  have a4 : e4 = 0 ∨ e4 = 2 := by rw [← h10]; exact nd02 a3
  have a5 : e5 = 0 ∨ e5 = 2 := by rw [← h12]; exact nd02 (nd02 a4)
  rw [← h13]
  exact nd02 a5

end Go.Proofs.YtojgablpjdlegaaGreatDoor
