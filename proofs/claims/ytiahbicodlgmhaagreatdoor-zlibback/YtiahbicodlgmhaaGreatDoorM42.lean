/- XLns: the document's own functions, walked. -/
import Derived.Test.YtiahbicodlgmhaaGreatDoorM40
import Derived.Test.YtiahbicodlgmhaaGreatDoorM39
import Derived.Test.YtiahbicodlgmhaaGreatDoorM32
import Derived.Deep.CutBlock
import Derived.Deep.CutRange
/- The document's lengths. -/
namespace Go.Proofs.YtiahbicodlgmhaaGreatDoor.D
open Go.RowKit

/-- What is left to be read. -/
structure Lg (C : Nat → Int) (B S R : Nat) (ao : Option Addr) (n c : Nat) (X : Int) (v : Value) (os : List Int) (m : Int) (w : World) (fs : List Int) (P gk : Nat) (lv : Value) (wr : World) (qs : List Cl) (p : Nat) (ls : List Int) : Prop where
  len : qs.length = gk
  st : IsS wr B S R ao n c X p v os m
  lay : Lay X n p (encC C qs)
  ok : clsOk C qs ls
  fin : cls qs ls = fs
  pp : p + fb (encC C qs) = P
  own : wr.ownsRow w.heap.size 3 1 lv ls.length (ls.map (Value.int .i64))
  fr : Fr (fun k => k = R) w wr

theorem ord_cells : #[Value.int .i64 16, Value.int .i64 17, Value.int .i64 18, Value.int .i64 0, Value.int .i64 8, Value.int .i64 7, Value.int .i64 9, Value.int .i64 6, Value.int .i64 10, Value.int .i64 5, Value.int .i64 11, Value.int .i64 4, Value.int .i64 12, Value.int .i64 3, Value.int .i64 13, Value.int .i64 2, Value.int .i64 14, Value.int .i64 1, Value.int .i64 15] = (([16, 17, 18, 0, 8, 7, 9, 6, 10, 5, 11, 4, 12, 3, 13, 2, 14, 1, 15] : List Int).map (Value.int .i64)).toArray := rfl

theorem ord_lit : ∀ j, j < 19 → ([16, 17, 18, 0, 8, 7, 9, 6, 10, 5, 11, 4, 12, 3, 13, 2, 14, 1, 15] : List Int).getD j 0 = (ord j : Int) := by decide

theorem slice_len3 {w : World} {base n : Nat} {v : Value} {xs : List Value} (h : w.ownsRow base 3 1 v n xs) : ∃ ao c, v = .slice ao n c := by
  rcases h.2 with ⟨rfl, rfl⟩ | ⟨g, cap, cur, rfl, _⟩
  · exact ⟨none, 0, rfl⟩
  · exact ⟨_, _, rfl⟩

/-- What one append of one number leaves. -/
theorem lens_app {wr w3 : World} {B S R : Nat} {ao : Option Addr} {n c : Nat} {X : Int} {p : Nat} {v : Value} {os : List Int} {m : Int} {w0 : World} {lv : Value} {N : Nat} {xs : List Value} {O : Obj} (hs : IsS wr B S R ao n c X p v os m) (hf : Fr (fun k => k = R) w0 wr) (hi : S < w0.heap.size ∧ R < w0.heap.size ∧ (∀ k, v.ownBlock = some k → k < w0.heap.size) ∧ ∀ ad, ao = some ad → 0 < n → ad.block < w0.heap.size) (ho : wr.ownsRow w0.heap.size 3 1 lv N xs) (g3 : (wr.alloc O).grownBy w3 lv.ownBlock) :
    IsS w3 B S R ao n c X p v os m ∧ Fr (fun k => k = R) w0 w3 := by
  have hlt := ho.lt
  have hsz := hf.size
  have F3 : Fr (fun i => lv.ownBlock = some i) wr w3 := ((Fr.refl (fun i => lv.ownBlock = some i) wr).alloc _).grown g3 (fun _ _ e => e)
  exact ⟨hs.fr F3 (fun e => by have := (hlt _ e).1; omega) (fun e => by have := (hlt _ e).1; omega) (fun i hv e => by have := (hlt _ e).1; have := hi.2.2.1 i hv; omega) (fun ad had hn0 e => by have := (hlt _ e).1; have := hi.2.2.2 ad had hn0; omega),
    hf.trans F3 (fun i hi' e => by have := (hlt _ e).1; omega)⟩

set_option maxRecDepth 100000 in
set_option maxHeartbeats 8000000 in
theorem rlens_S (B S R : Nat) (ao : Option Addr) (n c : Nat) (X : Int) (p : Nat) (v : Value) (os : List Int) (m : Int) (vs : List Nat) (qs : List Cl) (fs : List Int) (nl nd : Nat) (w : World) (h : IsS w B S R ao n c X p v os m) (hH : Hd vs qs fs nl nd) (hl : Lay X n p (hdf vs qs nl nd)) :
    Calls Tryz.prog 53 #[.pointer (some ⟨S, 0, none⟩)] w fun e w' => ∃ g off lc, e = .returned (.tuple #[.slice (some ⟨g, off, none⟩) nl lc, .slice (some ⟨g, off + nl, none⟩) nd (lc - nl)]) ∧ Ri w' (some ⟨g, off, none⟩) nl lc (fun j => fs.getD j 0) ∧ Ri w' (some ⟨g, off + nl, none⟩) nd (lc - nl) (fun j => fs.getD (nl + j) 0) ∧ IsS w' B S R ao n c X (p + fb (hdf vs qs nl nd)) v os m ∧ Fr (fun k => k = R) w w' := by
  obtain ⟨i0, hi, hz0, hz1, hz2⟩ := info_parts Tryz.info3
  have hpp : p + fb (hdf vs qs nl nd) = p + 5 + 5 + 4 + 3 * vs.length + fb (encC (ck vs vs.length) qs) := by
    simp only [hdf, List.cons_append, fb, fb_app, vfs_fb]
    omega
  have hl0 := hl
  simp only [hdf, List.cons_append] at hl0
  obtain ⟨e1, p1, hl1⟩ := hl0.head
  obtain ⟨e2, p2', hl2⟩ := hl1.head
  simp only at e1 p1 e2 p2'
  have hl2' : Lay X n (p + 5 + 5) ((((vs.length - 4 : Nat) : Int), 4) :: (vfs vs ++ encC (ck vs vs.length) qs)) := hl2
  obtain ⟨e3, p3, hl3⟩ := hl2'.head
  simp only at e3 p3 hl3
  have HL3 : Hid (Lay X n (p + 5 + 5 + 4) (vfs vs)) := hl3.front
  have hl4 := hl3.tail
  rw [vfs_fb] at hl4
  have HL4 : Hid (Lay X n (p + 5 + 5 + 4 + 3 * vs.length) (encC (ck vs vs.length) qs)) := hl4
  rw [hpp]
  obtain ⟨N, hN⟩ : ∃ N, N = vs.length := ⟨_, rfl⟩
  have HN : Hid (N = vs.length) := hN
  rw [← hN] at e3
  have h4 : 4 ≤ N := by have := hH.v4; omega
  have h19 : N ≤ 19 := by have := hH.v19; omega
  have hl01 := hH.l0
  have hl02 := hH.l1
  have hd01 := hH.d0
  have hd02 := hH.d1
  have HH : Hid (Hd vs qs fs nl nd) := hH
  have y1 : ((nl - 257 : Nat) : Int) + 257 = nl := by omega
  have y2 : ((nd - 1 : Nat) : Int) + 1 = nd := by omega
  have y3 : ((N - 4 : Nat) : Int) + 4 = N := by omega
  have u1 : IntKind.i64.wrap (nl : Int) = nl := wraps_i64 _ (by omega) (by omega)
  have u2 : IntKind.i64.wrap (nd : Int) = nd := wraps_i64 _ (by omega) (by omega)
  have u3 : IntKind.i64.wrap (N : Int) = N := wraps_i64 _ (by omega) (by omega)
  have x1 : ¬ (286 : Int) < nl := by omega
  have x2 : ¬ (30 : Int) < nd := by omega
  clear hl hl0 hl1 hl2 hl2' hl3 hl4 hpp hN hH
  go_enter Tryz.func53, Tryz.ntmps53
  go_wp2_with fail
  refine (rget_S B S R ao n c X p v os m 5 w h (by omega) p1).mono ?_
  rintro e w1 ⟨rfl, h1, _, f1⟩
  rw [e1]
  clear h e1 p1
  go_wp2_with fail
  refine (rget_S B S R ao n c X (p + 5) v os m 5 w1 h1 (by omega) p2').mono ?_
  rintro e w2 ⟨rfl, h2, _, f2⟩
  rw [e2]
  have F2 := f1.trans f2 (fun _ _ e => e)
  clear h1 f1 f2 e2 p2'
  go_wp2_with fail
  refine (rget_S B S R ao n c X (p + 5 + 5) v os m 4 w2 h2 (by omega) p3).mono ?_
  rintro e w3 ⟨rfl, h3, _, f3⟩
  rw [e3]
  have F3 := F2.trans f3 (fun _ _ e => e)
  have R0 : (w3.alloc (Obj.cells #[Value.int .i64 16, Value.int .i64 17, Value.int .i64 18, Value.int .i64 0, Value.int .i64 8, Value.int .i64 7, Value.int .i64 9, Value.int .i64 6, Value.int .i64 10, Value.int .i64 5, Value.int .i64 11, Value.int .i64 4, Value.int .i64 12, Value.int .i64 3, Value.int .i64 13, Value.int .i64 2, Value.int .i64 14, Value.int .i64 1, Value.int .i64 15] 3)).rowIs w3.heap.size 3 19 (fun j => .int .i64 (ord j)) :=
    (lit_row w3 _ _ ord_cells).congr (fun j hj => by rw [ord_lit j hj])
  clear h2 f3 F2 e3 p3
  go_wp2_with (at_make; refine wpList_make_row _ rfl _ _ 59 rfl 3 i0 (.int .i64 0) Tryz.underlying59 hi hz0 hz1 rfl .i64 .i64 19 rfl rfl (by rw [hz2]; omega) (by omega) ?_)
  have bA : Below w3.heap.size w3 (w3.alloc (Obj.cells #[Value.int .i64 16, Value.int .i64 17, Value.int .i64 18, Value.int .i64 0, Value.int .i64 8, Value.int .i64 7, Value.int .i64 9, Value.int .i64 6, Value.int .i64 10, Value.int .i64 5, Value.int .i64 11, Value.int .i64 4, Value.int .i64 12, Value.int .i64 3, Value.int .i64 13, Value.int .i64 2, Value.int .i64 14, Value.int .i64 1, Value.int .i64 15] 3)) := (Below.refl _ _).alloc (Nat.le_refl _) _
  have bW : Below (w3.alloc (Obj.cells #[Value.int .i64 16, Value.int .i64 17, Value.int .i64 18, Value.int .i64 0, Value.int .i64 8, Value.int .i64 7, Value.int .i64 9, Value.int .i64 6, Value.int .i64 10, Value.int .i64 5, Value.int .i64 11, Value.int .i64 4, Value.int .i64 12, Value.int .i64 3, Value.int .i64 13, Value.int .i64 2, Value.int .i64 14, Value.int .i64 1, Value.int .i64 15] 3)).heap.size (w3.alloc (Obj.cells #[Value.int .i64 16, Value.int .i64 17, Value.int .i64 18, Value.int .i64 0, Value.int .i64 8, Value.int .i64 7, Value.int .i64 9, Value.int .i64 6, Value.int .i64 10, Value.int .i64 5, Value.int .i64 11, Value.int .i64 4, Value.int .i64 12, Value.int .i64 3, Value.int .i64 13, Value.int .i64 2, Value.int .i64 14, Value.int .i64 1, Value.int .i64 15] 3)) ((w3.alloc (Obj.cells #[Value.int .i64 16, Value.int .i64 17, Value.int .i64 18, Value.int .i64 0, Value.int .i64 8, Value.int .i64 7, Value.int .i64 9, Value.int .i64 6, Value.int .i64 10, Value.int .i64 5, Value.int .i64 11, Value.int .i64 4, Value.int .i64 12, Value.int .i64 3, Value.int .i64 13, Value.int .i64 2, Value.int .i64 14, Value.int .i64 1, Value.int .i64 15] 3)).alloc (Obj.cells (madeCells #[Value.int .i64 0] 19) 3)) := (Below.refl _ _).alloc (Nat.le_refl _) _
  have hsA : (w3.alloc (Obj.cells #[Value.int .i64 16, Value.int .i64 17, Value.int .i64 18, Value.int .i64 0, Value.int .i64 8, Value.int .i64 7, Value.int .i64 9, Value.int .i64 6, Value.int .i64 10, Value.int .i64 5, Value.int .i64 11, Value.int .i64 4, Value.int .i64 12, Value.int .i64 3, Value.int .i64 13, Value.int .i64 2, Value.int .i64 14, Value.int .i64 1, Value.int .i64 15] 3)).heap.size = w3.heap.size + 1 := by simp
  have bB : Below w3.heap.size w3 ((w3.alloc (Obj.cells #[Value.int .i64 16, Value.int .i64 17, Value.int .i64 18, Value.int .i64 0, Value.int .i64 8, Value.int .i64 7, Value.int .i64 9, Value.int .i64 6, Value.int .i64 10, Value.int .i64 5, Value.int .i64 11, Value.int .i64 4, Value.int .i64 12, Value.int .i64 3, Value.int .i64 13, Value.int .i64 2, Value.int .i64 14, Value.int .i64 1, Value.int .i64 15] 3)).alloc (Obj.cells (madeCells #[Value.int .i64 0] 19) 3)) := bA.trans (bW.mono bA.size)
  have R1 := made_row (w3.alloc (Obj.cells #[Value.int .i64 16, Value.int .i64 17, Value.int .i64 18, Value.int .i64 0, Value.int .i64 8, Value.int .i64 7, Value.int .i64 9, Value.int .i64 6, Value.int .i64 10, Value.int .i64 5, Value.int .i64 11, Value.int .i64 4, Value.int .i64 12, Value.int .i64 3, Value.int .i64 13, Value.int .i64 2, Value.int .i64 14, Value.int .i64 1, Value.int .i64 15] 3)) 19
  rw [hsA] at R1
  have HR0 : Hid (((w3.alloc (Obj.cells #[Value.int .i64 16, Value.int .i64 17, Value.int .i64 18, Value.int .i64 0, Value.int .i64 8, Value.int .i64 7, Value.int .i64 9, Value.int .i64 6, Value.int .i64 10, Value.int .i64 5, Value.int .i64 11, Value.int .i64 4, Value.int .i64 12, Value.int .i64 3, Value.int .i64 13, Value.int .i64 2, Value.int .i64 14, Value.int .i64 1, Value.int .i64 15] 3)).alloc (Obj.cells (madeCells #[Value.int .i64 0] 19) 3)).rowIs w3.heap.size 3 19 (fun j => .int .i64 (ord j))) := R0.of_block (bW.block _ R0.lt)
  have HR1 : Hid (((w3.alloc (Obj.cells #[Value.int .i64 16, Value.int .i64 17, Value.int .i64 18, Value.int .i64 0, Value.int .i64 8, Value.int .i64 7, Value.int .i64 9, Value.int .i64 6, Value.int .i64 10, Value.int .i64 5, Value.int .i64 11, Value.int .i64 4, Value.int .i64 12, Value.int .i64 3, Value.int .i64 13, Value.int .i64 2, Value.int .i64 14, Value.int .i64 1, Value.int .i64 15] 3)).alloc (Obj.cells (madeCells #[Value.int .i64 0] 19) 3)).rowIs (w3.heap.size + 1) 3 19 (fun j => .int .i64 (ck vs 0 j))) := R1.congr (fun j _ => by rw [ck_zero])
  have HS1 : Hid (IsS ((w3.alloc (Obj.cells #[Value.int .i64 16, Value.int .i64 17, Value.int .i64 18, Value.int .i64 0, Value.int .i64 8, Value.int .i64 7, Value.int .i64 9, Value.int .i64 6, Value.int .i64 10, Value.int .i64 5, Value.int .i64 11, Value.int .i64 4, Value.int .i64 12, Value.int .i64 3, Value.int .i64 13, Value.int .i64 2, Value.int .i64 14, Value.int .i64 1, Value.int .i64 15] 3)).alloc (Obj.cells (madeCells #[Value.int .i64 0] 19) 3)) B S R ao n c X (p + 5 + 5 + 4) v os m) := h3.keep bB
  have HF1 : Hid (Fr (fun k => k = R) w ((w3.alloc (Obj.cells #[Value.int .i64 16, Value.int .i64 17, Value.int .i64 18, Value.int .i64 0, Value.int .i64 8, Value.int .i64 7, Value.int .i64 9, Value.int .i64 6, Value.int .i64 10, Value.int .i64 5, Value.int .i64 11, Value.int .i64 4, Value.int .i64 12, Value.int .i64 3, Value.int .i64 13, Value.int .i64 2, Value.int .i64 14, Value.int .i64 1, Value.int .i64 15] 3)).alloc (Obj.cells (madeCells #[Value.int .i64 0] 19) 3))) := F3.trans (P' := fun _ => False) (Fr.ofBelow bB) (fun _ _ h => h.elim)
  have HG : Hid (w.heap.size ≤ w3.heap.size) := F3.size
  have HI : Hid (S < w3.heap.size ∧ R < w3.heap.size ∧ (∀ k, v.ownBlock = some k → k < w3.heap.size) ∧ ∀ ad, ao = some ad → 0 < n → ad.block < w3.heap.size) := h3.inside
  obtain ⟨o0, ho0⟩ : ∃ o0, o0 = w3.heap.size := ⟨_, rfl⟩
  obtain ⟨g0, hg0⟩ : ∃ g0, g0 = w3.heap.size + 1 := ⟨_, rfl⟩
  have HOG : Hid (o0 = w3.heap.size ∧ g0 = w3.heap.size + 1) := ⟨ho0, hg0⟩
  rw [← ho0] at HR0
  rw [← hg0] at HR1
  rw [← hg0, ← ho0]
  clear R0 R1 bA bW hsA bB h3 F3 ho0 hg0
  generalize ((w3.alloc (Obj.cells #[Value.int .i64 16, Value.int .i64 17, Value.int .i64 18, Value.int .i64 0, Value.int .i64 8, Value.int .i64 7, Value.int .i64 9, Value.int .i64 6, Value.int .i64 10, Value.int .i64 5, Value.int .i64 11, Value.int .i64 4, Value.int .i64 12, Value.int .i64 3, Value.int .i64 13, Value.int .i64 2, Value.int .i64 14, Value.int .i64 1, Value.int .i64 15] 3)).alloc (Obj.cells (madeCells #[Value.int .i64 0] 19) 3)) = W at *
  go_loopw [9] (fun iv wr => ∃ k : Nat, k ≤ N ∧ iv = .int .i64 k ∧ Hid (wr.rowIs g0 3 19 (fun j => .int .i64 (ck vs k j))) ∧ Hid (wr.rowIs o0 3 19 (fun j => .int .i64 (ord j))) ∧ Hid (IsS wr B S R ao n c X (p + 5 + 5 + 4 + 3 * k) v os m) ∧ Hid (Fr (fun k => k = R) w wr)) (fun iv _ => N - (intOf iv).toNat)
  case atStart => exact ⟨0, by omega, rfl, HR1, HR0, HS1, HF1⟩
  case round =>
    clear HR0 HR1 HS1 HF1
    obtain ⟨k, hk, rfl, HRk, HOk, HSk, HFk⟩ := hrel
    have k3 := HSk.out.row.cell (i := 3) (by omega)
    simp only [scells] at k3
    by_cases hlt : k < N
    · have z7 : (k : Int) < N := by omega
      obtain ⟨e1, p1⟩ := vfs_at HL3.out k (by have := HN.out; omega)
      have hget := rget_S B S R ao n c X (p + 5 + 5 + 4 + 3 * k) v os m 3 wr.drew HSk.out.drew (by omega) p1
      rw [e1] at hget
      have htab : wr.cell? ⟨o0, k, none⟩ = some (.int .i64 (ord k)) := HOk.out.cell (i := k) (by omega)
      have ho := ord_lt k (by omega)
      have HST : Hid (∀ wz : World, wz.rowIs g0 3 19 (fun j => .int .i64 (ck vs k j)) → (wz.setCell ⟨g0, ord k, none⟩ (.int .i64 ((vs.getD k 0 : Nat) : Int))).rowIs g0 3 19 (fun j => .int .i64 (ck vs (k + 1) j))) := fun wz hz => by
        refine (hz.set (ord k) (.int .i64 ((vs.getD k 0 : Nat) : Int))).congr (fun j hj => ?_)
        rw [← ck_set vs k j (by omega) hj]
        split <;> rfl
      obtain ⟨o, hoo⟩ : ∃ o, o = ord k := ⟨_, rfl⟩
      rw [← hoo] at htab ho HST
      obtain ⟨x, hx⟩ : ∃ x, x = vs.getD k 0 := ⟨_, rfl⟩
      rw [← hx] at hget HST
      clear e1 p1 hoo hx
      have z8 : k < 19 := by omega
      have z9 : (k : Int) < 19 := by omega
      have z10 : (o : Int) < 19 := by omega
      go_wp2_with fail
      go_region_with (go_at_call 49; refine hget.mono ?_; rintro e w2 ⟨rfl, hs2, hw2, hf2⟩; have r2 : w2.rowIs g0 3 19 (fun j => .int .i64 (ck vs k j)) := rowIs_fr HRk.out.drew hf2 (fun e => by have := HOG.out; have := HI.out.2.1; omega); have a2 := r2.cell (i := o) (by omega); have a3 := r2.frozen o; have r4 : w2.rowIs o0 3 19 (fun j => .int .i64 (ord j)) := rowIs_fr HOk.out.drew hf2 (fun e => by have := HOG.out; have := HI.out.2.1; omega); have a4 : w2.cell? ⟨o0, k, none⟩ = some (.int .i64 o) := by (rw [World.cell?_of_block (hf2.block o0 (World.block_lt_of_cell? wr _ htab) (fun e => by have := HOG.out; have := HI.out.2.1; omega))]; exact htab))
      all_goals
        (try simp only [List.getElem_toArray, List.getElem_cons_zero, List.getElem_cons_succ, Act.put, List.setIfInBounds_toArray, List.set_cons_zero, List.set_cons_succ])
        have hog := HOG.out
        have hgl := HG.out
        have hi := HI.out
        have F0 : Fr (fun i => i = g0) w2 (w2.setCell ⟨g0, o, none⟩ (.int .i64 (x : Int))) := (Fr.refl (fun i => i = g0) w2).setCell (p := ⟨g0, o, none⟩) rfl _
        have R3 : Hid ((w2.setCell ⟨g0, o, none⟩ (.int .i64 (x : Int))).rowIs g0 3 19 (fun j => .int .i64 (ck vs (k + 1) j))) := HST.out w2 r2
        have R4 : Hid ((w2.setCell ⟨g0, o, none⟩ (.int .i64 (x : Int))).rowIs o0 3 19 (fun j => .int .i64 (ord j))) := rowIs_fr r4 F0 (fun e => by omega)
        have S3 : Hid (IsS (w2.setCell ⟨g0, o, none⟩ (.int .i64 (x : Int))) B S R ao n c X (p + 5 + 5 + 4 + 3 * (k + 1)) v os m) := hs2.fr F0 (fun e => by omega) (fun e => by omega) (fun i hv e => by have := hi.2.2.1 i hv; omega) (fun ad had hn0 e => by have := hi.2.2.2 ad had hn0; omega)
        have F3 : Hid (Fr (fun i => i = R) w (w2.setCell ⟨g0, o, none⟩ (.int .i64 (x : Int)))) := (HFk.out.drew.trans hf2 (fun _ _ e => e)).trans F0 (fun i hi' e => by omega)
        generalize w2.setCell ⟨g0, o, none⟩ (.int .i64 (x : Int)) = W3 at *
        clear F0 r2 r4 a2 a3 a4 hs2 hw2 hf2 htab hog hgl hi k3
        go_wp2
        go_roundw
        case rel => exact ⟨k + 1, by omega, by go_num, R3, R4, S3, F3⟩
        case measure => simp [intOf]; omega
    · obtain rfl : k = N := by omega
      have z7 : ¬ (k : Int) < k := by omega
      have hri := Ri.row HRk.out
      have hn := HH.out.cn
      rw [← HN.out] at hn
      have hnew := xnew_xc (some ⟨g0, 0, none⟩) 19 19 (ck vs k) false wr hri hn
      clear hlt hri hn
      go_wp2_with fail
      refine hnew.mono ?_
      rintro e w4 ⟨A, rfl, hC, b4⟩
      have HS4 : Hid (IsS w4 B S R ao n c X (p + 5 + 5 + 4 + 3 * k) v os m) := HSk.out.keep b4
      have HF4 : Hid (Fr (fun k => k = R) w w4) := HFk.out.trans (P' := fun _ => False) (Fr.ofBelow b4) (fun _ _ h => h.elim)
      have HC : Hid (Xc w4 A (ck vs k) 19) := hC
      clear hC b4 HSk HFk HRk HOk k3 hnew HI HG HOG HL3
      go_wp2_with fail
      obtain ⟨NN, hNN⟩ : ∃ NN, NN = nl + nd := ⟨_, rfl⟩
      have yN : (nl : Int) + nd = NN := by omega
      have uN : IntKind.i64.wrap (NN : Int) = NN := wraps_i64 _ (by omega) (by omega)
      have HNN : Hid (NN = nl + nd) := hNN
      have hNN9 : NN ≤ 800 := by omega
      have HI4 : Hid (S < w4.heap.size ∧ R < w4.heap.size ∧ (∀ k, v.ownBlock = some k → k < w4.heap.size) ∧ ∀ ad, ao = some ad → 0 < n → ad.block < w4.heap.size) := HS4.out.inside
      have HRW : Hid (∀ w', Fr (fun k => k = R) w4 w' → Kt w4 w') := fun w' hf => Kt.row HS4.out.rd.row (by decide) hf
      have HCF : Hid (Fits (ck vs k) 19) := by have := HH.out.cf; rw [← HN.out] at this; exact this
      have H0 : Hid (Lg (ck vs k) B S R ao n c X v os m w4 fs (p + 5 + 5 + 4 + 3 * k + fb (encC (ck vs k) qs)) qs.length (.slice none 0 0) w4 qs (p + 5 + 5 + 4 + 3 * k) []) := by
        have h1 := HL4.out
        have h2 := HH.out.ok
        rw [← HN.out] at h1 h2
        exact ⟨rfl, HS4.out, h1, h2, HH.out.all, rfl, World.ownsRow_nil _ _ _ _, Fr.refl _ _⟩
      have HLN : Hid (fs.length = NN) := by rw [hNN]; exact HH.out.len
      clear hNN HL4 HS4 y1 y2 y3
      obtain ⟨P, hP⟩ : ∃ P, P = p + 5 + 5 + 4 + 3 * k + fb (encC (ck vs k) qs) := ⟨_, rfl⟩
      rw [← hP] at H0
      have HPQ : Hid (P = p + 5 + 5 + 4 + 3 * vs.length + fb (encC (ck vs vs.length) qs)) := by rw [← HN.out]; exact hP
      obtain ⟨C, hC⟩ : ∃ C, C = ck vs k := ⟨_, rfl⟩
      rw [← hC] at H0 HC HCF
      clear hP hC
      go_loopg [12, 13, 14, 15, 16] qs.length (fun gk lv _ _ _ _ wr => ∃ qs1 p1 ls, Hid (Lg C B S R ao n c X v os m w4 fs P gk lv wr qs1 p1 ls))
      case atStart => exact ⟨qs, _, [], H0⟩
      case round =>
        obtain ⟨qs1, p1, ls, HY⟩ := hrel
        clear H0
        obtain ⟨j, hj⟩ : ∃ j, j = ls.length := ⟨_, rfl⟩
        have HJ : Hid (j = ls.length) := hj
        have hown := HY.out.own
        rw [← hj] at hown
        have hlt := hown.lt
        rw [lens_iv ls j hj.symm] at hown
        obtain ⟨la, lc, rfl, hri, _⟩ := own_ri hown
        have HW : Hid (wr.ownsRow w4.heap.size 3 1 (.slice la j lc) j (ls.map (Value.int .i64))) := by have := HY.out.own; rw [← hj] at this; exact this
        have HLT : Hid (∀ q, (Value.slice la j lc).ownBlock = some q → w4.heap.size ≤ q ∧ q < wr.heap.size) := hlt
        have hst := HY.out.st
        have k3 := hst.row.cell (i := 3) (by omega)
        simp only [scells] at k3
        clear hown hlt
        cases qs1 with
        | nil =>
          have hfin : ls = fs := HY.out.fin
          have hjN : j = NN := by rw [hj, hfin, HLN.out]
          have HP : Hid (p1 = P) := by have := HY.out.pp; simp only [encC, fb] at this; show p1 = P; omega
          have HS : Hid (IsS wr B S R ao n c X P v os m ∧ Fr (fun k => k = R) w wr) := ⟨by rw [← HP.out]; exact hst, HF4.out.trans HY.out.fr (fun _ _ e => e)⟩
          subst hjN
          obtain ⟨g, off, rfl, hcell⟩ := hri.plain (by omega)
          have hle := hri.le
          have HA : Hid (Ri wr (some ⟨g, off, none⟩) nl lc (fun j => fs.getD j 0)) := ⟨by have := HNN.out; omega, (fun e => by cases e), fun ad had i hi => by rw [← hfin]; exact hri.cells ad had i (by have := HNN.out; omega)⟩
          have HD : Hid (Ri wr (some ⟨g, off + nl, none⟩) nd (lc - nl) (fun j => fs.getD (nl + j) 0)) := ⟨by have := HNN.out; omega, (fun e => by cases e), fun ad had i hi => by
            cases had
            rw [Addr.add_lit, Nat.add_assoc, ← hfin]
            exact hcell (nl + i) (by have := HNN.out; omega)⟩
          have z1 : ¬ (j : Int) < j := by omega
          have z2 : ¬ lc = nl := by have := HNN.out; omega
          have z3 : nl ≤ lc := by have := HNN.out; omega
          have z4 : j ≤ lc := hle
          have z5 : j - nl = nd := by have := HNN.out; omega
          have z6 : nl ≤ j := by have := HNN.out; omega
          clear hj hfin hst hri HY HW hcell
          go_wp2_with fail
          go_region
          all_goals
            go_wp2_with fail
            go_ret2
            rw [← HPQ.out]
            exact ⟨g, off, lc, rfl, HA.out.drew, HD.out.drew, HS.out.1.drew, HS.out.2.drew⟩
        | cons q qs2 =>
          obtain ⟨ok1, ok2, ok3, ok4⟩ : q.ok ls ∧ 0 < C q.sym ∧ C q.sym ≤ 15 ∧ clsOk C qs2 (ls ++ List.replicate q.cnt (q.val ls)) := HY.out.ok
          have hjN : j + q.cnt ≤ NN := by
            have h1 := cls_len qs2 (ls ++ List.replicate q.cnt (q.val ls))
            have h2 : cls qs2 (ls ++ List.replicate q.cnt (q.val ls)) = fs := HY.out.fin
            rw [h2, HLN.out, List.length_append, List.length_replicate, ← hj] at h1
            exact h1
          have hcp := q.cnt_pos
          have z1 : (j : Int) < NN := by omega
          have hlay : Lay X n p1 (gf C 19 q.sym :: (q.ext ++ encC C qs2)) := HY.out.lay
          obtain ⟨e1, e2, e3, hl2⟩ := gf_next hlay ok2
          have A1 := HC.out.kt (HRW.out wr HY.out.fr)
          have hn := rsym_S B S R ao n c X p1 v os m A C 19 q.sym (C q.sym).toNat wr hst A1 HCF.out (Cl.sym_lt ok1) e1 (by omega) (by omega) e2 e3
          have HL2 : Hid (Lay X n (p1 + (C q.sym).toNat) (q.ext ++ encC C qs2)) := hl2
          have HOK : Hid (q.ok ls ∧ clsOk C qs2 (ls ++ List.replicate q.cnt (q.val ls))) := ⟨ok1, ok4⟩
          have HRI : Hid (Ri wr la j lc (fun i => ls.getD i 0)) := hri
          have hcl := Cl.cnt_le ok1
          have HFR : Hid (Fr (fun k => k = R) w4 wr) := HY.out.fr
          have HNR : Hid (∀ q, (Value.slice la j lc).ownBlock = some q → ¬ q = R) := fun q hq e => by have := (HLT.out q hq).1; have := HI4.out.2.1; omega
          have HLA : Hid (∀ ad, la = some ad → ¬ ad.block = R) := fun ad had e => by
            rcases HW.out.2 with ⟨e1, _⟩ | ⟨g, cap, cur, e1, _⟩
            · cases e1; cases had
            · cases e1
              cases had
              exact HNR.out g rfl e
          have HGK : Hid (qs2.length < gk) := by
            have := HY.out.len
            simp at this
            show qs2.length < gk
            omega
          have HPP : Hid (p1 + (C q.sym).toNat + fb q.ext + fb (encC C qs2) = P) := by
            have := HY.out.pp
            simp only [encC, fb, fb_app, gf] at this
            show _ = _
            omega
          have HFN : Hid (cls qs2 (ls ++ List.replicate q.cnt (q.val ls)) = fs) := HY.out.fin
          clear hlay hl2 e1 e2 e3 A1 hst hri ok1 ok2 ok3 ok4 hj HY
          go_wp2_with fail
          refine hn.mono ?_
          rintro e w5 ⟨rfl, hs5, _, hf5⟩
          have HS5 : Hid (IsS w5 B S R ao n c X (p1 + (C q.sym).toNat) v os m) := hs5
          have HF5 : Hid (Fr (fun k => k = R) w4 w5) := HFR.out.trans hf5 (fun _ _ e => e)
          have HO5 : Hid (w5.ownsRow w4.heap.size 3 1 (.slice la j lc) j (ls.map (Value.int .i64))) := ownsRow_fr HW.out hf5 HNR.out
          have HRI5 : Hid (Ri w5 la j lc (fun i => ls.getD i 0)) := HRI.out.fr hf5 (fun ad had _ => HLA.out ad had)
          clear hn hs5 hf5 HW HRI HFR HLT k3
          go_upto_block 4 with fail
          go_cut [14, 15] from 88 to 113 (fun nv xv wx => nv = .int .i64 q.cnt ∧ xv = .int .i64 (q.val ls) ∧ Hid (IsS wx B S R ao n c X (p1 + (C q.sym).toNat + fb q.ext) v os m) ∧ Hid (Fr (fun k => k = R) w5 wx))
          case first =>
            cases q with
            | len x =>
              have hx : x ≤ 15 := HOK.out.1
              simp only [Cl.sym, Cl.cnt, Cl.val, Cl.ext, fb, Nat.add_zero] at *
              have q1 : ((x : Int) == 16) = false := by simp; omega
              have q2 : ((x : Int) == 17) = false := by simp; omega
              have q3 : ((x : Int) == 18) = false := by simp; omega
              go_wp2_with fail
              go_meet
              exact ⟨rfl, rfl, HS5, Fr.refl _ _⟩
            | rep u =>
              obtain ⟨hu, hne⟩ : u < 4 ∧ ls ≠ [] := HOK.out.1
              simp only [Cl.sym, Cl.cnt, Cl.val, Cl.ext, fb, Nat.add_zero] at *
              have hj0 : 0 < j := by rw [HJ.out]; exact List.length_pos_iff.2 hne
              obtain ⟨b, off, rfl, hcell⟩ := HRI5.out.plain hj0
              have hck := hcell (j - 1) (by omega)
              obtain ⟨jj, hjj⟩ : ∃ jj, jj = j - 1 := ⟨_, rfl⟩
              rw [← hjj] at hck
              obtain ⟨xl, hxl⟩ : ∃ xl, xl = ls.getD jj 0 := ⟨_, rfl⟩
              rw [← hxl] at hck
              have HXL : Hid (xl = ls.getD (ls.length - 1) 0) := by rw [← HJ.out, ← hjj]; exact hxl
              have y1 : (j : Int) - 1 = jj := by omega
              have y2 : IntKind.i64.wrap (jj : Int) = jj := wraps_i64 _ (by omega) (by omega)
              have y3 : jj < j := by omega
              have y4 : (jj : Int) < j := by omega
              have y5 : (j == 0) = false := by simp; omega
              have y6 : ((j : Int) == 0) = false := by simp; omega
              obtain ⟨e1, p1', _⟩ := Lay.head (x := ((u : Int), 2)) (l := encC C qs2) HL2.out
              simp only at e1 p1'
              have hget := rget_S B S R ao n c X (p1 + (C 16).toNat) v os m 2 w5 HS5.out (by omega) p1'
              rw [e1] at hget
              obtain ⟨nn, hnn⟩ : ∃ nn, nn = 3 + u := ⟨_, rfl⟩
              have HNU : Hid (nn = 3 + u) := hnn
              have zc : (3 : Int) + (u : Int) = nn := by omega
              have zw : IntKind.i64.wrap (nn : Int) = nn := wraps_i64 _ (by omega) (by omega)
              clear e1 p1' hnn hcell hjj hxl hne
              go_wp2_with fail
              refine hget.mono ?_
              rintro e w6 ⟨rfl, hs6, _, hf6⟩
              go_wp2_with fail
              go_meet
              exact ⟨by rw [HNU.out], by rw [HXL.out], hs6, hf6⟩
            | few u =>
              have hu : u < 8 := HOK.out.1
              simp only [Cl.sym, Cl.cnt, Cl.val, Cl.ext, fb, Nat.add_zero] at *
              obtain ⟨e1, p1', _⟩ := Lay.head (x := ((u : Int), 3)) (l := encC C qs2) HL2.out
              simp only at e1 p1'
              have hget := rget_S B S R ao n c X (p1 + (C 17).toNat) v os m 3 w5 HS5.out (by omega) p1'
              rw [e1] at hget
              obtain ⟨nn, hnn⟩ : ∃ nn, nn = 3 + u := ⟨_, rfl⟩
              have HNU : Hid (nn = 3 + u) := hnn
              have zc : (3 : Int) + (u : Int) = nn := by omega
              have zw : IntKind.i64.wrap (nn : Int) = nn := wraps_i64 _ (by omega) (by omega)
              clear e1 p1' hnn
              go_wp2_with fail
              refine hget.mono ?_
              rintro e w6 ⟨rfl, hs6, _, hf6⟩
              go_wp2_with fail
              go_meet
              exact ⟨by rw [HNU.out], rfl, hs6, hf6⟩
            | many u =>
              have hu : u < 128 := HOK.out.1
              simp only [Cl.sym, Cl.cnt, Cl.val, Cl.ext, fb, Nat.add_zero] at *
              obtain ⟨e1, p1', _⟩ := Lay.head (x := ((u : Int), 7)) (l := encC C qs2) HL2.out
              simp only at e1 p1'
              have hget := rget_S B S R ao n c X (p1 + (C 18).toNat) v os m 7 w5 HS5.out (by omega) p1'
              rw [e1] at hget
              obtain ⟨nn, hnn⟩ : ∃ nn, nn = 11 + u := ⟨_, rfl⟩
              have HNU : Hid (nn = 11 + u) := hnn
              have zc : (11 : Int) + (u : Int) = nn := by omega
              have zw : IntKind.i64.wrap (nn : Int) = nn := wraps_i64 _ (by omega) (by omega)
              clear e1 p1' hnn
              go_wp2_with fail
              refine hget.mono ?_
              rintro e w6 ⟨rfl, hs6, _, hf6⟩
              go_wp2_with fail
              go_meet
              exact ⟨by rw [HNU.out], rfl, hs6, hf6⟩
          case rest =>
            obtain ⟨rfl, rfl, HSx, HFx⟩ := hcut
            obtain ⟨cn, hcn⟩ : ∃ cn, cn = q.cnt := ⟨_, rfl⟩
            obtain ⟨x, hx⟩ : ∃ x, x = q.val ls := ⟨_, rfl⟩
            rw [← hcn] at hjN hcp hcl ⊢
            rw [← hx]
            have HCX : Hid (cn = q.cnt ∧ x = q.val ls) := ⟨hcn, hx⟩
            have k3 := HSx.out.row.cell (i := 3) (by omega)
            simp only [scells] at k3
            have HFX : Hid (Fr (fun k => k = R) w4 _) := HF5.out.trans HFx.out (fun _ _ e => e)
            have HOX : Hid (World.ownsRow _ w4.heap.size 3 1 (.slice la j lc) j (ls.map (Value.int .i64))) := ownsRow_fr HO5.out HFx.out HNR.out
            obtain ⟨dj, hdj⟩ : ∃ dj, dj = NN - j := ⟨_, rfl⟩
            have y1 : (NN : Int) - j = dj := by omega
            have y2 : IntKind.i64.wrap (dj : Int) = dj := wraps_i64 _ (by omega) (by omega)
            have y3 : decide ((dj : Int) < cn) = false := by simp; omega
            have y4 : decide (dj < cn) = false := by simp; omega
            clear hcn hx hdj HO5 HRI5 HFx HS5
            go_wp2_with fail
            go_loopw [12, 16] (fun lv iv wr => ∃ i : Nat, i ≤ cn ∧ iv = .int .i64 i ∧ Hid (wr.ownsRow w4.heap.size 3 1 lv (j + i) ((ls ++ List.replicate i x).map (Value.int .i64))) ∧ Hid (IsS wr B S R ao n c X (p1 + (C q.sym).toNat + fb q.ext) v os m) ∧ Hid (Fr (fun k => k = R) w4 wr)) (fun _ iv _ => cn - (intOf iv).toNat)
            case atStart => exact ⟨0, by omega, rfl, by simpa using HOX, HSx, HFX⟩
            case round =>
              obtain ⟨i, hi', rfl, HO, HSi, HFi⟩ := hrel
              clear HOX HSx HFX k3
              by_cases hlt : i < cn
              · have z7 : (i : Int) < cn := by omega
                obtain ⟨la2, lc2, rfl⟩ := slice_len3 HO.out
                have hsz := HFi.out.size
                have hr2 : i + 1 ≤ cn := by omega
                obtain ⟨ji, hji⟩ : ∃ ji, ji = j + i := ⟨_, rfl⟩
                have HJI : Hid (ji = j + i) := hji
                have HO' : Hid (wr.ownsRow w4.heap.size 3 1 (.slice la2 ji lc2) ji ((ls ++ List.replicate i x).map (Value.int .i64))) := by rw [hji]; exact HO.out
                rw [← hji]
                have hji9 : ji ≤ 2000 := by omega
                clear hji
                go_wp2_with (refine wpList_append_iv rfl _ _ rfl w4.heap.size ji (.slice la2 ji lc2) ((ls ++ List.replicate i x).map (Value.int .i64)) rfl (HO'.out.alloc _) (some ⟨wr.heap.size, 0, none⟩) 1 1 (fun _ => x) rfl (Ri.row (World.rowIs_alloc wr #[Value.int .i64 x] 3 (fun _ => .int .i64 x) (fun i hi => by simp at hi; subst hi; rfl))) (by omega) (by simp; omega) ?_; intro v3 w7 o3 g3)
                obtain ⟨S3, F3⟩ := lens_app HSi.out HFi.out HI4.out HO'.out g3
                have HO3 : Hid (w7.ownsRow w4.heap.size 3 1 v3 (j + (i + 1)) ((ls ++ List.replicate (i + 1) x).map (Value.int .i64))) := by
                  have e1 : ls ++ List.replicate (i + 1) x = (ls ++ List.replicate i x) ++ [x] := by rw [List.replicate_succ', List.append_assoc]
                  have e2 : ivs (fun _ => x) 1 = [Value.int .i64 x] := rfl
                  show w7.ownsRow _ _ _ _ _ _
                  rw [e1, List.map_append, show j + (i + 1) = ji + 1 by rw [HJI.out]; omega]
                  rw [e2] at o3
                  exact o3
                have HS3 : Hid (IsS w7 B S R ao n c X (p1 + (C q.sym).toNat + fb q.ext) v os m) := S3
                have HF3 : Hid (Fr (fun k => k = R) w4 w7) := F3
                clear S3 F3 o3 g3 HO HO' HSi HFi hsz
                go_roundw
                case rel => exact ⟨i + 1, hr2, by go_num, HO3, HS3, HF3⟩
                case measure => simp [intOf]; omega
              · obtain rfl : i = cn := by omega
                have z7 : ¬ (i : Int) < i := by omega
                have HNX : Hid (Lg C B S R ao n c X v os m w4 fs P qs2.length u12 wr qs2 (p1 + (C q.sym).toNat + fb q.ext) (ls ++ List.replicate q.cnt (q.val ls))) := by
                  refine ⟨rfl, HSi.out, HL2.out.tail, HOK.out.2, HFN.out, HPP.out, ?_, HFi.out⟩
                  rw [← HCX.out.1, ← HCX.out.2, List.length_append, List.length_replicate, ← HJ.out]
                  exact HO.out
                clear HO HSi HFi hlt HOK HL2 HFN HPP HCX
                go_wp2_with fail
                go_roundg qs2.length
                case measure => exact HGK.out
                case rel => exact ⟨qs2, _, _, HNX⟩

end Go.Proofs.YtiahbicodlgmhaaGreatDoor.D
