/- CmT, CmU, CmV. -/
import Derived.Test.YtojgablpjdlegaaGreatDoorMC08
import Derived.Test.YtojgablpjdlegaaGreatDoorMC07
import Derived.Test.YtojgablpjdlegaaGreatDoorMC06
import Derived.Test.YtojgablpjdlegaaGreatDoorM17
/- May a tag be? -/
namespace Go.Proofs.YtojgablpjdlegaaGreatDoor
open Go.RowKit

/-- May a tag be? -/
def mbT (k : Int) (N G : List UInt8) : Bool := isK k && (txtB N 100 && txtB G 200)

/-- A tag. -/
abbrev tmv (x : List Int) (k : Int) (N G M : List UInt8) : Value := row (tf x k N G M) 24

set_option maxRecDepth 100000 in
set_option maxHeartbeats 4000000 in
theorem mayBeT_any (x : List Int) (k : Int) (N G M : List UInt8) (w : World) (hg : Gs w) (hN : N.length ≤ 1000000) (hG : G.length ≤ 1000000) :
    Calls Tryz.prog 81 #[tmv x k N G M] w fun e w' => e = .returned (.bool (mbT k N G)) ∧ Below w.heap.size w w' := by
  have hz := zero56
  obtain ⟨W, hW⟩ : ∃ W, W = w.alloc (Obj.cells (vals (tf x k N G M) 24).toArray 56) := ⟨_, rfl⟩
  have bW : Below w.heap.size w W := by rw [hW]; exact new_below _ _
  have gW : Gs W := hg.keep bW
  have rW : W.rowIs w.heap.size 56 24 (tf x k N G M) := by rw [hW]; exact rowIs_vals _ _ _ _
  have HIK := isKind_any k W gW
  have HR : Hid (∀ V, Below W.heap.size W V → V.cell? ⟨w.heap.size, 21, none⟩ = some (sv N) ∧ V.cell? ⟨w.heap.size, 22, none⟩ = some (sv G)) := fun V hV => by
    have h := rowIs_fr (P := fun _ => False) rW (Fr.ofBelow hV) (fun h => h)
    exact ⟨h.cell (i := 21) (by omega), h.cell (i := 22) (by omega)⟩
  have c20 : W.cell? ⟨w.heap.size, 20, none⟩ = some (.int .i64 k) := rW.cell (i := 20) (by omega)
  have HTN : Hid (∀ V, Calls Tryz.prog 101 #[sv N, .int .i64 100] V (fun e w' => e = .returned (.bool (txtB N 100)) ∧ Below V.heap.size V w')) := fun V => text_any N 100 V hN
  have HTG : Hid (∀ V, Calls Tryz.prog 101 #[sv G, .int .i64 200] V (fun e w' => e = .returned (.bool (txtB G 200)) ∧ Below V.heap.size V w')) := fun V => text_any G 200 V hG
  have HB : Hid (Below w.heap.size w W) := bW
  have HM : Hid (mbT k N G = (isK k && (txtB N 100 && txtB G 200))) := rfl
  have hv20 : (vals (tf x k N G M) 24)[20]? = some (.int .i64 k) := vals_get (tf x k N G M) 24 20 (by omega)
  have HBk : ∀ V, Below W.heap.size W V → V.cell? ⟨w.heap.size, 21, none⟩ = some (sv N) ∧ V.cell? ⟨w.heap.size, 22, none⟩ = some (sv G) := HR.out
  clear hN hG gW hg rW bW c20
  generalize isK k = bk at *
  generalize txtB N 100 = bn at *
  generalize txtB G 200 = bg at *
  cases bk with
  | false =>
    go_enter Tryz.func81, Tryz.ntmps81
    go_wp2_with (first
      | (go_at_call 48; rw [← hW]; refine HIK.mono ?_; rintro e w2 ⟨rfl, hw2⟩; subst w2; clear hW))
    go_ret
    exact ⟨by rw [HM.out]; rfl, HB.out⟩
  | true =>
    cases bn with
    | false =>
      go_enter Tryz.func81, Tryz.ntmps81
      obtain ⟨c21, c22⟩ := HBk W (Below.refl _ _)
      go_wp2_with (first
        | (go_at_call 101; refine (HTN.out W).mono ?_; rintro e w3 ⟨rfl, b3⟩; have B3 : Hid (Below W.heap.size W w3) := b3; clear b3)
        | (go_at_call 48; rw [← hW]; refine HIK.mono ?_; rintro e w2 ⟨rfl, hw2⟩; subst w2; clear hW))
      go_ret
      exact ⟨by rw [HM.out]; rfl, HB.out.trans (B3.out.mono HB.out.size)⟩
    | true =>
      go_enter Tryz.func81, Tryz.ntmps81
      obtain ⟨c21, c22⟩ := HBk W (Below.refl _ _)
      go_wp2_with (first
        | (go_at_call 101; refine (HTG.out w3).mono ?_; rintro e w4 ⟨rfl, b4⟩; have B4 : Hid (Below W.heap.size W w4) := B3.out.trans (b4.mono B3.out.size); clear b4)
        | (go_at_call 101; refine (HTN.out W).mono ?_; rintro e w3 ⟨rfl, b3⟩; have B3 : Hid (Below W.heap.size W w3) := b3; obtain ⟨d21, d22⟩ := HBk w3 b3; clear b3)
        | (go_at_call 48; rw [← hW]; refine HIK.mono ?_; rintro e w2 ⟨rfl, hw2⟩; subst w2; clear hW))
      go_ret
      exact ⟨by rw [HM.out]; rfl, HB.out.trans (B4.out.mono HB.out.size)⟩

end Go.Proofs.YtojgablpjdlegaaGreatDoor

/- A tag written, whatever it is. -/
namespace Go.Proofs.YtojgablpjdlegaaGreatDoor
open Go.RowKit

abbrev obw : List UInt8 := [111, 98, 106, 101, 99, 116]
abbrev tyw : List UInt8 := [116, 121, 112, 101]
abbrev taw : List UInt8 := [116, 97, 103]
abbrev tgw : List UInt8 := [116, 97, 103, 103, 101, 114]

/-- A tag's lines, its bytes. -/
def tls (x : List Int) (k : Int) (N G : List UInt8) : List (List UInt8 × List UInt8) := [(obw, tb (hx x)), (tyw, wl k), (taw, N), (tgw, G)]

def encT (x : List Int) (k : Int) (N G M : List UInt8) : List UInt8 := wls (tls x k N G) ++ [10] ++ M

set_option maxRecDepth 100000 in
set_option maxHeartbeats 4000000 in
theorem encodeTag_no (x : List Int) (k : Int) (N G M : List UInt8) (w : World) (hg : Gs w) (hN : N.length ≤ 1000000) (hG : G.length ≤ 1000000) (hm : mbT k N G = false) :
    Calls Tryz.prog 44 #[tmv x k N G M] w fun e w' => e = .returned (.tuple #[nlv, .int .i64 1]) ∧ Below w.heap.size w w' := by
  have hz := zero56
  obtain ⟨W, hW⟩ : ∃ W, W = w.alloc (Obj.cells (vals (tf x k N G M) 24).toArray 56) := ⟨_, rfl⟩
  have bW : Below w.heap.size w W := by rw [hW]; exact new_below _ _
  have hmb := mayBeT_any x k N G M W (hg.keep bW) hN hG
  rw [hm] at hmb
  have HB : Hid (Below w.heap.size w W) := bW
  have r0 := rowIs_vals w (tf x k N G M) 24 56
  clear bW hm hN hG hg
  go_enter Tryz.func44, Tryz.ntmps44
  go_wp2_with ((refine wpList_ld0 rfl 56 _ rfl w.heap.size rfl _ r0 24 (Nat.le_refl _) Tryz.underlying56 rfl (by kernel_rfl) ?_))
  rw [← hW]
  clear hW r0
  refine hmb.mono ?_
  rintro ex w1 ⟨rfl, b1⟩
  have HB1 : Hid (Below w.heap.size w w1) := HB.out.trans (b1.mono HB.out.size)
  clear hmb b1
  go_wp2
  go_ret2
  exact ⟨rfl, HB1.out⟩

theorem own_fs4 (w : World) (a b c d : List UInt8 × List UInt8) : (w.alloc (.cells #[sv a.1, sv a.2, sv b.1, sv b.2, sv c.1, sv c.2, sv d.1, sv d.2] 127)).ownsRow w.heap.size 127 2 (.slice (some ⟨w.heap.size, 0, none⟩) 4 4) 4 (fcs [a, b, c, d]) :=
  World.ownsRow_lit (base := w.heap.size) (e := 127) (size := 2) w #[sv a.1, sv a.2, sv b.1, sv b.2, sv c.1, sv c.2, sv d.1, sv d.2] 4 (Nat.le_refl _) (by unfold maxLen; omega) rfl

theorem wl_short (k : Int) : (wl k).length ≤ 10 := by
  unfold wl wrd
  repeat' split
  all_goals decide

set_option maxRecDepth 100000 in
set_option maxHeartbeats 8000000 in
theorem encodeTag_any (x : List Int) (k : Int) (N G M : List UInt8) (w : World) (hx : IsId x) (hg : Gs w) (hM : M.length ≤ 100000) (hm : mbT k N G = true) :
    Calls Tryz.prog 44 #[tmv x k N G M] w fun e w' => ∃ ao n c, e = .returned (.tuple #[.slice ao n c, .int .i64 (if (encT x k N G M).length ≤ 16384 then 0 else 5)]) ∧ Rd w' ao n c (if (encT x k N G M).length ≤ 16384 then tn (encT x k N G M) else []) ∧ Below w.heap.size w w' := by
  obtain ⟨E, hE⟩ : ∃ E : Int, E = if (encT x k N G M).length ≤ 16384 then 0 else 5 := ⟨_, rfl⟩
  obtain ⟨X, hX⟩ : ∃ X : List Int, X = if (encT x k N G M).length ≤ 16384 then tn (encT x k N G M) else [] := ⟨_, rfl⟩
  rw [← hE, ← hX]
  have HEX : Hid ((E = if (encT x k N G M).length ≤ 16384 then 0 else 5) ∧ X = if (encT x k N G M).length ≤ 16384 then tn (encT x k N G M) else []) := ⟨hE, hX⟩
  clear hE hX
  have hparts : isK k = true ∧ txtB N 100 = true ∧ txtB G 200 = true := by
    unfold mbT at hm
    simp at hm
    exact ⟨hm.1, hm.2.1, hm.2.2⟩
  have hNl : N.length ≤ 100 := by
    have := hparts.2.1
    unfold txtB at this
    simp at this
    omega
  have hGl := txt_len G hparts.2.2
  have hz := zero56
  obtain ⟨W, hW⟩ : ∃ W, W = w.alloc (Obj.cells (vals (tf x k N G M) 24).toArray 56) := ⟨_, rfl⟩
  have rW : W.rowIs w.heap.size 56 24 (tf x k N G M) := by rw [hW]; exact rowIs_vals _ _ _ _
  have bW : Below w.heap.size w W := by rw [hW]; exact new_below _ _
  have hmb := mayBeT_any x k N G M W (hg.keep bW) (by omega) (by omega)
  rw [hm] at hmb
  have HR : Hid (∀ V, Below W.heap.size W V → V.rowIs w.heap.size 56 24 (tf x k N G M)) := fun V hV => rowIs_fr (P := fun _ => False) rW (Fr.ofBelow hV) (fun h => h)
  have HRA : Hid (∀ V, Below W.heap.size W V → V.rangeAt w.heap.size 0 (vals (cl x) 20) ∧ V.cell? ⟨w.heap.size, 20, none⟩ = some (.int .i64 k) ∧ V.cell? ⟨w.heap.size, 21, none⟩ = some (sv N) ∧ V.cell? ⟨w.heap.size, 22, none⟩ = some (sv G) ∧ V.cell? ⟨w.heap.size, 23, none⟩ = some (sv M)) := fun V hV => by
    have h := HR.out V hV
    refine ⟨?_, h.cell (i := 20) (by omega), h.cell (i := 21) (by omega), h.cell (i := 22) (by omega), h.cell (i := 23) (by omega)⟩
    have h0 := rangeAt_row h 0 20 (by omega)
    rwa [vals_congr (fun j => tf x k N G M (0 + j)) (cl x) 20 (fun j hj => by unfold tf; rw [Nat.zero_add, if_pos hj])] at h0
  have HGS : Hid (∀ V, Below W.heap.size W V → Gs V) := fun V hV => (hg.keep bW).keep hV
  have HB : Hid (Below w.heap.size w W) := bW
  have HX0 : Hid (IsId x) := hx
  have HBD : Hid (N.length ≤ 100 ∧ G.length ≤ 200 ∧ M.length ≤ 100000) := ⟨hNl, hGl, hM⟩
  have HWs : Hid (w.heap.size ≤ W.heap.size) := bW.size
  have r0 := rowIs_vals w (tf x k N G M) 24 56
  clear hg bW hx hm hNl hGl hM hparts rW
  go_enter Tryz.func44, Tryz.ntmps44
  go_wp2_with ((refine wpList_ld0 rfl 56 _ rfl w.heap.size rfl _ r0 24 (Nat.le_refl _) Tryz.underlying56 rfl (by kernel_rfl) ?_))
  rw [← hW]
  clear hW r0
  refine hmb.mono ?_
  rintro ex w1 ⟨rfl, b1⟩
  have HB1 : Hid (Below W.heap.size W w1) := b1
  clear hmb b1
  obtain ⟨y, hy⟩ : ∃ y, y = tb (hx x) := ⟨_, rfl⟩
  have HY : Hid (y = tb (hx x)) := hy
  have hhx : ∀ V, Calls Tryz.prog 74 #[idv x] V fun e w' => e = .returned (sv y) ∧ Below V.heap.size V w' := fun V => by
    have h := hex_any x HX0.out V
    rw [tb_sv, ← hy] at h
    exact h
  have HHX : Hid (∀ V, Calls Tryz.prog 74 #[idv x] V fun e w' => e = .returned (sv y) ∧ Below V.heap.size V w') := hhx
  clear hy hhx
  go_wp2_with fail
  have hbd : Below W.heap.size W w1.drew := HB1.out.drew
  obtain ⟨k0, k1, k2, k3, k4⟩ := HRA.out w1 HB1.out
  obtain ⟨j0, j1, j2, j3, j4⟩ := HRA.out w1.drew hbd
  have hu27 := Tryz.underlying27
  have hi27 : (Tryz.prog.info? 27).map (·.size) = some (vals (cl x) 20).length := by rw [vals_len]; exact size23
  have HBD1 : Hid (Below W.heap.size W w1.drew) := hbd
  have HWD : Hid (Calls Tryz.prog 15 #[.int .i64 k] w1.drew fun e w' => e = .returned (sv (wl k)) ∧ w' = w1.drew) := word_sv k _ (HGS.out _ hbd)
  have HWD2 : Hid (∀ V, Below W.heap.size W V → Calls Tryz.prog 15 #[.int .i64 k] V fun e w' => e = .returned (sv (wl k)) ∧ w' = V) := fun V hV => word_sv k _ (HGS.out _ hV)
  clear hbd
  go_region_held3 (fun w' => w'.rangeAt w.heap.size 0 (vals (cl x) 20) ∧ w'.cell? ⟨w.heap.size, 20, none⟩ = some (.int .i64 k) ∧ w'.cell? ⟨w.heap.size, 21, none⟩ = some (sv N) ∧ w'.cell? ⟨w.heap.size, 22, none⟩ = some (sv G)) (first | go_keep_ranges | ((try dsimp only); refine ⟨World.rangeAt_alloc (by assumption) _, ?_, ?_, ?_⟩ <;> go_keep)) (first
    | (go_at_call 74; refine (HHX.out _).mono ?_; rintro e wH ⟨rfl, bH⟩; have BH : Hid (Below W.heap.size W wH) := HBD1.out.trans (bH.mono HBD1.out.size); obtain ⟨l0, l1, l2, l3, l4⟩ := HRA.out wH BH.out; clear bH)
    | (go_at_call 15; refine HWD.out.mono ?_; rintro e wK ⟨rfl, hwK⟩; subst hwK)
    | (go_at_call 15; refine (HWD2.out _ BH.out).mono ?_; rintro e wK ⟨rfl, hwK⟩; subst hwK))
  have HO : Hid ((wK.alloc (Obj.cells #[sv obw, sv y, sv tyw, sv (wl k), sv taw, sv N, sv tgw, sv G] 127)).ownsRow wK.heap.size 127 2 (.slice (some ⟨wK.heap.size, 0, none⟩) 4 4) 4 (fcs [(obw, y), (tyw, wl k), (taw, N), (tgw, G)])) := own_fs4 wK _ _ _ _
  have hbA := new_below wK (Obj.cells #[sv obw, sv y, sv tyw, sv (wl k), sv taw, sv N, sv tgw, sv G] 127)
  obtain ⟨w4, hw4⟩ : ∃ V, V = wK.alloc (Obj.cells #[sv obw, sv y, sv tyw, sv (wl k), sv taw, sv N, sv tgw, sv G] 127) := ⟨_, rfl⟩
  have e4 : wK.alloc (Obj.cells #[.string ⟨#[111, 98, 106, 101, 99, 116]⟩, sv y, .string ⟨#[116, 121, 112, 101]⟩, sv (wl k), .string ⟨#[116, 97, 103]⟩, sv N, .string ⟨#[116, 97, 103, 103, 101, 114]⟩, sv G] 127) = w4 := hw4.symm
  rw [← hw4] at HO hbA
  rw [e4]
  have B4 : Below W.heap.size W w4 := BH.out.trans (hbA.mono BH.out.size)
  have c23 : w4.cell? ⟨w.heap.size, 23, none⟩ = some (sv M) := (HRA.out w4 B4).2.2.2.2
  obtain ⟨B, hBe⟩ : ∃ B, B = wK.heap.size := ⟨_, rfl⟩
  rw [← hBe] at HO ⊢
  have HB4 : Hid (Below w.heap.size w w4) := HB.out.trans (B4.mono HWs.out)
  have HF : Hid ([(obw, y), (tyw, wl k), (taw, N), (tgw, G)] = tls x k N G) := by show _ = _; rw [HY.out]; rfl
  obtain ⟨fs, hfs⟩ : ∃ fs, fs = [(obw, y), (tyw, wl k), (taw, N), (tgw, G)] := ⟨_, rfl⟩
  rw [← hfs] at HO HF
  have HFS : Hid (fs = [(obw, y), (tyw, wl k), (taw, N), (tgw, G)]) := hfs
  rename_i hHeld
  clear hHeld
  clear hfs e4 hw4 hBe hbA B4 k0 k1 k2 k3 k4 j0 j1 j2 j3 j4 l0 l1 l2 l3 l4 HWD HWD2
  go_wp2_with fail
  obtain ⟨g, cap2, hge, hfl, hfn⟩ := fl_own HO.out (by omega)
  have hyl : y.length = 40 := by rw [HY.out]; exact hex_len x HX0.out
  have hwl : (wl k).length ≤ 10 := wl_short k
  have hsh : short fs := fun z hz2 => by
    have h1 := HBD.out
    rw [HFS.out] at hz2
    simp only [List.mem_cons, List.not_mem_nil, or_false] at hz2
    rcases hz2 with rfl | rfl | rfl | rfl
    · exact ⟨by show obw.length ≤ 1000; decide, by show y.length ≤ 1000; omega⟩
    · exact ⟨by show tyw.length ≤ 1000; decide, by show (wl k).length ≤ 1000; omega⟩
    · exact ⟨by show taw.length ≤ 1000; decide, by show N.length ≤ 1000; omega⟩
    · exact ⟨by show tgw.length ≤ 1000; decide, by show G.length ≤ 1000; omega⟩
  have hgc : B = g ∧ 4 = cap2 := by simpa using hge
  have hwr := written_any g 4 cap2 (cap2 * 2) fs M w4 hfl hfn hsh (by omega) (by have := HBD.out; omega)
  rw [← hgc.1, ← hgc.2] at hwr
  have HE : Hid (wls fs ++ [10] ++ M = encT x k N G M) := by show _ = _; rw [HF.out]; rfl
  have hcl : (encT x k N G M).length = (wls fs).length + 1 + M.length := by rw [← HE.out]; simp only [List.length_append, List.length_cons, List.length_nil]
  rw [HE.out, ← hcl] at hwr
  clear hfl hfn hcl c23 hsh hyl hwl hge hgc
  obtain ⟨L, hL⟩ : ∃ L, L = (encT x k N G M).length := ⟨_, rfl⟩
  have HL : Hid (L = (encT x k N G M).length) := hL
  rw [← hL] at hwr
  clear hL
  refine hwr.mono ?_
  rintro ex w5 ⟨v5, rfl, o5, b5⟩
  obtain ⟨a5, c5, rfl, hrd, _⟩ := own_rd o5 (tn_byt _)
  have HB5 : Hid (Below w.heap.size w w5) := HB4.out.trans (b5.mono HB4.out.size)
  have HRd : Hid (Rd w5 a5 L c5 (tn (encT x k N G M))) := hrd
  clear hwr b5 o5 hrd
  by_cases hL5 : L ≤ 16384
  · have hbd := bounded_ok a5 L c5 w5 hL5
    have hle : (encT x k N G M).length ≤ 16384 := by rw [← HL.out]; exact hL5
    obtain ⟨e1, e2⟩ := HEX.out
    rw [if_pos hle] at e1 e2
    subst e1
    clear hL5 hle
    go_wp2_with (go_at_call 66; refine hbd.mono ?_; rintro ex wz ⟨rfl, hwz⟩; subst wz)
    go_ret2
    rw [e2]
    exact ⟨_, _, _, rfl, HRd.out, HB5.out⟩
  · have hbd := bounded_far a5 L c5 w5 (by omega)
    have hle : ¬ (encT x k N G M).length ≤ 16384 := by rw [← HL.out]; exact hL5
    obtain ⟨e1, e2⟩ := HEX.out
    rw [if_neg hle] at e1 e2
    subst e1
    clear hL5 hle
    go_wp2_with (go_at_call 66; refine hbd.mono ?_; rintro ex wz ⟨rfl, hwz⟩; subst wz)
    go_ret2
    rw [e2]
    exact ⟨_, _, _, rfl, Rd.nil _, HB5.out⟩

end Go.Proofs.YtojgablpjdlegaaGreatDoor

/- A tag read, whatever the bytes. -/
namespace Go.Proofs.YtojgablpjdlegaaGreatDoor
open Go.RowKit

/-- What a tag's bytes say; the fault at the end. -/
structure Tgg (l : List UInt8) (e : Int) (T : List Int) (K : Int) (N G M : List UInt8) (e6 : Int) : Prop where
  ex : ∃ l1 e1 ty l2 e2 l3 e3 l4 e4 e5, (par (ns ⟨(lin obw l).1.toArray⟩)).1 = T ∧ (lin obw l).2 = l1 ∧ idE obw l e = e1 ∧ lin tyw l1 = (ty, l2) ∧ nd (lnF tyw l1).2.2 e1 2 = e2 ∧ (kof ty).1 = K ∧ lin taw l2 = (N, l3) ∧ nd (lnF taw l2).2.2 e2 2 = e3 ∧ lin tgw l3 = (G, l4) ∧ nd (lnF tgw l3).2.2 e3 2 = e4 ∧ msL l4 = M ∧ msE l4 e4 = e5 ∧ nd (mbT K N G) e5 2 = e6

theorem tgg_ex (l : List UInt8) (e : Int) : ∃ T K N G M e6, Tgg l e T K N G M e6 :=
  ⟨_, _, _, _, _, _, ⟨⟨_, _, _, _, _, _, _, _, _, _, rfl, rfl, rfl, rfl, rfl, rfl, rfl, rfl, rfl, rfl, rfl, rfl, rfl⟩⟩⟩

theorem setT {w : World} {b : Nat} {t : List Int} {k : Int} {a c m : List UInt8} (h : w.rowIs b 56 24 (tf t k a c m)) (i : Nat) (v : Value) (k' : Int) (a' c' m' : List UInt8) (he : ∀ j, j < 24 → tf t k' a' c' m' j = if j = i then v else tf t k a c m j) : (w.setCell ⟨b, i, none⟩ v).rowIs b 56 24 (tf t k' a' c' m') ∧ Fr (fun k => k = b) w (w.setCell ⟨b, i, none⟩ v) :=
  ⟨set_row h i v he, set_fr w b i _⟩

theorem tf20 (t : List Int) (k k' : Int) (a c m : List UInt8) (j : Nat) (_ : j < 24) : tf t k' a c m j = if j = 20 then .int .i64 k' else tf t k a c m j := by
  unfold tf
  by_cases h : j = 20
  · subst h; rfl
  · rw [if_neg h, if_neg h, if_neg h]

theorem tf21 (t : List Int) (k : Int) (a c m x : List UInt8) (j : Nat) (_ : j < 24) : tf t k x c m j = if j = 21 then sv x else tf t k a c m j := by
  unfold tf
  by_cases h : j = 21
  · subst h; rfl
  · rw [if_neg h, if_neg h, if_neg h]

theorem tf22 (t : List Int) (k : Int) (a c m x : List UInt8) (j : Nat) (_ : j < 24) : tf t k a x m j = if j = 22 then sv x else tf t k a c m j := by
  unfold tf
  by_cases h : j = 22
  · subst h; rfl
  · rw [if_neg h, if_neg h, if_neg h]

theorem tf23 (t : List Int) (k : Int) (a c m x : List UInt8) (j : Nat) (hj : j < 24) : tf t k a c x j = if j = 23 then sv x else tf t k a c m j := by
  unfold tf
  by_cases h : j = 23
  · subst h; rfl
  · rw [if_neg h]
    by_cases h2 : j < 20
    · rw [if_pos h2, if_pos h2]
    · rw [if_neg h2, if_neg h2]
      by_cases h3 : j = 20
      · rw [if_pos h3, if_pos h3]
      · rw [if_neg h3, if_neg h3]
        by_cases h4 : j = 21
        · rw [if_pos h4, if_pos h4]
        · rw [if_neg h4, if_neg h4, if_pos (by omega), if_pos (by omega)]

theorem set27t {w : World} {b : Nat} {t : List Int} {k : Int} {a c m : List UInt8} (h : w.rowIs b 56 24 (tf t k a c m)) (x : List Int) : (w.setCells b 0 (vals (cl x) 20)).rowIs b 56 24 (tf x k a c m) ∧ Fr (fun k => k = b) w (w.setCells b 0 (vals (cl x) 20)) := by
  refine ⟨(rowIs_setCells (vals (cl x) 20) 0 w _ h).congr (fun j hj => ?_), Fr.setCells (P := fun k => k = b) rfl _ _ _ _ (Fr.refl _ _)⟩
  rw [vals_len]
  unfold tf
  by_cases h20 : j < 20
  · rw [if_pos (by omega), if_pos h20, Nat.sub_zero, vals_get _ _ _ h20]
    rfl
  · rw [if_neg (by omega), if_neg h20, if_neg h20]

theorem wpList_bs45 {ops : Array Oper} {rest : List Oper} {op : Oper} {a : Act} {w : World} {Q : Exit → Act → World → Prop} (hgd : op.guard = none) (y : Operand) (ho : op.op = .buildSlice 45 1 #[(0, y)]) (x : List Int) (hy : a.eval y = idv x)
    (hk : ∀ w', w' = w.alloc (.cells (vals (cl x) 20).toArray 27) → wpList Tryz.prog ops Q rest (a.put op.dst (.slice (some ⟨w.heap.size, 0, none⟩) 1 1)) w') : wpList Tryz.prog ops Q (op :: rest) a w := by
  refine wpList_plain hgd fun K hK => ?_
  have h := run_bs45 x w
  unfold Oper.wp
  simp only [execOp, ho, List.map_toArray, List.map_cons, List.map_nil, hy, Sem.run_bind, h, Result.andThen_ok, Sem.run_pure]
  exact hK _ _ (hk _ rfl)

theorem run_pt (t : List Int) (k : Int) (b c m : List UInt8) (ed : Value) (w : World) (he : ed.oneCell' = true) : (Instr.build 107 #[(2, tmv t k b c m), (3, ed)]).run Tryz.prog w = .ok (psv nlv (cf z20 nlv [] [] []) (tf t k b c m) ed) w := by
  cases ed <;> first | (cases he; done) | kernel_rfl

theorem wpList_bt {ops : Array Oper} {rest : List Oper} {op : Oper} {a : Act} {w : World} {Q : Exit → Act → World → Prop} (hgd : op.guard = none) (x y : Operand) (ho : op.op = .build 107 #[(2, x), (3, y)]) (t : List Int) (k : Int) (b c m : List UInt8) (ed : Value) (he : ed.oneCell' = true) (hx : a.eval x = tmv t k b c m) (hy : a.eval y = ed)
    (hk : wpList Tryz.prog ops Q rest (a.put op.dst (psv nlv (cf z20 nlv [] [] []) (tf t k b c m) ed)) w) : wpList Tryz.prog ops Q (op :: rest) a w := by
  refine wpList_plain hgd fun K hK => ?_
  have h := run_pt t k b c m ed w he
  unfold Oper.wp
  simp only [execOp, ho, List.map_toArray, List.map_cons, List.map_nil, hx, hy, Sem.run_bind, h, Result.andThen_ok, Sem.run_pure]
  exact hK _ _ hk

set_option maxRecDepth 100000 in
set_option maxHeartbeats 8000000 in
theorem tagR (R : Nat) (l : List UInt8) (e : Int) (T : List Int) (K : Int) (N G M : List UInt8) (e6 : Int) (w : World) (hg : Gs w) (hR : 9 < R) (h : w.rowIs R 150 2 (rf l e)) (hs : l.length ≤ 50000) (hm : Tgg l e T K N G M e6) :
    Calls Tryz.prog 120 #[.pointer (some ⟨R, 0, none⟩)] w fun ex w' => ∃ ve, ex = .returned (psv nlv (cf z20 nlv [] [] []) (tf T K N G M) ve) ∧ Dp (w.heap.size + 2) w' ve #[T] ∧ w'.rowIs R 150 2 (rf [] e6) ∧ Fr (fun i => i = R) w w' := by
  obtain ⟨l1, e1, ty, l2, e2, l3, e3, l4, e4, e5, hT, hl1, he1, hty, he2, hK, hN, he3, hG, he4, hM, he5, he6⟩ := hm.ex
  have n1 : l1.length ≤ 50000 := by rw [← hl1]; exact Nat.le_trans (lin_len obw l).2 hs
  have n2 : l2.length ≤ 50000 := by have := (lin_len tyw l1).2; rw [hty] at this; exact Nat.le_trans this n1
  have n3 : l3.length ≤ 50000 := by have := (lin_len taw l2).2; rw [hN] at this; exact Nat.le_trans this n2
  have n4 : l4.length ≤ 50000 := by have := (lin_len tgw l3).2; rw [hG] at this; exact Nat.le_trans this n3
  have nN : N.length ≤ 50000 := by have := (lin_len taw l2).1; rw [hN] at this; exact Nat.le_trans this n2
  have nG : G.length ≤ 50000 := by have := (lin_len tgw l3).1; rw [hG] at this; exact Nat.le_trans this n3
  have HIDT : Hid (IsId T) := by show IsId T; rw [← hT]; exact par_id _
  have hz := zero107
  have hz2 := zero56
  have hRl : R < w.heap.size := h.lt
  obtain ⟨W, hW⟩ : ∃ W, W = (w.alloc (Obj.cells (vals (psf nlv (cf z20 nlv [] [] []) (tf z20 0 [] [] []) nlv) 50).toArray 107)).alloc (Obj.cells (vals (tf z20 0 [] [] []) 24).toArray 56) := ⟨_, rfl⟩
  have bA := new_below w (Obj.cells (vals (psf nlv (cf z20 nlv [] [] []) (tf z20 0 [] [] []) nlv) 50).toArray 107)
  have bW : Below w.heap.size w W := by rw [hW]; exact bA.alloc bA.size _
  have HP0 : Hid (W.rowIs w.heap.size 107 50 (psf nlv (cf z20 nlv [] [] []) (tf z20 0 [] [] []) nlv)) := by rw [hW]; exact rowIs_fr (P := fun _ => False) (rowIs_vals w _ 50 107) (Fr.ofBelow (new_below _ _)) (fun h => h)
  have c0 : W.rowIs (w.heap.size + 1) 56 24 (tf z20 0 [] [] []) := by rw [hW]; have := rowIs_vals (w.alloc (Obj.cells (vals (psf nlv (cf z20 nlv [] [] []) (tf z20 0 [] [] []) nlv) 50).toArray 107)) (tf z20 0 [] [] []) 24 56; simpa using this
  have r0 : W.rowIs R 150 2 (rf l e) := rowIs_fr (P := fun _ => False) h (Fr.ofBelow bW) (fun h => h)
  have HF0 : Hid (Fr (fun i => i = R) w W) := Fr.ofBelow bW
  have HG : Hid (∀ V, Fr (fun i => i = R) w V → Gs V) := fun V hV => hg.fr hV hR
  have hid := id_any R obw l e W (HG.out W HF0.out) r0 (by omega) (by decide)
  rw [hT, hl1, he1] at hid
  have HC0 : Hid (W.rowIs (w.heap.size + 1) 56 24 (tf z20 0 [] [] [])) := c0
  have HWz : Hid (w.heap.size + 2 ≤ W.heap.size) := by show _ ≤ _; rw [hW]; simp
  obtain ⟨P0, hP0⟩ : ∃ P0, P0 = w.heap.size := ⟨_, rfl⟩
  obtain ⟨C0, hC0⟩ : ∃ C0, C0 = w.heap.size + 1 := ⟨_, rfl⟩
  obtain ⟨B, hB0⟩ : ∃ B, B = w.heap.size + 2 := ⟨_, rfl⟩
  have HPC : Hid (w.heap.size = P0 ∧ w.heap.size + 1 = C0) := ⟨hP0.symm, hC0.symm⟩
  have HNE : Hid (P0 ≠ R ∧ C0 ≠ R ∧ P0 ≠ C0 ∧ w.heap.size ≤ P0 ∧ w.heap.size ≤ C0) := by show _ ∧ _; omega
  have HLB : Hid (P0 < B ∧ C0 < B ∧ R < B ∧ B = w.heap.size + 2) := by show _ ∧ _; omega
  rw [← hB0] at HWz
  rw [← hB0]
  clear bA bW c0 r0 hg h hm hB0
  go_enter Tryz.func120, Tryz.ntmps120
  go_wp2_with fail
  rw [← hW]
  rw [← hP0] at HP0
  rw [← hC0] at HC0
  clear hW
  refine hid.mono ?_
  rintro ex w1 ⟨rfl, r1, f1⟩
  have HF1 : Hid (Fr (fun i => i = R) w w1) := HF0.out.trans f1 (fun _ _ h => h)
  have HP1 : Hid (w1.rowIs P0 107 50 (psf nlv (cf z20 nlv [] [] []) (tf z20 0 [] [] []) nlv)) := rowIs_fr HP0.out f1 HNE.out.1
  have c1 : w1.rowIs C0 56 24 (tf z20 0 [] [] []) := rowIs_fr HC0.out f1 HNE.out.2.1
  have HR1 : Hid (w1.rowIs R 150 2 (rf l1 e1)) := r1
  have HZ1 : Hid (B ≤ w1.heap.size) := Nat.le_trans HWz.out f1.size
  clear hid r1 f1 HF0 HP0 HC0
  obtain ⟨w2, hw2⟩ : ∃ w2, w1.setCells C0 0 (vals (cl T) 20) = w2 := ⟨_, rfl⟩
  have s2 := set27t c1 T
  rw [hw2] at s2
  have ht := there_any c1 0 20 (by omega)
  clear c1
  rw [← hC0, ← hP0]
  clear hP0 hC0
  have HC2 : Hid (w2.rowIs C0 56 24 (tf T 0 [] [] [])) := s2.1
  have HF2 : Hid (Fr (fun i => i = R) w w2) := HF1.out.trans s2.2 (fun i hi e => by have := HNE.out.2.2.2.2; omega)
  have HP2 : Hid (w2.rowIs P0 107 50 (psf nlv (cf z20 nlv [] [] []) (tf z20 0 [] [] []) nlv)) := rowIs_fr HP1.out s2.2 HNE.out.2.2.1
  have HR2 : Hid (w2.rowIs R 150 2 (rf l1 e1)) := rowIs_fr HR1.out s2.2 (fun h => HNE.out.2.1 h.symm)
  have HZ2 : Hid (B ≤ w2.heap.size) := Nat.le_trans HZ1.out s2.2.size
  clear HF1 HP1 HR1 HZ1 s2
  go_wp2_with ((refine wpList_stv rfl _ _ rfl C0 0 rfl T rfl ht w2 hw2 ?_))
  clear hw2 ht
  have hln2 := line_any tyw w2
  go_wp2_with fail
  refine hln2.mono ?_
  rintro ex w2a ⟨a2, b2, p2, rfl, ha2, hb2, hp2, B2⟩
  have F2 : Fr (fun i => i = R) w2 w2a := Fr.ofBelow B2
  have HF2a : Hid (Fr (fun i => i = R) w w2a) := HF2.out.trans F2 (fun _ _ h => h)
  have HP2a : Hid (w2a.rowIs P0 107 50 (psf nlv (cf z20 nlv [] [] []) (tf z20 0 [] [] []) nlv)) := rowIs_fr HP2.out F2 HNE.out.1
  have HC2a : Hid (w2a.rowIs C0 56 24 (tf T 0 [] [] [])) := rowIs_fr HC2.out F2 HNE.out.2.1
  have HZ2a : Hid (B ≤ w2a.heap.size) := Nat.le_trans HZ2.out F2.size
  have hcl2 := cutLine R tyw l1 e1 a2 b2 p2 w2a (HG.out _ HF2a.out) (rowIs_fr (P := fun _ => False) HR2.out (Fr.ofBelow B2) (fun h => h)) ha2 hb2 hp2 (by omega) (by decide)
  rw [hty, he2] at hcl2
  clear hln2 ha2 hb2 hp2 B2 F2 HF2 HP2 HC2 HR2 HZ2
  go_wp2_with fail
  refine hcl2.mono ?_
  rintro ex w2b ⟨rfl, r2b, f2b⟩
  have HF2b : Hid (Fr (fun i => i = R) w w2b) := HF2a.out.trans f2b (fun _ _ h => h)
  have HP2b : Hid (w2b.rowIs P0 107 50 (psf nlv (cf z20 nlv [] [] []) (tf z20 0 [] [] []) nlv)) := rowIs_fr HP2a.out f2b HNE.out.1
  have c2b : w2b.rowIs C0 56 24 (tf T 0 [] [] []) := rowIs_fr HC2a.out f2b HNE.out.2.1
  have HR2b : Hid (w2b.rowIs R 150 2 (rf l2 e2)) := r2b
  have HZ2b : Hid (B ≤ w2b.heap.size) := Nat.le_trans HZ2a.out f2b.size
  have q2b : w2b.cell? ⟨C0, 20, none⟩ = some (.int .i64 0) := c2b.cell (i := 20) (by omega)
  have z2b := World.rowIs.frozen c2b 20
  have s2b := setT c2b 20 (.int .i64 K) K [] [] [] (tf20 T 0 K [] [] [])
  obtain ⟨w3, hw3⟩ : ∃ V, w2b.setCell ⟨C0, 20, none⟩ (.int .i64 K) = V := ⟨_, rfl⟩
  rw [hw3] at s2b
  have HC3 : Hid (w3.rowIs C0 56 24 (tf T K [] [] [])) := s2b.1
  have HF3 : Hid (Fr (fun i => i = R) w w3) := HF2b.out.trans s2b.2 (fun i hi e => by have := HNE.out.2.2.2.2; omega)
  have HP3 : Hid (w3.rowIs P0 107 50 (psf nlv (cf z20 nlv [] [] []) (tf z20 0 [] [] []) nlv)) := rowIs_fr HP2b.out s2b.2 HNE.out.2.2.1
  have HR3 : Hid (w3.rowIs R 150 2 (rf l2 e2)) := rowIs_fr HR2b.out s2b.2 (fun h => HNE.out.2.1 h.symm)
  have HZ3 : Hid (B ≤ w3.heap.size) := Nat.le_trans HZ2b.out s2b.2.size
  have hko := kindOf_any ty w2b (HG.out _ HF2b.out)
  rw [hK] at hko
  clear hcl2 r2b f2b c2b s2b HF2a HP2a HC2a HZ2a HF2b HP2b HR2b HZ2b
  go_wp2_with fail
  refine hko.mono ?_
  rintro ex wk ⟨rfl, hwk⟩
  subst wk
  clear hko
  have hln3 := line_any taw w3
  go_wp2_with fail
  refine hln3.mono ?_
  rintro ex w3a ⟨a3, b3, p3, rfl, ha3, hb3, hp3, B3⟩
  have F3 : Fr (fun i => i = R) w3 w3a := Fr.ofBelow B3
  have HF3a : Hid (Fr (fun i => i = R) w w3a) := HF3.out.trans F3 (fun _ _ h => h)
  have HP3a : Hid (w3a.rowIs P0 107 50 (psf nlv (cf z20 nlv [] [] []) (tf z20 0 [] [] []) nlv)) := rowIs_fr HP3.out F3 HNE.out.1
  have HC3a : Hid (w3a.rowIs C0 56 24 (tf T K [] [] [])) := rowIs_fr HC3.out F3 HNE.out.2.1
  have HZ3a : Hid (B ≤ w3a.heap.size) := Nat.le_trans HZ3.out F3.size
  have hcl3 := cutLine R taw l2 e2 a3 b3 p3 w3a (HG.out _ HF3a.out) (rowIs_fr (P := fun _ => False) HR3.out (Fr.ofBelow B3) (fun h => h)) ha3 hb3 hp3 (by omega) (by decide)
  rw [hN, he3] at hcl3
  clear hln3 ha3 hb3 hp3 B3 F3 HF3 HP3 HC3 HR3 HZ3
  go_wp2_with fail
  refine hcl3.mono ?_
  rintro ex w3b ⟨rfl, r3b, f3b⟩
  have HF3b : Hid (Fr (fun i => i = R) w w3b) := HF3a.out.trans f3b (fun _ _ h => h)
  have HP3b : Hid (w3b.rowIs P0 107 50 (psf nlv (cf z20 nlv [] [] []) (tf z20 0 [] [] []) nlv)) := rowIs_fr HP3a.out f3b HNE.out.1
  have c3b : w3b.rowIs C0 56 24 (tf T K [] [] []) := rowIs_fr HC3a.out f3b HNE.out.2.1
  have HR3b : Hid (w3b.rowIs R 150 2 (rf l3 e3)) := r3b
  have HZ3b : Hid (B ≤ w3b.heap.size) := Nat.le_trans HZ3a.out f3b.size
  have q3b : w3b.cell? ⟨C0, 21, none⟩ = some (sv []) := c3b.cell (i := 21) (by omega)
  have z3b := World.rowIs.frozen c3b 21
  have s3b := setT c3b 21 (sv N) K N [] [] (tf21 T K [] [] [] N)
  obtain ⟨w4, hw4⟩ : ∃ V, w3b.setCell ⟨C0, 21, none⟩ (sv N) = V := ⟨_, rfl⟩
  rw [hw4] at s3b
  have HC4 : Hid (w4.rowIs C0 56 24 (tf T K N [] [])) := s3b.1
  have HF4 : Hid (Fr (fun i => i = R) w w4) := HF3b.out.trans s3b.2 (fun i hi e => by have := HNE.out.2.2.2.2; omega)
  have HP4 : Hid (w4.rowIs P0 107 50 (psf nlv (cf z20 nlv [] [] []) (tf z20 0 [] [] []) nlv)) := rowIs_fr HP3b.out s3b.2 HNE.out.2.2.1
  have HR4 : Hid (w4.rowIs R 150 2 (rf l3 e3)) := rowIs_fr HR3b.out s3b.2 (fun h => HNE.out.2.1 h.symm)
  have HZ4 : Hid (B ≤ w4.heap.size) := Nat.le_trans HZ3b.out s3b.2.size
  clear hcl3 r3b f3b c3b s3b HF3a HP3a HC3a HZ3a HF3b HP3b HR3b HZ3b
  have hln4 := line_any tgw w4
  go_wp2_with fail
  refine hln4.mono ?_
  rintro ex w4a ⟨a4, b4, p4, rfl, ha4, hb4, hp4, B4⟩
  have F4 : Fr (fun i => i = R) w4 w4a := Fr.ofBelow B4
  have HF4a : Hid (Fr (fun i => i = R) w w4a) := HF4.out.trans F4 (fun _ _ h => h)
  have HP4a : Hid (w4a.rowIs P0 107 50 (psf nlv (cf z20 nlv [] [] []) (tf z20 0 [] [] []) nlv)) := rowIs_fr HP4.out F4 HNE.out.1
  have HC4a : Hid (w4a.rowIs C0 56 24 (tf T K N [] [])) := rowIs_fr HC4.out F4 HNE.out.2.1
  have HZ4a : Hid (B ≤ w4a.heap.size) := Nat.le_trans HZ4.out F4.size
  have hcl4 := cutLine R tgw l3 e3 a4 b4 p4 w4a (HG.out _ HF4a.out) (rowIs_fr (P := fun _ => False) HR4.out (Fr.ofBelow B4) (fun h => h)) ha4 hb4 hp4 (by omega) (by decide)
  rw [hG, he4] at hcl4
  clear hln4 ha4 hb4 hp4 B4 F4 HF4 HP4 HC4 HR4 HZ4
  go_wp2_with fail
  refine hcl4.mono ?_
  rintro ex w4b ⟨rfl, r4b, f4b⟩
  have HF4b : Hid (Fr (fun i => i = R) w w4b) := HF4a.out.trans f4b (fun _ _ h => h)
  have HP4b : Hid (w4b.rowIs P0 107 50 (psf nlv (cf z20 nlv [] [] []) (tf z20 0 [] [] []) nlv)) := rowIs_fr HP4a.out f4b HNE.out.1
  have c4b : w4b.rowIs C0 56 24 (tf T K N [] []) := rowIs_fr HC4a.out f4b HNE.out.2.1
  have HR4b : Hid (w4b.rowIs R 150 2 (rf l4 e4)) := r4b
  have HZ4b : Hid (B ≤ w4b.heap.size) := Nat.le_trans HZ4a.out f4b.size
  have q4b : w4b.cell? ⟨C0, 22, none⟩ = some (sv []) := c4b.cell (i := 22) (by omega)
  have z4b := World.rowIs.frozen c4b 22
  have s4b := setT c4b 22 (sv G) K N G [] (tf22 T K N [] [] G)
  obtain ⟨w5, hw5⟩ : ∃ V, w4b.setCell ⟨C0, 22, none⟩ (sv G) = V := ⟨_, rfl⟩
  rw [hw5] at s4b
  have HC5 : Hid (w5.rowIs C0 56 24 (tf T K N G [])) := s4b.1
  have HF5 : Hid (Fr (fun i => i = R) w w5) := HF4b.out.trans s4b.2 (fun i hi e => by have := HNE.out.2.2.2.2; omega)
  have HP5 : Hid (w5.rowIs P0 107 50 (psf nlv (cf z20 nlv [] [] []) (tf z20 0 [] [] []) nlv)) := rowIs_fr HP4b.out s4b.2 HNE.out.2.2.1
  have HR5 : Hid (w5.rowIs R 150 2 (rf l4 e4)) := rowIs_fr HR4b.out s4b.2 (fun h => HNE.out.2.1 h.symm)
  have HZ5 : Hid (B ≤ w5.heap.size) := Nat.le_trans HZ4b.out s4b.2.size
  clear hcl4 r4b f4b c4b s4b HF4a HP4a HC4a HZ4a HF4b HP4b HR4b HZ4b
  have hme := message_any R l4 e4 w5 (HG.out _ HF5.out) HR5.out (by omega)
  rw [hM, he5] at hme
  go_wp2_with fail
  refine hme.mono ?_
  rintro ex w9 ⟨rfl, r9, f9⟩
  have HF9 : Hid (Fr (fun i => i = R) w w9) := HF5.out.trans f9 (fun _ _ h => h)
  have HP9 : Hid (w9.rowIs P0 107 50 (psf nlv (cf z20 nlv [] [] []) (tf z20 0 [] [] []) nlv)) := rowIs_fr HP5.out f9 HNE.out.1
  have c9 : w9.rowIs C0 56 24 (tf T K N G []) := rowIs_fr HC5.out f9 HNE.out.2.1
  have HR9 : Hid (w9.rowIs R 150 2 (rf [] e5)) := r9
  have HZ9 : Hid (B ≤ w9.heap.size) := Nat.le_trans HZ5.out f9.size
  have q9 : w9.cell? ⟨C0, 23, none⟩ = some (sv []) := c9.cell (i := 23) (by omega)
  have z9 := World.rowIs.frozen c9 23
  have s9 := setT c9 23 (sv M) K N G M (tf23 T K N G [] M)
  obtain ⟨w10, hw10⟩ : ∃ V, w9.setCell ⟨C0, 23, none⟩ (sv M) = V := ⟨_, rfl⟩
  rw [hw10] at s9
  have c10 : w10.rowIs C0 56 24 (tf T K N G M) := s9.1
  have HF10 : Hid (Fr (fun i => i = R) w w10) := HF9.out.trans s9.2 (fun i hi e => by have := HNE.out.2.2.2.2; omega)
  have HP10 : Hid (w10.rowIs P0 107 50 (psf nlv (cf z20 nlv [] [] []) (tf z20 0 [] [] []) nlv)) := rowIs_fr HP9.out s9.2 HNE.out.2.2.1
  have HR10 : Hid (w10.rowIs R 150 2 (rf [] e5)) := rowIs_fr HR9.out s9.2 (fun h => HNE.out.2.1 h.symm)
  have HC10 : Hid (w10.rowIs C0 56 24 (tf T K N G M)) := c10
  have HZ10 : Hid (B ≤ w10.heap.size) := Nat.le_trans HZ9.out s9.2.size
  have hmb := mayBeT_any T K N G M w10 (HG.out _ HF10.out) (by omega) (by omega)
  obtain ⟨bb, hbb⟩ : ∃ bb, bb = mbT K N G := ⟨_, rfl⟩
  rw [← hbb] at hmb he6
  clear hbb
  clear hme r9 f9 c9 s9 HF5 HP5 HC5 HR5 HZ5 HF9 HP9 HR9 HZ9
  go_wp2_with (first
    | (refine wpList_ld0 rfl 56 _ rfl C0 rfl _ c10 24 (Nat.le_refl _) Tryz.underlying56 rfl (by kernel_rfl) ?_))
  refine hmb.mono ?_
  rintro ex w11 ⟨rfl, b11⟩
  have f11 : Fr (fun i => i = R) w10 w11 := Fr.ofBelow b11
  have HF11 : Hid (Fr (fun i => i = R) w w11) := HF10.out.trans f11 (fun _ _ h => h)
  have HP11 : Hid (w11.rowIs P0 107 50 (psf nlv (cf z20 nlv [] [] []) (tf z20 0 [] [] []) nlv)) := rowIs_fr HP10.out f11 HNE.out.1
  have HC11 : Hid (w11.rowIs C0 56 24 (tf T K N G M)) := rowIs_fr HC10.out f11 HNE.out.2.1
  have HZ11 : Hid (B ≤ w11.heap.size) := Nat.le_trans HZ10.out b11.size
  have hnd := need_any R [] e5 2 bb w11 (rowIs_fr (P := fun _ => False) HR10.out (Fr.ofBelow b11) (fun h => h))
  clear hmb c10 b11 f11 HF10 HP10 HR10 HC10 HZ10
  go_wp2_with fail
  refine hnd.mono ?_
  rintro ex w12 ⟨rfl, r12, f12⟩
  rw [he6] at r12
  have HF12 : Hid (Fr (fun i => i = R) w w12) := HF11.out.trans f12 (fun _ _ h => h)
  have HP12 : Hid (w12.rowIs P0 107 50 (psf nlv (cf z20 nlv [] [] []) (tf z20 0 [] [] []) nlv)) := rowIs_fr HP11.out f12 HNE.out.1
  have c12 : w12.rowIs C0 56 24 (tf T K N G M) := rowIs_fr HC11.out f12 HNE.out.2.1
  have HZ12 : Hid (B ≤ w12.heap.size) := Nat.le_trans HZ11.out f12.size
  have HR12 : Hid (w12.rowIs R 150 2 (rf [] e6)) := r12
  have l12 : (loadVar 27 ⟨C0, 0, none⟩).run Tryz.prog w12 = .ok (idv T) w12 := by
    have h := load_mid (P := Tryz.prog) (o := 0) 27 _ c12 20 (by omega) Tryz.underlying27 rfl (by kernel_rfl)
    rw [row_congr (fun j => tf T K N G M (0 + j)) (cl T) 20 (fun j hj => by unfold tf; rw [Nat.zero_add, if_pos hj])] at h
    exact h
  have HB13 : Hid (∀ V, V = w12.alloc (.cells (vals (cl T) 20).toArray 27) → Below w12.heap.size w12 V ∧ Dp B V (.slice (some ⟨w12.heap.size, 0, none⟩) 1 1) #[T] ∧ V.rowIs P0 107 50 (psf nlv (cf z20 nlv [] [] []) (tf z20 0 [] [] []) nlv)) := fun V hV => by
    subst hV
    refine ⟨new_below _ _, ⟨?_, fun i hi => ?_⟩, rowIs_fr (P := fun _ => False) HP12.out (Fr.ofBelow (new_below _ _)) (fun h => h)⟩
    · have h1 := own_low (own_one w12 T) (show B ≤ w12.heap.size from HZ12.out)
      have h2 : fl #[T] = vals (cl T) 20 := by simp [fl]
      rw [h2]
      exact h1
    · obtain rfl : i = 0 := by simp at hi; omega
      exact HIDT.out
  clear hnd r12 f12 HF11 HP11 HC11 HZ11
  go_wp2_with (first
    | (refine wpList_ld0 rfl 56 _ rfl C0 rfl _ c12 24 (Nat.le_refl _) Tryz.underlying56 rfl (by kernel_rfl) ?_)
    | (refine wpList_ldv rfl 27 _ rfl ⟨C0, 0, none⟩ rfl _ l12 ?_)
    | (refine wpList_bs45 rfl _ rfl T rfl ?_; intro w13 hw13; obtain ⟨b13, d13, p13⟩ := HB13.out w13 hw13; have HD13 : Hid _ := d13; have HBB : Hid _ := b13; clear d13 b13 hw13)
    | (refine wpList_bt rfl _ _ rfl T K N G M (.slice (some ⟨w12.heap.size, 0, none⟩) 1 1) rfl rfl rfl ?_)
    | (refine wpList_st rfl 107 _ _ rfl P0 rfl (psf nlv (cf z20 nlv [] [] []) (tf T K N G M) (.slice (some ⟨w12.heap.size, 0, none⟩) 1 1)) rfl p13 (by kernel_rfl) (psf_one _ _ _ _ rfl (cf_one _ _ _ _ _ rfl) (tf_one _ _ _ _ _) rfl) ?_; intro w15 r15 f15))
  have F13 : Fr (fun i => i = R) w w13 := HF12.out.trans (Fr.ofBelow HBB.out) (fun _ _ h => h)
  have R13 : w13.rowIs R 150 2 (rf [] e6) := rowIs_fr (P := fun _ => False) HR12.out (Fr.ofBelow HBB.out) (fun h => h)
  refine bodyPost_ret (results_row (fn := Tryz.f120) (p := 2) (ty := 107) (by kernel_rfl) _ (by rfl) r15 Tryz.underlying107 rfl (by kernel_rfl)) rfl ⟨_, rfl, ?_, ?_, ?_⟩
  · exact HD13.out.fr f15 (fun k hk e => by have := HLB.out; omega)
  · exact rowIs_fr R13 f15 (fun h => HNE.out.1 h.symm)
  · exact F13.trans f15 (fun i hi e => by have := HNE.out.2.2.2.1; omega)

end Go.Proofs.YtojgablpjdlegaaGreatDoor
