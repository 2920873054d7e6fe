/- CmD, CmW. -/
import Derived.Test.YtojgablpjdlegaaGreatDoorMC07
import Derived.Test.YtojgablpjdlegaaGreatDoorMC05
import Derived.Test.YtojgablpjdlegaaGreatDoorM18
import Derived.Test.YtojgablpjdlegaaGreatDoorM10
/- A commit decoded, its edges, its parents, its check, whatever the bytes. -/
namespace Go.Proofs.YtojgablpjdlegaaGreatDoor
open Go.RowKit Go.Shelf

/-- What is parsed of a commit. -/
structure Pc (B : Nat) (e : Int) (T : List Int) (DS : List (List Int)) (A C M : List UInt8) (f : Nat → Value) (w : World) : Prop where
  ok : e = 0 → ∃ v ve, f = psf nlv (cf T v A C M) (tf z20 0 [] [] []) ve ∧ Dp B w v DS.toArray ∧ Dp B w ve (T :: DS).toArray
  no : e ≠ 0 → f = ps0

theorem Pc.keep {B : Nat} {e : Int} {T : List Int} {DS : List (List Int)} {A C M : List UInt8} {f : Nat → Value} {w w' : World} (h : Pc B e T DS A C M f w) (hb : Below w.heap.size w w') : Pc B e T DS A C M f w' :=
  ⟨fun he => by obtain ⟨v, ve, h1, h2, h3⟩ := h.ok he; exact ⟨v, ve, h1, h2.keep hb, h3.keep hb⟩, h.no⟩

theorem Pc.fr {P : Nat → Prop} {B : Nat} {e : Int} {T : List Int} {DS : List (List Int)} {A C M : List UInt8} {f : Nat → Value} {w w' : World} (h : Pc B e T DS A C M f w) (hf : Fr P w w') (hP : ∀ k, B ≤ k → ¬ P k) : Pc B e T DS A C M f w' :=
  ⟨fun he => by obtain ⟨v, ve, h1, h2, h3⟩ := h.ok he; exact ⟨v, ve, h1, h2.fr hf hP, h3.fr hf hP⟩, h.no⟩

/-- Two values for one. -/
def two2 (T : List Int) (A C M : List UInt8) (x : Value) : Nat → Value := match x with | .tuple cs => psf nlv (cf T (cs.getD 0 nlv) A C M) (tf z20 0 [] [] []) (cs.getD 1 nlv) | _ => ps0

theorem Dp.low {B B' : Nat} {w : World} {v : Value} {d : Array (List Int)} (h : Dp B w v d) (hB : B' ≤ B) : Dp B' w v d := ⟨own_low h.own hB, h.ids⟩

theorem parse_commit (ao : Option Addr) (n c : Nat) (xs : List Int) (T : List Int) (DS : List (List Int)) (A C M : List UInt8) (e : Int) (w : World) (hg : Gs w) (hr : Rd w ao n c xs) (hn : n ≤ 16384) (hm : Cmg (tb xs) 0 T DS A C M e) :
    Calls Tryz.prog 56 #[.int .i64 1, .slice ao n c] w fun ex w' => ∃ f, ex = .returned (.tuple #[row f 50, .int .i64 e]) ∧ (∀ j, (f j).oneCell' = true) ∧ Pc (w.heap.size + 1) e T DS A C M f w' ∧ Below w.heap.size w w' := by
  refine (parse_g1 ao n c xs w hg hr hn (two2 T A C M) [] e (fun x w' => ∃ v ve, x = .tuple #[v, ve] ∧ v.oneCell' = true ∧ ve.oneCell' = true ∧ Dp (w.heap.size + 1) w' v DS.toArray ∧ Dp (w.heap.size + 1) w' ve (T :: DS).toArray) ?_ ?_).mono ?_
  · intro R W hgW hR hrW hbW hs
    refine (commitR R (tb xs) 0 T DS A C M e W hgW hR hrW (by rw [tb_len, hr.len]; omega) hm).mono ?_
    rintro ex w' ⟨v, ve, rfl, h1, h2, h3, h4⟩
    have hv : v.oneCell' = true := by obtain ⟨_, _, rfl⟩ := h1.shape; rfl
    have hve : ve.oneCell' = true := by obtain ⟨_, _, rfl⟩ := h2.shape; rfl
    refine ⟨.tuple #[v, ve], rfl, fun j => psf_one _ _ _ _ rfl (cf_one _ _ _ _ _ hv) (tf_one _ _ _ _ _) hve j, h3, h4, v, ve, rfl, hv, hve, h1.low (by omega), ?_⟩
    have h5 := h2.low (show w.heap.size + 1 ≤ W.heap.size + 2 by omega)
    simpa using h5
  · rintro x w1 w2 ⟨v, ve, rfl, hv, hve, h1, h2⟩ hf
    exact ⟨v, ve, rfl, hv, hve, h1.fr hf (fun k hk e => by omega), h2.fr hf (fun k hk e => by omega)⟩
  · rintro ex w' ⟨x, rfl, ⟨v, ve, rfl, hv, hve, h1, h2⟩, hb⟩
    by_cases he : e = 0
    · refine ⟨psf nlv (cf T v A C M) (tf z20 0 [] [] []) ve, by rw [if_pos he]; rfl, psf_one _ _ _ _ rfl (cf_one _ _ _ _ _ hv) (tf_one _ _ _ _ _) hve, ⟨fun _ => ⟨v, ve, rfl, h1, h2⟩, fun h => absurd he h⟩, hb⟩
    · exact ⟨ps0, by rw [if_neg he], ps0_one, ⟨fun h => absurd h he, fun _ => rfl⟩, hb⟩

set_option maxRecDepth 100000 in
set_option maxHeartbeats 2000000 in
/-- What is too long, of any kind. -/
theorem parse_far (k : Int) (hk : isK k = true) (ao : Option Addr) (n c : Nat) (w : World) (hg : Gs w) (hn : 16384 < n) :
    Calls Tryz.prog 56 #[.int .i64 k, .slice ao n c] w fun ex w' => ex = .returned (.tuple #[row ps0 50, .int .i64 5]) ∧ Below w.heap.size w w' := by
  have hik := isKind_any k (w.alloc (Obj.cells (vals ps0 50).toArray 107)) (hg.keep (new_below _ _))
  rw [hk] at hik
  have hz := zero107
  have z0 := rowIs_vals w ps0 50 107
  have d1 : decide ((16384 : Int) < n) = true := by simp; omega
  have d2 : decide (16384 < n) = true := by simp [hn]
  clear hg hn hk
  go_enter Tryz.func56, Tryz.ntmps56
  go_wp2_with fail
  refine hik.mono ?_
  rintro ex w0 ⟨rfl, hw0⟩
  subst w0
  clear hik
  go_wp2_with ((refine wpList_st rfl 107 _ _ rfl w.heap.size rfl ps0 rfl z0 (by kernel_rfl) ps0_one ?_; intro w2 r2 f2; have HB2 : Hid (Below w.heap.size w w2) := new_fr f2; clear f2))
  refine bodyPost_ret (results_two (fn := Tryz.f56) (p := 4) (q := 5) (ty := 107) (by kernel_rfl) _ (by rfl) r2 Tryz.underlying107 rfl (by kernel_rfl)) rfl ⟨rfl, HB2.out⟩

set_option maxRecDepth 100000 in
set_option maxHeartbeats 2000000 in
/-- What is of no kind. -/
theorem parse_none (k : Int) (hk : isK k = false) (ao : Option Addr) (n c : Nat) (w : World) (hg : Gs w) :
    Calls Tryz.prog 56 #[.int .i64 k, .slice ao n c] w fun ex w' => ex = .returned (.tuple #[row ps0 50, .int .i64 1]) ∧ Below w.heap.size w w' := by
  have hik := isKind_any k (w.alloc (Obj.cells (vals ps0 50).toArray 107)) (hg.keep (new_below _ _))
  rw [hk] at hik
  have hz := zero107
  have z0 := rowIs_vals w ps0 50 107
  clear hg hk
  go_enter Tryz.func56, Tryz.ntmps56
  go_wp2_with fail
  refine hik.mono ?_
  rintro ex w0 ⟨rfl, hw0⟩
  subst w0
  clear hik
  go_wp2_with ((refine wpList_st rfl 107 _ _ rfl w.heap.size rfl ps0 rfl z0 (by kernel_rfl) ps0_one ?_; intro w2 r2 f2; have HB2 : Hid (Below w.heap.size w w2) := new_fr f2; clear f2))
  refine bodyPost_ret (results_two (fn := Tryz.f56) (p := 4) (q := 5) (ty := 107) (by kernel_rfl) _ (by rfl) r2 Tryz.underlying107 rfl (by kernel_rfl)) rfl ⟨rfl, HB2.out⟩

theorem psf_cf (T : List Int) (v ve : Value) (A C M : List UInt8) : row (fun j => psf nlv (cf T v A C M) (tf z20 0 [] [] []) ve (1 + j)) 24 = cmv T v A C M := row_congr _ _ _ (fun j hj => by
  show psf nlv (cf T v A C M) (tf z20 0 [] [] []) ve (1 + j) = cf T v A C M j
  unfold psf
  rw [if_neg (by omega), if_pos (by omega), Nat.add_sub_cancel_left])

/-- What a commit's bytes are decoded to: what they say, or nothing. -/
def dcm (e : Int) (T : List Int) (v : Value) (A C M : List UInt8) : Value := if e = 0 then cmv T v A C M else cmv z20 nlv [] [] []

theorem decodeCommit_any (ao : Option Addr) (n c : Nat) (xs : List Int) (T : List Int) (DS : List (List Int)) (A C M : List UInt8) (e : Int) (w : World) (hg : Gs w) (hr : Rd w ao n c xs) (hn : n ≤ 16384) (hm : Cmg (tb xs) 0 T DS A C M e) :
    Calls Tryz.prog 23 #[.slice ao n c] w fun ex w' => ∃ v, ex = .returned (.tuple #[dcm e T v A C M, .int .i64 e]) ∧ (e = 0 → Dp (w.heap.size + 1) w' v DS.toArray) ∧ Below w.heap.size w w' := by
  refine (decodeCommit_gen e ao n c w (fun f w' => Pc (w.heap.size + 1) e T DS A C M f w') (fun f w1 w2 h hb => h.keep hb) (fun W hW => ?_)).mono ?_
  · refine (parse_commit ao n c xs T DS A C M e W (hg.keep hW) (hr.keep hW) hn hm).mono ?_
    rintro ex w' ⟨f, rfl, h1, h2, h3⟩
    exact ⟨f, rfl, h1, ⟨fun he => by obtain ⟨v, ve, g1, g2, g3⟩ := h2.ok he; exact ⟨v, ve, g1, g2.low (by have := hW.size; omega), g3.low (by have := hW.size; omega)⟩, h2.no⟩, h3⟩
  · rintro ex w' ⟨f, rfl, ⟨w1, hq, hf, hs⟩, hb⟩
    by_cases he : e = 0
    · obtain ⟨v, ve, rfl, g2, g3⟩ := hq.ok he
      refine ⟨v, ?_, fun _ => g2.fr hf (fun k hk e => by omega), hb⟩
      unfold dcm
      rw [if_pos he, psf_cf]
    · have h0 := hq.no he
      subst h0
      refine ⟨nlv, ?_, fun h => absurd h he, hb⟩
      unfold dcm
      rw [if_neg he]
      show Ending.returned (.tuple #[row (fun j => psf nlv (cf z20 nlv [] [] []) (tf z20 0 [] [] []) nlv (1 + j)) 24, .int .i64 e]) = _
      rw [psf_cf]

theorem edgesCommit_any (ao : Option Addr) (n c : Nat) (xs : List Int) (T : List Int) (DS : List (List Int)) (A C M : List UInt8) (w : World) (hg : Gs w) (hr : Rd w ao n c xs) (hn : n ≤ 16384) (hl : DS.length < 90000) (hm : Cmg (tb xs) 0 T DS A C M 0) :
    Calls Tryz.prog 30 #[.int .i64 1, .slice ao n c] w fun ex w' => ∃ v r, ex = .returned (.tuple #[v, .int .i64 0]) ∧ Srt (T :: DS).toArray r ∧ Nw w.heap.size w' v r ∧ Below w.heap.size w w' := by
  refine edges_gen 1 ao n c w (fun f w' => Is w' (f 49) (T :: DS).toArray) (T :: DS).toArray (by simp; omega) (fun f w' h => h) ?_
  refine (parse_commit ao n c xs T DS A C M 0 w hg hr hn hm).mono ?_
  rintro ex w' ⟨f, rfl, h1, h2, h3⟩
  obtain ⟨v, ve, rfl, g2, g3⟩ := h2.ok rfl
  exact ⟨_, rfl, h1, g3.is, h3⟩

theorem parentsCommit_any (ao : Option Addr) (n c : Nat) (xs : List Int) (T : List Int) (DS : List (List Int)) (A C M : List UInt8) (w : World) (hg : Gs w) (hr : Rd w ao n c xs) (hn : n ≤ 16384) (hm : Cmg (tb xs) 0 T DS A C M 0) :
    Calls Tryz.prog 35 #[.int .i64 1, .slice ao n c] w fun ex w' => ∃ v, ex = .returned v ∧ Is w' v DS.toArray ∧ Below w.heap.size w w' := by
  refine (parents_gen 1 0 ao n c w (fun f w' => Is w' (f 21) DS.toArray) (fun f w' h => by obtain ⟨a, m, b, _⟩ := h.sh; exact ⟨_, _, _, b⟩) ?_).mono ?_
  · refine (parse_commit ao n c xs T DS A C M 0 w hg hr hn hm).mono ?_
    rintro ex w' ⟨f, rfl, h1, h2, h3⟩
    obtain ⟨v, ve, rfl, g2, g3⟩ := h2.ok rfl
    exact ⟨_, rfl, h1, g2.is, h3⟩
  · rintro ex w' ⟨f, w1, rfl, hq, hb1, hb⟩
    exact ⟨_, rfl, hq.keep hb1, hb⟩

/-- A line of a word. -/
theorem lnF_line (word x r : List UInt8) (hx : ∀ b ∈ x, b ≠ 10) : lnF word (word ++ [32] ++ x ++ [10] ++ r) = (x, r, true) := by
  have hp : Lib.hasPrefix (word ++ [32] ++ x ++ [10] ++ r) (word ++ [32]) = true := by
    unfold Lib.hasPrefix
    rw [List.isPrefixOf_iff_prefix]
    exact ⟨x ++ [10] ++ r, by simp⟩
  unfold lnF
  rw [if_pos hp]
  unfold Lib.trimPrefix
  rw [if_pos hp]
  have : (word ++ [32] ++ x ++ [10] ++ r).drop (word ++ [32]).length = x ++ 10 :: r := by
    rw [show word ++ [32] ++ x ++ [10] ++ r = (word ++ [32]) ++ (x ++ 10 :: r) by simp, List.drop_left]
  rw [this]
  exact cut_first 10 x r hx

theorem lin_line (word x r : List UInt8) (hx : ∀ b ∈ x, b ≠ 10) : lin word (word ++ [32] ++ x ++ [10] ++ r) = (x, r) := by
  unfold lin
  rw [lnF_line word x r hx]
  rfl

end Go.Proofs.YtojgablpjdlegaaGreatDoor

/- A commit written, whatever it is. -/
namespace Go.Proofs.YtojgablpjdlegaaGreatDoor
open Go.RowKit

theorem bounded_far (ao : Option Addr) (n c : Nat) (w : World) (hn : 16384 < n) : Calls Tryz.prog 66 #[.slice ao n c] w fun e w' => e = .returned (.tuple #[nlv, .int .i64 5]) ∧ w' = w := by
  have d1 : decide ((16384 : Int) < n) = true := by simp; omega
  have d2 : decide (16384 < n) = true := by simp [hn]
  go_enter Tryz.func66, Tryz.ntmps66
  go_wp2
  go_ret2
  exact ⟨rfl, rfl⟩

theorem wpList_app128a {w w0 : World} {ops : Array Oper} {rest : List Oper} {o : Oper} {a : Act} {Q : Exit → Act → World → Prop} (hgd : o.guard = none) (s y : Operand)
    (ho : o.op = .call { callee := .builtin .append, args := #[s, y], argTypes := #[128, 128] }) (B n : Nat) (v : Value) (fs : List (List UInt8 × List UInt8)) (p : List UInt8 × List UInt8) (hs : a.eval s = v) (hy : a.eval y = .slice (some ⟨w0.heap.size, 0, none⟩) 1 1)
    (hw : w = w0.alloc (.cells #[sv p.1, sv p.2] 127)) (h : w0.ownsRow B 127 2 v n (fcs fs)) (hn : n ≤ 1000) (hB : B ≤ w0.heap.size)
    (hk : ∀ v' w', w'.ownsRow B 127 2 v' (n + 1) (fcs fs ++ fcs [p]) → Below B w0 w' → wpList Tryz.prog ops Q rest (a.put o.dst v') w') : wpList Tryz.prog ops Q (o :: rest) a w := by
  obtain ⟨i0, hi, hz0, hz1, hz2⟩ := info_parts Tryz.info127
  have hb : Below w0.heap.size w0 w := by rw [hw]; exact new_below _ _
  have h' : w.ownsRow B 127 2 v n (fcs fs) := by rw [hw]; exact h.alloc _
  have hr := World.rowIs_alloc w0 #[sv p.1, sv p.2] 127 (fun j => (fcs [p]).getD j undef) (fun i hi => by
    have hi4 : i < 2 := hi
    rcases (show i = 0 ∨ i = 1 by omega) with rfl | rfl <;> rfl)
  rw [← hw] at hr
  refine wpList_append_own w hgd s y 128 ho B 127 i0 (.agg #[sv [], sv []]) 2 32 Tryz.underlying128 hi hz0 hz1 hz2 rfl (by decide) v n (fcs fs) hs h' ⟨w0.heap.size, 0, none⟩ 1 1 (fcs [p]) hy rfl (fun j u hu => ?_) (fcs_one _) (by unfold maxLen; omega) (by omega) (by have := hb.size; omega) ?_
  · have hj : j < 2 := by
      have := (List.getElem?_eq_some_iff.1 hu).1
      simpa [fcs] using this
    rw [Addr.add_lit, Nat.zero_add, hr.cell (i := j) hj, List.getD, hu]
    rfl
  · intro v' w' h1 h2 _
    exact hk v' w' h1 ((hb.mono hB).grown h2 (by have := hb.size; omega) (fun k hk => (h.lt k hk).1))

theorem fcs_app (a b : List (List UInt8 × List UInt8)) : fcs (a ++ b) = fcs a ++ fcs b := by
  induction a with
  | nil => rfl
  | cons x l ih => simp [fcs, ih]

/-- A parent's line. -/
def pl (x : List Int) : List UInt8 × List UInt8 := (pnt, tb (hx x))

/-- A commit's bytes. -/
def enc (T : List Int) (ds : List (List Int)) (A C M : List UInt8) : List UInt8 := wls ((tre, tb (hx T)) :: ds.map pl ++ [(aut, A), (com, C)]) ++ [10] ++ M

theorem hex_len (x : List Int) (h : IsId x) : (tb (hx x)).length = 40 := by rw [tb_len, hx_len, h.1]

theorem txt_len (A : List UInt8) (h : txtB A 200 = true) : A.length ≤ 200 := by
  unfold txtB at h
  simp at h
  omega

theorem wls_pl (ds : List (List Int)) (h : ∀ x ∈ ds, IsId x) : (wls (ds.map pl)).length = ds.length * 48 := by
  induction ds with
  | nil => rfl
  | cons x l ih =>
    have h1 := hex_len x (h x (by simp))
    rw [List.map_cons, wls, List.length_append, ih (fun y hy => h y (by simp [hy]))]
    simp only [wln, pl, List.length_append, List.length_cons, List.length_nil, h1]
    omega

theorem mb_parts {A C : List UInt8} {ds : List (List Int)} (h : mb A C ds = true) : txtB A 200 = true ∧ txtB C 200 = true ∧ ds.length ≤ 512 ∧ ds.Nodup := by
  unfold mb at h
  simp at h
  exact h

set_option maxRecDepth 100000 in
set_option maxHeartbeats 4000000 in
theorem encodeCommit_no (T : List Int) (v : Value) (A C M : List UInt8) (d : Array (List Int)) (w : World) (hv : Is w v d) (hA : A.length ≤ 1000000) (hC : C.length ≤ 1000000) (hd : d.size < 90000) (hm : mb A C d.toList = false) :
    Calls Tryz.prog 41 #[cmv T v A C M] w fun e w' => e = .returned (.tuple #[nlv, .int .i64 1]) ∧ Below w.heap.size w w' := by
  have hz := zero47
  obtain ⟨W, hW⟩ : ∃ W, W = w.alloc (Obj.cells (vals (cf T v A C M) 24).toArray 47) := ⟨_, rfl⟩
  have bW : Below w.heap.size w W := by rw [hW]; exact new_below _ _
  have hmb := mayBe_any T v A C M d W (hv.keep bW) hA hC (by omega)
  rw [hm] at hmb
  have HB : Hid (Below w.heap.size w W) := bW
  have r0 := rowIs_vals w (cf T v A C M) 24 47
  clear bW hm hA hC hd hv
  go_enter Tryz.func41, Tryz.ntmps41
  go_wp2_with ((refine wpList_ld0 rfl 47 _ rfl w.heap.size rfl _ r0 24 (Nat.le_refl _) Tryz.underlying47 rfl (by kernel_rfl) ?_))
  rw [← hW]
  clear hW r0
  refine hmb.mono ?_
  rintro ex w1 ⟨rfl, b1⟩
  have HB1 : Hid (Below w.heap.size w w1) := HB.out.trans (b1.mono HB.out.size)
  clear hmb b1
  go_wp2
  go_ret2
  exact ⟨rfl, HB1.out⟩

set_option maxRecDepth 100000 in
set_option maxHeartbeats 4000000 in
theorem encodeCommit_any (T : List Int) (v : Value) (A C M : List UInt8) (d : Array (List Int)) (w : World) (hT : IsId T) (hv : Is w v d) (hM : M.length ≤ 100000) (hm : mb A C d.toList = true) :
    Calls Tryz.prog 41 #[cmv T v A C M] w fun e w' => ∃ ao n c, e = .returned (.tuple #[.slice ao n c, .int .i64 (if (enc T d.toList A C M).length ≤ 16384 then 0 else 5)]) ∧ Rd w' ao n c (if (enc T d.toList A C M).length ≤ 16384 then tn (enc T d.toList A C M) else []) ∧ Below w.heap.size w w' := by
  obtain ⟨E, hE⟩ : ∃ E : Int, E = if (enc T d.toList A C M).length ≤ 16384 then 0 else 5 := ⟨_, rfl⟩
  obtain ⟨X, hX⟩ : ∃ X : List Int, X = if (enc T d.toList A C M).length ≤ 16384 then tn (enc T d.toList A C M) else [] := ⟨_, rfl⟩
  rw [← hE, ← hX]
  have HEX : Hid ((E = if (enc T d.toList A C M).length ≤ 16384 then 0 else 5) ∧ X = if (enc T d.toList A C M).length ≤ 16384 then tn (enc T d.toList A C M) else []) := ⟨hE, hX⟩
  clear hE hX
  obtain ⟨hta, htc, hd5, hnd⟩ := mb_parts hm
  rw [Array.length_toList] at hd5
  have hA := txt_len A hta
  have hC := txt_len C htc
  have hz := zero47
  have hids : ∀ x ∈ d.toList, IsId x := fun x hx => by
    obtain ⟨i, hi, rfl⟩ := List.mem_iff_getElem.1 hx
    have := hv.ids i (by simpa using hi)
    rwa [getElem!_pos d i (by simpa using hi), ← Array.getElem_toList] at this
  obtain ⟨ao, cap, hve, _⟩ := hv.sh
  subst hve
  obtain ⟨n, hn⟩ : ∃ n, n = d.size := ⟨_, rfl⟩
  rw [← hn] at hv hd5
  obtain ⟨W, hW⟩ : ∃ W, W = w.alloc (Obj.cells (vals (cf T (.slice ao n cap) A C M) 24).toArray 47) := ⟨_, rfl⟩
  have rW : W.rowIs w.heap.size 47 24 (cf T (.slice ao n cap) A C M) := by rw [hW]; exact rowIs_vals _ _ _ _
  have bW : Below w.heap.size w W := by rw [hW]; exact new_below _ _
  have hvW := hv.keep bW
  have hmb := mayBe_any T (.slice ao n cap) A C M d W hvW (by omega) (by omega) (by omega)
  rw [hm] at hmb
  have HP : Hid (0 < n → ∃ b off, ao = some ⟨b, off, none⟩ ∧ ∀ V, Below W.heap.size W V → ∀ i, i < n → (loadVar 27 ⟨b, off + i * 20, none⟩).run Tryz.prog V = .ok (idv d[i]!) V) := fun h0 => by
    obtain ⟨b, off, h1, h2⟩ := hvW.plain (by omega)
    exact ⟨b, off, h1, fun V hV i hi => h2 V hV i (by omega)⟩
  have HID : Hid (∀ i, i < n → IsId d[i]!) := fun i hi => hv.ids i (by omega)
  have HIDS : Hid (∀ x ∈ d.toList, IsId x) := hids
  have HN : Hid (n = d.size ∧ n ≤ 512) := ⟨hn, hd5⟩
  have HR : Hid (∀ V, Below W.heap.size W V → V.rowIs w.heap.size 47 24 (cf T (.slice ao n cap) A C M)) := fun V hV => rowIs_fr (P := fun _ => False) rW (Fr.ofBelow hV) (fun h => h)
  have HLT : Hid (∀ V, Below W.heap.size W V → (loadVar 27 ⟨w.heap.size, 0, none⟩).run Tryz.prog V = .ok (idv T) V) := fun V hV => by
    have h := load_mid (P := Tryz.prog) (o := 0) 27 _ (HR.out V hV) 20 (by omega) Tryz.underlying27 rfl (by kernel_rfl)
    rw [row_congr (fun j => cf T (.slice ao n cap) A C M (0 + j)) (cl T) 20 (fun j hj => by unfold cf; rw [Nat.zero_add, if_pos hj])] at h
    exact h
  have HB : Hid (Below w.heap.size w W) := bW
  have HT : Hid (IsId T) := hT
  have HBD : Hid (A.length ≤ 200 ∧ C.length ≤ 200 ∧ M.length ≤ 100000) := ⟨hA, hC, hM⟩
  have HWs : Hid (w.heap.size ≤ W.heap.size) := bW.size
  rw [← hn]
  clear bW hT hA hC hM hids hv hvW hm hta htc hnd hd5 hn
  have r0 := rowIs_vals w (cf T (.slice ao n cap) A C M) 24 47
  go_enter Tryz.func41, Tryz.ntmps41
  go_wp2_with ((refine wpList_ld0 rfl 47 _ rfl w.heap.size rfl _ r0 24 (Nat.le_refl _) Tryz.underlying47 rfl (by kernel_rfl) ?_))
  rw [← hW]
  clear hW r0
  refine hmb.mono ?_
  rintro ex w1 ⟨rfl, b1⟩
  have l1 := HLT.out w1 b1
  have hhx := hex_any T HT.out w1
  rw [tb_sv] at hhx
  have HB1 : Hid (Below W.heap.size W w1) := b1
  clear hmb b1 rW
  go_wp2_with ((refine wpList_ldv rfl 27 _ rfl ⟨w.heap.size, 0, none⟩ rfl _ l1 ?_))
  refine hhx.mono ?_
  rintro ex w2 ⟨rfl, b2⟩
  have B2 : Below W.heap.size W w2 := HB1.out.trans (b2.mono HB1.out.size)
  have HB2 : Hid (Below W.heap.size W w2) := B2
  obtain ⟨hxT, hhxT⟩ : ∃ y, y = tb (hx T) := ⟨_, rfl⟩
  have HXT : Hid (hxT = tb (hx T)) := hhxT
  rw [← hhxT]
  clear hhx b2 l1 hhxT HB1 B2
  obtain ⟨w3, hw3⟩ : ∃ V, V = w2.alloc (Obj.cells #[sv tre, sv hxT] 127) := ⟨_, rfl⟩
  have b3 : Below w2.heap.size w2 w3 := by rw [hw3]; exact new_below _ _
  have B3 : Below W.heap.size W w3 := HB2.out.trans (b3.mono HB2.out.size)
  have c20 : (w2.alloc (Obj.cells #[sv tre, sv hxT] 127)).cell? ⟨w.heap.size, 20, none⟩ = some (.slice ao n cap) := by rw [← hw3]; exact (HR.out w3 B3).cell (i := 20) (by omega)
  have HO : Hid (w3.ownsRow w2.heap.size 127 2 (.slice (some ⟨w2.heap.size, 0, none⟩) 1 1) 1 (fcs [(tre, hxT)])) := by rw [hw3]; exact own_fs1 w2 (tre, hxT)
  have HB3 : Hid (Below W.heap.size W w3) := B3
  have h23 : w2.heap.size ≤ w3.heap.size := b3.size
  have H23 : Hid (w2.heap.size ≤ w3.heap.size) := h23
  have HS2 : Hid (W.heap.size ≤ w2.heap.size) := HB2.out.size
  clear b3 B3 h23
  go_wp2_with fail
  rw [← hw3]
  clear hw3 c20
  go_loopw [4, 18] (fun lv iv wr => ∃ i : Nat, iv = .int .i64 (i : Int) ∧ i ≤ n ∧ wr.ownsRow w2.heap.size 127 2 lv (1 + i) (fcs ((tre, hxT) :: (d.toList.take i).map pl)) ∧ Below W.heap.size W wr ∧ w2.heap.size ≤ wr.heap.size) (fun _ iv _ => n - (intOf iv).toNat)
  case atStart => exact ⟨0, rfl, Nat.zero_le _, HO.out, HB3.out, H23.out⟩
  case round =>
    clear HO HB3 H23
    obtain ⟨i, rfl, hin, ho, hbw, hsz⟩ := hrel
    have HO : Hid (wr.ownsRow w2.heap.size 127 2 u4 (1 + i) (fcs ((tre, hxT) :: (d.toList.take i).map pl))) := ho
    have HBW : Hid (Below W.heap.size W wr) := hbw
    have HSZ : Hid (w2.heap.size ≤ wr.heap.size) := hsz
    clear ho hbw hsz
    by_cases hlt : i < n
    · have hq : decide ((i : Int) < n) = true := by simp; omega
      have hq2 : decide (i < n) = true := by simp [hlt]
      have hq3 : (i : Int) < n := by omega
      obtain ⟨b, off, rfl, hld⟩ := HP.out (by omega)
      have hl := hld wr HBW.out i hlt
      have hwk : IntKind.i64.wrap ((i : Int) + 1) = (i : Int) + 1 := by have := HN.out; rw [IntKind.wrap_i64]; omega
      obtain ⟨x, hx⟩ : ∃ x, d[i]! = x := ⟨_, rfl⟩
      rw [hx] at hl
      have HX : Hid (IsId x ∧ d[i]! = x) := ⟨by rw [← hx]; exact HID.out i hlt, hx⟩
      have HLT2 : Hid (i < n) := hlt
      have hI : Hid (i ≤ 512) := by show _ ≤ _; have := HN.out; omega
      have q0 := z_row wr 27
      clear hld hx hlt hin
      obtain ⟨y, hy⟩ : ∃ y, y = tb (hx x) := ⟨_, rfl⟩
      have HY : Hid (y = tb (hx x)) := hy
      have hhx := fun V => hex_any x HX.out.1 V
      rw [show strOfNums (hx x) = strOfNums (hx x) from rfl] at hhx
      have hhx2 : ∀ V, Calls Tryz.prog 74 #[idv x] V fun e w' => e = .returned (sv y) ∧ Below V.heap.size V w' := fun V => by
        have h := hhx V
        rw [tb_sv, ← hy] at h
        exact h
      clear hhx hy
      go_wp2_with (first
        | (go_at_call 74; refine (hhx2 _).mono ?_; rintro e wb ⟨rfl, b5⟩; have HB5 : Hid (Below wr.heap.size wr wb) := HB4.out.trans (b5.mono HB4.out.size); have HOb : Hid (wb.ownsRow w2.heap.size 127 2 u4 (1 + i) (fcs ((tre, hxT) :: (d.toList.take i).map pl))) := ownsRow_fr (P := fun _ => False) HO.out (Fr.ofBelow HB5.out) (fun _ _ h => h); have HSb : Hid (w2.heap.size ≤ wb.heap.size) := Nat.le_trans HSZ.out HB5.out.size; clear b5 h4)
        | (refine wpList_st rfl 27 _ _ rfl wr.heap.size rfl (cl x) rfl q0 size23 (fun j => rfl) ?_; intro w4 h4 f4; have HB4 : Hid (Below wr.heap.size wr w4) := (new_below wr _).trans (f4.below _ (by simp) (fun k hk e => by omega)); clear q0 f4)
        | (refine wpList_app128a (w0 := wb) rfl _ _ rfl w2.heap.size (1 + i) u4 _ (pnt, y) rfl rfl rfl HOb.out (by have := hI.out; omega) HSb.out ?_; intro v6 w6 o6 b6; rw [← fcs_app] at o6; have O6 : Hid _ := o6; have B6 : Hid (Below w2.heap.size wb w6) := b6; clear o6 b6)
        | (refine wpList_ldv rfl 27 _ rfl ⟨b, off + i * 20, none⟩ rfl (idv x) hl ?_; clear hl)
        | (refine wpList_ld0 rfl 27 _ rfl wr.heap.size rfl _ h4 20 (Nat.le_refl _) Tryz.underlying27 rfl (by kernel_rfl) ?_))
      have hdl : (d.toList.take (i + 1)).map pl = (d.toList.take i).map pl ++ [(pnt, y)] := by
        have hi2 : i < d.toList.length := by have h1 := HLT2.out; have h2 := HN.out.1; rw [Array.length_toList]; omega
        have hi3 : i < d.size := by simpa using hi2
        rw [List.take_succ_eq_append_getElem hi2, List.map_append, List.map_cons, List.map_nil]
        have e1 : d.toList[i] = x := by
          rw [← HX.out.2, getElem!_pos d i hi3, Array.getElem_toList]
        rw [e1]
        unfold pl
        rw [HY.out]
      refine ⟨⟨i + 1, by simp, HLT2.out, ?_, HBW.out.trans ((HB5.out.mono HBW.out.size).trans (B6.out.mono (Nat.le_trans HS2.out (Nat.le_refl _)))), Nat.le_trans HSb.out B6.out.size⟩, by simp [intOf]; have := HLT2.out; omega⟩
      rw [hdl]
      exact O6.out
    · obtain rfl : i = n := by omega
      have d1 : decide ((i : Int) < i) = false := by simp
      have d2 : decide (i < i) = false := by simp
      have hfe : d.toList.take i = d.toList := List.take_of_length_le (by have := HN.out; rw [Array.length_toList]; omega)
      rw [hfe] at HO
      have hI : i ≤ 512 := HN.out.2
      have c21 : wr.cell? ⟨w.heap.size, 21, none⟩ = some (sv A) := (HR.out wr HBW.out).cell (i := 21) (by omega)
      have c22 : wr.cell? ⟨w.heap.size, 22, none⟩ = some (sv C) := (HR.out wr HBW.out).cell (i := 22) (by omega)
      obtain ⟨fs, hfs⟩ : ∃ y, y = (tre, hxT) :: d.toList.map pl := ⟨_, rfl⟩
      rw [← hfs] at HO
      have HF : Hid (fs = (tre, hxT) :: d.toList.map pl) := hfs
      have hsz := HSZ.out
      clear hfe hfs
      go_wp2_with ((refine wpList_app128 (w0 := wr) rfl _ _ rfl w2.heap.size (1 + i) _ fs (aut, A) (com, C) rfl rfl rfl HO.out (by omega) hsz ?_; intro v4 w4 o4 b4; have B4 : Below W.heap.size W w4 := HBW.out.trans (b4.mono HS2.out); have c23 : w4.cell? ⟨w.heap.size, 23, none⟩ = some (sv M) := (HR.out w4 B4).cell (i := 23) (by omega)))
      have o5 : w4.ownsRow w2.heap.size 127 2 v4 (1 + i + 2) (fcs (fs ++ [(aut, A), (com, C)])) := by rw [fcs_app]; exact o4
      obtain ⟨g, cap2, rfl, hfl, hfn⟩ := fl_own o5 (by omega)
      have hxl : hxT.length = 40 := by rw [HXT.out]; exact hex_len T HT.out
      have hsh : short (fs ++ [(aut, A), (com, C)]) := fun z hz2 => by
        have h1 := HBD.out
        rw [HF.out] at hz2
        simp only [List.cons_append, List.mem_cons, List.mem_append, List.not_mem_nil, or_false, List.mem_map] at hz2
        rcases hz2 with rfl | ⟨q, hq, rfl⟩ | rfl | rfl
        · exact ⟨by show tre.length ≤ 1000; decide, by show hxT.length ≤ 1000; omega⟩
        · exact ⟨by show pnt.length ≤ 1000; decide, by show (tb (hx q)).length ≤ 1000; rw [hex_len q (HIDS.out q hq)]; omega⟩
        · exact ⟨by show aut.length ≤ 1000; decide, by show A.length ≤ 1000; omega⟩
        · exact ⟨by show com.length ≤ 1000; decide, by show C.length ≤ 1000; omega⟩
      have hwr := written_any g (1 + i + 2) cap2 (cap2 * 2) (fs ++ [(aut, A), (com, C)]) M w4 hfl hfn hsh (by omega) (by have := HBD.out; omega)
      have HE : Hid (wls (fs ++ [(aut, A), (com, C)]) ++ [10] ++ M = enc T d.toList A C M) := by show _ = _; rw [HF.out, HXT.out]; unfold enc; rfl
      have hcl : (enc T d.toList A C M).length = (wls (fs ++ [(aut, A), (com, C)])).length + 1 + M.length := by rw [← HE.out]; simp only [List.length_append, List.length_cons, List.length_nil]
      rw [HE.out, ← hcl] at hwr
      have HB4 : Hid (Below w.heap.size w w4) := HB.out.trans (B4.mono HWs.out)
      clear hfl hfn o4 o5 hcl c23 b4 B4 hsh hxl c21 c22
      obtain ⟨L, hL⟩ : ∃ L, L = (enc T d.toList A C M).length := ⟨_, rfl⟩
      have HL : Hid (L = (enc T d.toList A C M).length) := hL
      rw [← hL] at hwr
      clear hL
      refine hwr.mono ?_
      rintro ex w5 ⟨v5, rfl, o5, b5⟩
      obtain ⟨a5, c5, rfl, hrd, _⟩ := own_rd o5 (tn_byt _)
      have HB5 : Hid (Below w.heap.size w w5) := HB4.out.trans (b5.mono HB4.out.size)
      have HRd : Hid (Rd w5 a5 L c5 (tn (enc T d.toList A C M))) := hrd
      clear hwr b5 o5 hrd
      by_cases hL5 : L ≤ 16384
      · have hbd := bounded_ok a5 L c5 w5 hL5
        have HL5 : Hid (L ≤ 16384) := hL5
        clear hL5
        have hle : (enc T d.toList A C M).length ≤ 16384 := by rw [← HL.out]; exact HL5.out
        obtain ⟨e1, e2⟩ := HEX.out
        rw [if_pos hle] at e1 e2
        subst e1
        clear hle
        go_wp2_with (go_at_call 66; refine hbd.mono ?_; rintro ex wz ⟨rfl, hwz⟩; subst wz)
        go_ret2
        rw [e2]
        exact ⟨_, _, _, rfl, HRd.out, HB5.out⟩
      · have hbd := bounded_far a5 L c5 w5 (by omega)
        have hle : ¬ (enc T d.toList A C M).length ≤ 16384 := by rw [← HL.out]; exact hL5
        obtain ⟨e1, e2⟩ := HEX.out
        rw [if_neg hle] at e1 e2
        subst e1
        clear hL5 hle
        go_wp2_with (go_at_call 66; refine hbd.mono ?_; rintro ex wz ⟨rfl, hwz⟩; subst wz)
        go_ret2
        rw [e2]
        exact ⟨_, _, _, rfl, Rd.nil _, HB5.out⟩

end Go.Proofs.YtojgablpjdlegaaGreatDoor
