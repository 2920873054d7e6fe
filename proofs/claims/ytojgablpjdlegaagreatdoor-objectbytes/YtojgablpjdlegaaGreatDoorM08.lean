/- Srt, WClone, WEq. -/
import Derived.Test.YtojgablpjdlegaaGreatDoorM05
import Derived.Sort.AssemblyPlain
import Derived.Deep.LoopGhost
import Derived.Laws.StructEq
/- The sort's interface value; the order. -/
namespace Go.Proofs.YtojgablpjdlegaaGreatDoor
open Go.RowKit

/-- The row, as sort.Interface. -/
abbrev sl (b n c : Nat) : Value := .slice (some ⟨b, 0, none⟩) n c

abbrev iv (b n c : Nat) : Value := .iface 157 (sl b n c)

theorem mLen (b n c : Nat) (w : World) : (method 393 157 (sl b n c) "Len").run Tryz.prog w = .ok (234, sl b n c) w := by kernel_rfl
theorem mLess (b n c : Nat) (w : World) : (method 393 157 (sl b n c) "Less").run Tryz.prog w = .ok (235, sl b n c) w := by kernel_rfl
theorem mSwap (b n c : Nat) (w : World) : (method 393 157 (sl b n c) "Swap").run Tryz.prog w = .ok (236, sl b n c) w := by kernel_rfl

/-- From the names d in w to the names d' in w'. -/
structure To (b N : Nat) (w : World) (d' : Array (List Int)) (w' : World) : Prop where
  rw : Rw w' b N d'
  fr : Fr (fun k => k = b) w w'

theorem To.refl {b N : Nat} {w : World} {d : Array (List Int)} (h : Rw w b N d) : To b N w d w := ⟨h, Fr.refl _ _⟩

theorem To.then {b N : Nat} {w w' w'' : World} {d' d'' : Array (List Int)} (h : To b N w d' w') (g : To b N w' d'' w'') : To b N w d'' w'' := ⟨g.rw, h.fr.trans g.fr (fun _ _ e => e)⟩

theorem To.keep {b N : Nat} {w w' w'' : World} {d' : Array (List Int)} (h : To b N w d' w') (g : Below w'.heap.size w' w'') : To b N w d' w'' := ⟨h.rw.keep g, h.fr.trans (P' := fun _ => False) (Fr.ofBelow g) (fun _ _ e => e.elim)⟩

theorem To.less {b N : Nat} {w w' : World} {d' : Array (List Int)} (h : To b N w d' w') (c i j : Nat) (hi : i < d'.size) (hj : j < d'.size) :
    Calls Tryz.prog 235 #[sl b d'.size c, .int .i64 i, .int .i64 j] w' fun e w'' => e = .returned (.bool (ltl d'[i]! d'[j]!)) ∧ To b N w d' w'' :=
  (rless_any b N c d' w' h.rw i j hi hj).mono fun _ _ ⟨h1, h2⟩ => ⟨h1, h.keep h2⟩

theorem To.swap {b N : Nat} {w w' : World} {d' : Array (List Int)} (h : To b N w d' w') (c i j : Nat) (hi : i < d'.size) (hj : j < d'.size) :
    Calls Tryz.prog 236 #[sl b d'.size c, .int .i64 i, .int .i64 j] w' fun e w'' => e = .returned (.tuple #[]) ∧ To b N w (Sort.swp d' i j) w'' :=
  (swap_any b N c d' w' h.rw i j hi hj).mono fun _ _ ⟨h1, h2, h3⟩ => ⟨h1, h.then ⟨h2, h3⟩⟩

theorem To.drew {b N : Nat} {w w' : World} {d' : Array (List Int)} (h : To b N w d' w') : To b N w d' w'.drew := ⟨h.rw.drew, h.fr.drew⟩

theorem ltl_swo : Sort.SWO ltl where
  irrefl := ltl_irr
  trans := ltl_trans
  ntrans := by
    intro x y z h g
    cases hxz : ltl x z with
    | false => rfl
    | true =>
      cases hyx : ltl y x with
      | true => rw [ltl_trans y x z hyx hxz] at g; cases g
      | false =>
        have := ltl_total x y h hyx
        subst this
        rw [hxz] at g
        cases g

section
variable (lt : List Int → List Int → Bool)

theorem ii_go (a j : Nat) (d : Array (List Int)) (hj : a < j) (hl : lt d[j]! d[j - 1]! = true) : Sort.insInner lt a j d = Sort.insInner lt a (j - 1) (Sort.swp d j (j - 1)) := by
  cases j with
  | zero => omega
  | succ j =>
    simp only [Nat.add_sub_cancel] at hl ⊢
    rw [Sort.insInner, if_pos (by simp [hl]; omega)]

theorem ii_stop (a j : Nat) (d : Array (List Int)) (h : j ≤ a ∨ lt d[j]! d[j - 1]! = false) : Sort.insInner lt a j d = d := by
  cases j with
  | zero => rfl
  | succ j =>
    rw [Sort.insInner, if_neg]
    simp only [Nat.add_sub_cancel] at h
    intro hh
    simp only [gt_iff_lt, Bool.and_eq_true, decide_eq_true_eq] at hh
    rcases h with h | h
    · omega
    · rw [h] at hh; cases hh.2

theorem io_go (a b i : Nat) (d : Array (List Int)) (h : i < b) : Sort.insOuter lt a b i d = Sort.insOuter lt a b (i + 1) (Sort.insInner lt a i d) := by rw [Sort.insOuter, if_pos h]

theorem io_stop (a b i : Nat) (d : Array (List Int)) (h : ¬ i < b) : Sort.insOuter lt a b i d = d := by rw [Sort.insOuter, if_neg h]

end

set_option maxHeartbeats 2000000 in
set_option maxRecDepth 100000 in
theorem ins_any (b N c a e : Nat) (d : Array (List Int)) (w : World) (h : Rw w b N d) (hae : a ≤ e) (he : e ≤ d.size) (hsz : d.size < 1000000) :
    Calls Tryz.prog 183 #[iv b d.size c, .int .i64 a, .int .i64 e] w fun ee w' => ee = .returned (.tuple #[]) ∧ To b N w (Sort.insertionSort ltl d a e) w' := by
  have m1 := mLess b d.size c
  have m2 := mSwap b d.size c
  obtain ⟨n, hn⟩ : ∃ n, d.size = n := ⟨_, rfl⟩
  have HH : Hid (To b N w d w) := To.refl h
  have HN : Hid (d.size = n) := hn
  rw [hn] at m1 m2 he hsz ⊢
  clear h hn
  go_enter Tryz.func183, Tryz.ntmps183
  go_wp2
  go_loopw [6] (fun vi wr => ∃ (i : Nat) (dk : Array (List Int)), vi = .int .i64 i ∧ a < i ∧ i ≤ e + 1 ∧ Hid (dk.size = n) ∧ Hid (To b N w dk wr) ∧
      Hid (Sort.insOuter ltl a e i dk = Sort.insOuter ltl a e (a + 1) d)) (fun vi _ => e + 1 - (intOf vi).toNat)
  case atStart => exact ⟨a + 1, d, by go_num, by omega, by omega, HN, HH, rfl⟩
  case round =>
    obtain ⟨i, dk, rfl, hai, hib, hsk, hT, HO⟩ := hrel
    clear HH HN
    by_cases hlt : i < e
    · go_wp2
      · go_loopw [7] (fun vj wr2 => ∃ (j : Nat) (dj : Array (List Int)), vj = .int .i64 j ∧ a ≤ j ∧ j ≤ i ∧ Hid (dj.size = n) ∧ Hid (To b N w dj wr2) ∧
            Hid (Sort.insInner ltl a j dj = Sort.insInner ltl a i dk)) (fun vj _ => (intOf vj).toNat)
        case atStart => exact ⟨i, dk, rfl, by omega, Nat.le_refl _, hsk, hT, rfl⟩
        case round =>
          obtain ⟨j, dj, rfl, haj, hji, hsj, hTj, HI⟩ := hrel
          clear hT
          have OUT : Hid ((j ≤ a ∨ ltl dj[j]! dj[j - 1]! = false) → Sort.insOuter ltl a e (i + 1) dj = Sort.insOuter ltl a e (a + 1) d) := fun hs => by
            rw [← HO.out, io_go _ _ _ _ _ hlt, ← HI.out, ii_stop _ _ _ _ hs]
          by_cases hja : a < j
          · have hl := hTj.out.less c j (j - 1) (by rw [hsj.out]; omega) (by rw [hsj.out]; omega)
            rw [hsj.out, show (((j - 1 : Nat) : Int)) = (j : Int) - 1 by omega] at hl
            cases hlv : ltl dj[j]! dj[j - 1]! with
            | true =>
              rw [hlv] at hl
              have hsw := fun W (hW : To b N w dj W) => hW.swap c j (j - 1) (by rw [hsj.out]; omega) (by rw [hsj.out]; omega)
              rw [hsj.out, show (((j - 1 : Nat) : Int)) = (j : Int) - 1 by omega] at hsw
              have HI2 : Hid (Sort.insInner ltl a (j - 1) (Sort.swp dj j (j - 1)) = Sort.insInner ltl a i dk) := by rw [← HI.out, ii_go ltl a j dj hja hlv]; exact rfl
              have HS2 : Hid ((Sort.swp dj j (j - 1)).size = n) := by rw [swp_size]; exact hsj
              generalize Sort.swp dj j (j - 1) = d2 at *
              clear hlv OUT HI hTj
              go_wp2_with (first
                | (go_at_call 235; refine hl.mono ?_; rintro ee w2 ⟨rfl, hT2⟩; have HT2 : Hid (To b N w dj w2) := hT2; clear hT2)
                | (go_at_call 236; refine (hsw _ HT2.out).mono ?_; rintro ee w3 ⟨rfl, hT3⟩; have HT3 : Hid (To b N w d2 w3) := hT3; clear hT3))
              go_roundw
              case rel => exact ⟨j - 1, d2, by congr 1 <;> omega, by omega, by omega, HS2, HT3, HI2⟩
              case measure => simp [intOf]; omega
            | false =>
              rw [hlv] at hl
              have O2 : Hid (Sort.insOuter ltl a e (i + 1) dj = Sort.insOuter ltl a e (a + 1) d) := OUT.out (Or.inr hlv)
              clear hlv OUT HI hTj
              go_wp2_with (first
                | (go_at_call 235; refine hl.mono ?_; rintro ee w2 ⟨rfl, hT2⟩; have HT2 : Hid (To b N w dj w2) := hT2; clear hT2))
              go_roundw
              case rel => exact ⟨i + 1, dj, by go_num, by omega, by omega, hsj, HT2, O2⟩
              case measure => simp [intOf]; omega
          · have O2 : Hid (Sort.insOuter ltl a e (i + 1) dj = Sort.insOuter ltl a e (a + 1) d) := OUT.out (Or.inl (by omega))
            clear OUT HI
            go_wp2
            go_roundw
            case rel => exact ⟨i + 1, dj, by go_num, by omega, by omega, hsj, hTj, O2⟩
            case measure => simp [intOf]; omega
    · have E2 : Hid (Sort.insertionSort ltl d a e = dk) := by
        unfold Sort.insertionSort
        rw [← HO.out, io_stop _ _ _ _ _ hlt]
        exact rfl
      clear HO
      go_wp2
      go_end0
      exact ⟨rfl, by rw [E2.out]; exact hT.out⟩

end Go.Proofs.YtojgablpjdlegaaGreatDoor

/- A slice of names; slices.Clone. -/
namespace Go.Proofs.YtojgablpjdlegaaGreatDoor
open Go.RowKit

/-- The cells of names. -/
def fl (d : Array (List Int)) : List Value := d.toList.flatMap fun x => vals (cl x) 20

theorem flm_len (l : List (List Int)) : (l.flatMap fun x => vals (cl x) 20).length = l.length * 20 := by
  induction l with
  | nil => rfl
  | cons x r ih => rw [List.flatMap_cons, List.length_append, ih, vals_len, List.length_cons]; omega

theorem fl_len (d : Array (List Int)) : (fl d).length = d.size * 20 := flm_len _

theorem flm_get (l : List (List Int)) (i j : Nat) (hi : i < l.length) (hj : j < 20) : (l.flatMap fun x => vals (cl x) 20)[i * 20 + j]? = some (cl (l.getD i default) j) := by
  induction l generalizing i with
  | nil => simp at hi
  | cons x r ih =>
    rw [List.flatMap_cons]
    cases i with
    | zero =>
      rw [List.getElem?_append_left (by rw [vals_len]; omega), Nat.zero_mul, Nat.zero_add, vals_get _ _ _ hj]
      rfl
    | succ i =>
      rw [List.getElem?_append_right (by rw [vals_len]; omega), vals_len, show (i + 1) * 20 + j - 20 = i * 20 + j by omega, ih i (by simpa using hi)]
      rfl

theorem bang_getD (d : Array (List Int)) (i : Nat) (hi : i < d.size) : d[i]! = d.toList.getD i default := by
  rw [getElem!_pos d i hi, List.getD, List.getElem?_eq_getElem (by simpa using hi)]
  simp

theorem fl_get (d : Array (List Int)) (i j : Nat) (hi : i < d.size) (hj : j < 20) : (fl d)[i * 20 + j]? = some (cl d[i]! j) := by
  rw [bang_getD d i hi]
  exact flm_get d.toList i j (by simpa using hi) hj

theorem fl_one (d : Array (List Int)) : ∀ u ∈ fl d, u.oneCell' = true := by
  intro u hu
  obtain ⟨x, _, hx⟩ := List.mem_flatMap.1 hu
  exact vals_one20 x u hx

/-- The slice v reads as the names d. -/
structure Is (w : World) (v : Value) (d : Array (List Int)) : Prop where
  sh : ∃ ao c, v = .slice ao d.size c ∧ d.size ≤ c ∧ (ao = none → d.size = 0 ∧ c = 0) ∧ ∀ ad, ao = some ad → ∀ i, i < d.size → ∀ j, j < 20 → w.cell? (ad.add (i * 20 + j)) = some (cl d[i]! j)
  ids : ∀ i, i < d.size → IsId d[i]!

theorem Is.keep {w w' : World} {v : Value} {d : Array (List Int)} (h : Is w v d) (hb : Below w.heap.size w w') : Is w' v d := by
  obtain ⟨ao, c, e, h1, h2, h3⟩ := h.sh
  exact ⟨⟨ao, c, e, h1, h2, fun ad had i hi j hj => by
    have := h3 ad had i hi j hj
    rw [hb.cell (World.block_lt_of_cell? w _ this)]
    exact this⟩, h.ids⟩

/-- A row of the call's own, of d. -/
theorem own_rw {w : World} {base : Nat} {v : Value} {n : Nat} {d : Array (List Int)} (h : w.ownsRow base 27 20 v n (fl d)) (hd : ∀ i, i < d.size → IsId d[i]!) (h0 : 0 < n) : d.size = n ∧ ∃ b c, v = sl b n c ∧ n ≤ c ∧ base ≤ b ∧ Rw w b (c * 20) d := by
  have hl : d.size = n := by have := h.1; rw [fl_len] at this; omega
  refine ⟨hl, ?_⟩
  rcases h.2 with ⟨_, e⟩ | ⟨g, cap, cur, rfl, hg, hh, hle, hmx, hsz, htk⟩
  · omega
  · refine ⟨g, cap, rfl, hle, hg, ⟨fun j => cur.toList.getD j undef, ⟨cur, hh, hsz, fun i hi => ?_⟩, fun i hi j hj => ?_⟩, by omega, hd⟩
    · show cur[i]? = some (cur.toList.getD i undef)
      rw [List.getD]
      simp [hsz, hi]
    · have := fl_get d i j hi hj
      rw [← htk] at this
      rw [List.getElem?_take, if_pos (by omega)] at this
      show cur.toList.getD (i * 20 + j) undef = _
      rw [List.getD, this]
      rfl

theorem Tryz.info23 : (Tryz.prog.info? 27).map (fun i => (i.zero, i.size, i.bytes)) = some (some (.agg zcs), 20, 20) := by kernel_rfl

theorem Is.cellsOf {w : World} {ad : Addr} {n c : Nat} {d : Array (List Int)} (h : Is w (.slice (some ad) n c) d) : ∀ j u, (fl d)[j]? = some u → w.cell? (ad.add j) = some u := by
  obtain ⟨ao, c', e, h1, h2, h3⟩ := h.sh
  injection e with e1 e2 e3
  intro j u hu
  have hj : j < d.size * 20 := by
    have := (List.getElem?_eq_some_iff.1 hu).1
    rwa [fl_len] at this
  have := fl_get d (j / 20) (j % 20) (by omega) (by omega)
  rw [show j / 20 * 20 + j % 20 = j by omega, hu] at this
  have g := h3 ad e1.symm (j / 20) (by omega) (j % 20) (by omega)
  rw [show j / 20 * 20 + j % 20 = j by omega] at g
  rw [g, ← this]

theorem Rw.is {w : World} {b N : Nat} {d : Array (List Int)} (h : Rw w b N d) (c : Nat) (hc : d.size ≤ c) : Is w (sl b d.size c) d := by
  obtain ⟨f, h1, h2⟩ := h.row
  have hle := h.le
  refine ⟨⟨_, _, rfl, hc, (fun e => by cases e), fun ad had i hi j hj => ?_⟩, h.ids⟩
  cases had
  rw [Addr.add_lit, Nat.zero_add, h1.cell (i := i * 20 + j) (by omega), h2 i hi j hj]

/-- A new row of names: nothing, or a block of one's own. -/
def Nw (B : Nat) (w : World) (v : Value) (d : Array (List Int)) : Prop :=
  (d.size = 0 ∧ ∃ ao c, v = .slice ao 0 c) ∨ (0 < d.size ∧ ∃ b c, v = sl b d.size c ∧ d.size ≤ c ∧ B ≤ b ∧ Rw w b (c * 20) d)

theorem nil_eq (w : World) : (binOp .eql 157 (.slice none 0 0) (.slice none 0 0)).run Tryz.prog w = .ok (.bool true) w := by kernel_rfl

theorem nil_ne (w : World) (ad : Addr) (n c : Nat) : (binOp .eql 157 (.slice (some ad) n c) (.slice none 0 0)).run Tryz.prog w = .ok (.bool false) w := by kernel_rfl

set_option maxRecDepth 100000 in
set_option maxHeartbeats 2000000 in
theorem clone_any (ao : Option Addr) (n c : Nat) (d : Array (List Int)) (w : World) (h : Is w (.slice ao n c) d) (hn : d.size = n) (hlim : n ≤ 100000) :
    Calls Tryz.prog 121 #[.slice ao n c] w fun e w' => ∃ v, e = .returned v ∧ Nw w.heap.size w' v d ∧ Below w.heap.size w w' := by
  obtain ⟨i0, hi, hz0, hz1, hz2⟩ := info_parts Tryz.info23
  cases ao with
  | none =>
    have h0 : n = 0 ∧ c = 0 := by
      obtain ⟨ao, c', e, h1, h2, h3⟩ := h.sh
      injection e with e1 e2 e3
      have := h2 e1.symm
      omega
    obtain ⟨rfl, rfl⟩ := h0
    have q := nil_eq w
    go_enter Tryz.func121, Tryz.ntmps121
    go_wp2
    go_ret
    exact ⟨_, rfl, .inl ⟨hn, _, _, rfl⟩, Below.refl _ _⟩
  | some ad =>
    have h' := h.keep ((Below.refl _ w).alloc (Nat.le_refl _) (.cells #[] 27))
    have hcs := h'.cellsOf
    have hown : (w.alloc (.cells #[] 27)).ownsRow w.heap.size 27 20 (.slice (some ⟨w.heap.size, 0, none⟩) 0 0) 0 [] :=
      World.ownsRow_lit (base := w.heap.size) (e := 27) (size := 20) w #[] 0 (Nat.le_refl _) (by unfold maxLen; omega) rfl
    have HI : Hid (∀ i, i < d.size → IsId d[i]!) := h.ids
    have HD : Hid (d.size = n) := hn
    have hl : (fl d).length = n * 20 := by rw [fl_len, hn]
    clear h h' hn
    have q := nil_ne w ad n c
    go_enter Tryz.func121, Tryz.ntmps121
    go_wp2_with (first
      | (at_builtin; refine wpList_append_own _ rfl _ _ 157 rfl w.heap.size 27 i0 (.agg zcs) 20 20 Tryz.underlying157 hi hz0 hz1 hz2 rfl (by decide) _ 0 [] rfl hown ad n c (fl d) rfl hl hcs (fl_one d) (by unfold maxLen; omega) (by omega) (by simp) ?_; intro v' w' h1 h2 h3))
    go_ret
    have hb : Below w.heap.size w w' := ((Below.refl _ w).alloc (Nat.le_refl _) _).grown h2 (by simp) (fun q hq => by cases hq; exact Nat.le_refl _)
    refine ⟨_, rfl, ?_, hb⟩
    rw [Nat.zero_add, List.nil_append] at h1
    by_cases h0 : 0 < n
    · obtain ⟨e1, b, c2, e2, e3, e4, e5⟩ := own_rw h1 HI.out h0
      refine .inr ⟨by omega, b, c2, ?_, by omega, e4, e5⟩
      rw [HD.out]
      exact e2
    · have hd0 : d.size = 0 := by have := HD.out; omega
      refine .inl ⟨hd0, ?_⟩
      rcases h1.2 with ⟨e, _⟩ | ⟨g, cap, cur, e, _⟩
      · exact ⟨none, 0, e⟩
      · exact ⟨_, cap, by rw [show n = 0 by omega] at e; exact e⟩

end Go.Proofs.YtojgablpjdlegaaGreatDoor

/- Names held one against the other; parts of a row; clear. -/
namespace Go.Proofs.YtojgablpjdlegaaGreatDoor
open Go.RowKit

theorem id_ext {x y : List Int} (hx : IsId x) (hy : IsId y) : (∀ i ∈ List.range' 0 20 1, bt x i = bt y i) ↔ x = y := by
  constructor
  case mpr => rintro rfl i _; rfl
  case mp =>
    intro h
    apply List.ext_getElem
    · rw [hx.1, hy.1]
    · intro i h1 h2
      have := h i (List.mem_range'_1.2 ⟨by omega, by rw [hx.1] at h1; omega⟩)
      rwa [bt_get h1, bt_get h2] at this

theorem eq_loop (t : TypeId) (hu : Tryz.prog.underlying t = some (.array 20 5)) (d : Nat) (x y : List Int) (w : World) : (Op.equalIn (d + 2) t (idv x) (idv y)).run Tryz.prog w = .ok (decide (∀ i ∈ List.range' 0 20 1, bt x i = bt y i)) w := by
  have hsz : ∀ w, (sizeOf 5).run Tryz.prog w = .ok 1 w := fun w => by simp [go_sem]
  have he : Tryz.prog.underlying 5 = some (.int .u8) := Tryz.underlying5
  rw [Op.equalIn]
  simp only [Sem.run_bind, run_underlying hu, Result.andThen_ok, hsz, Std.Legacy.Range.forIn_eq_forIn_range', Std.Legacy.Range.size, Nat.sub_zero, Nat.add_sub_cancel, Nat.div_one]
  have hl : ∀ i ∈ List.range' 0 20 1, i < 20 := fun i hi => by simpa using (List.mem_range'_1.1 hi).2
  generalize List.range' 0 20 1 = l at hl ⊢
  induction l with
  | nil => simp
  | cons i l ih =>
    have hi : i < 20 := hl i (by simp)
    have px : ∀ z : List Int, (part 5 (vals (cl z) 20).toArray (i * 1)).run Tryz.prog w = .ok (.int .u8 (bt z i)) w := fun z => by
      have := vals_get (cl z) 20 i hi
      simp [part, isAgg, run_underlying he, this, cl]
    have pe : (Op.equalIn (d + 1) 5 (.int .u8 (bt x i)) (.int .u8 (bt y i))).run Tryz.prog w = .ok (bt x i == bt y i) w := by
      rw [run_equalIn_int w d 5 .u8 .u8 _ _ he]
    simp only [List.forIn_cons, Sem.run_bind, px, pe, Result.andThen_ok]
    by_cases h : bt x i = bt y i
    · rw [show (bt x i == bt y i) = true by simp [h]]
      simp only [Bool.not_true, Bool.false_eq_true, if_false, Sem.run_pure, Result.andThen_ok]
      rw [show decide (∀ i' ∈ i :: l, bt x i' = bt y i') = decide (∀ i' ∈ l, bt x i' = bt y i') from decide_eq_decide.2 ⟨fun g i' hi' => g i' (by simp [hi']), fun g i' hi' => by
        rcases List.mem_cons.1 hi' with rfl | hi'
        · exact h
        · exact g i' hi'⟩]
      exact ih fun j hj => hl j (by simp [hj])
    · rw [show (bt x i == bt y i) = false by simp [h]]
      rw [decide_eq_false (fun g => h (g i (by simp)))]
      simp

theorem eql_ids (t : TypeId) (hu : Tryz.prog.underlying t = some (.array 20 5)) {x y : List Int} (hx : IsId x) (hy : IsId y) (w : World) : (Op.equalIn 10000 t (idv x) (idv y)).run Tryz.prog w = .ok (decide (x = y)) w := by
  rw [eq_loop t hu 9998 x y w, decide_eq_decide.2 (id_ext hx hy)]

theorem run_cut (w : World) (b n c k : Nat) (hk : k ≤ n) (h : k < c) : (Instr.sliceAt 157 (sl b n c) (some (.int .i64 k)) none none).run Tryz.prog w = .ok (.slice (some ⟨b, k * 20, none⟩) (n - k) (c - k)) w := by
  have hz : ∀ w, (sizeOf 27).run Tryz.prog w = .ok 20 w := fun w => by simp [go_sem]
  have e2 : 0 ≤ (k : Int) ∧ (k : Int) ≤ (n : Int) := by omega
  unfold Instr.sliceAt Instr.slice Instr.sliceBounds
  simp only [run_underlying Tryz.underlying157, Instr.sliceBound, asIntOf, hz, Result.andThen_ok, Sem.run_bind, Sem.run_pure, if_pos e2, Option.isSome_none, Int.toNat_natCast]
  rw [if_neg (by omega)]
  simp [Addr.add_lit]

theorem run_front (w : World) (b n c k : Nat) (hk : k ≤ n) (hc : n ≤ c) : (Instr.sliceAt 157 (sl b n c) none (some (.int .i64 k)) none).run Tryz.prog w = .ok (.slice (some ⟨b, 0, none⟩) k c) w := by
  have hz : ∀ w, (sizeOf 27).run Tryz.prog w = .ok 20 w := fun w => by simp [go_sem]
  have e2 : 0 ≤ (k : Int) ∧ (k : Int) ≤ (c : Int) := by omega
  unfold Instr.sliceAt Instr.slice Instr.sliceBounds
  simp only [run_underlying Tryz.underlying157, Instr.sliceBound, asIntOf, hz, Result.andThen_ok, Sem.run_bind, Sem.run_pure, if_pos e2, Option.isSome_none, Int.toNat_natCast]
  by_cases h0 : c = 0
  · rw [if_pos h0]; rfl
  · rw [if_neg h0]; rfl

theorem zcs_one : ∀ r : Fin 20, (zcs[r.val]!).oneCell' = true := by decide

theorem ext_size (d : Array (List Int)) (k : Nat) (hk : k ≤ d.size) : (d.extract 0 k).size = k := by simp; omega

theorem ext_get (d : Array (List Int)) (k i : Nat) (hk : k ≤ d.size) (hi : i < k) : (d.extract 0 k)[i]! = d[i]! := by
  rw [getElem!_pos _ i (by rw [ext_size d k hk]; exact hi), getElem!_pos d i (by omega)]
  simp

/-- clear of the rest of a row. -/
theorem Rw.clear {w : World} {b n c k : Nat} {d : Array (List Int)} (h : Rw w b (c * 20) d) (hn : d.size = n) (hc : n ≤ c) (hk : k < n) :
    ∃ w', (∀ ty, (Builtin.clear_ #[157] ty #[.slice (some ⟨b, k * 20, none⟩) (n - k) (c - k)]).run Tryz.prog w = .ok (.tuple #[]) w') ∧ Rw w' b (c * 20) (d.extract 0 k) ∧ Fr (fun i => i = b) w w' := by
  obtain ⟨f, h1, h2⟩ := h.row
  obtain ⟨m, hm⟩ : ∃ m, n - k = m + 1 := ⟨n - k - 1, by omega⟩
  obtain ⟨vs, hvs⟩ : ∃ vs, vs = (Builtin.zeroCells (Value.agg zcs).cells (n - k)).toList := ⟨_, rfl⟩
  have hlen : vs.length = (n - k) * 20 := by
    rw [hvs]
    simp [Builtin.zeroCells, Value.cells]
  have hone : ∀ v ∈ vs, v.oneCell' = true := by
    intro v hv
    rw [hvs] at hv
    simp only [Builtin.zeroCells, Value.cells, Array.toList_map, List.mem_map, Array.toList_range] at hv
    obtain ⟨i, _, rfl⟩ := hv
    exact zcs_one ⟨i % 20, Nat.mod_lt _ (by omega)⟩
  have hst := run_storeCells_cells (P := Tryz.prog) b (k * 20) vs 0 w (fun j hj => by rw [Nat.add_zero, h1.cell (i := k * 20 + j) (by omega)]; rfl) (fun j hj => h1.frozen _) hone
  refine ⟨w.setCells b (k * 20) vs, fun ty => ?_, ⟨⟨_, rowIs_setCells vs (k * 20) w f h1, fun i hi j hj => ?_⟩, ?_, fun i hi => ?_⟩, Fr.setCells (P := fun i => i = b) rfl _ _ _ _ (Fr.refl _ _)⟩
  · rw [hm] at hvs ⊢
    simp only [Nat.add_zero] at hst
    simp [Builtin.clear_, run_underlying Tryz.underlying157, ← hvs, hst]
  · rw [ext_size d k (by omega)] at hi
    rw [ext_get d k i (by omega) hi, if_neg (by omega)]
    exact h2 i (by omega) j hj
  · rw [ext_size d k (by omega)]; have := h.le; omega
  · rw [ext_size d k (by omega)] at hi
    rw [ext_get d k i (by omega) hi]
    exact h.ids i (by omega)

end Go.Proofs.YtojgablpjdlegaaGreatDoor
