/- ObM, ObN, ObO, ObP. -/
import Derived.Test.YtojgablpjdlegaaGreatDoorM17
import Derived.Test.YtojgablpjdlegaaGreatDoorM07
import Derived.Laws.IdiomCopy
/- Lines written: fields, and a message. -/
namespace Go.Proofs.YtojgablpjdlegaaGreatDoor
open Go.RowKit

/-- A line. -/
def wln (x : List UInt8 × List UInt8) : List UInt8 := x.1 ++ [32] ++ x.2 ++ [10]

/-- Lines. -/
def wls : List (List UInt8 × List UInt8) → List UInt8
  | [] => []
  | x :: r => wln x ++ wls r

theorem wls_app (a b : List (List UInt8 × List UInt8)) : wls (a ++ b) = wls a ++ wls b := by
  induction a with
  | nil => rfl
  | cons x r ih => simp [wls, ih]

/-- Block b holds these fields. -/
structure Fl (w : World) (b N : Nat) (fs : List (List UInt8 × List UInt8)) : Prop where
  cells : ∃ f, w.rowIs b 127 N f ∧ ∀ i, i < fs.length → f (i * 2) = sv (fs.getD i ([], [])).1 ∧ f (i * 2 + 1) = sv (fs.getD i ([], [])).2
  le : fs.length * 2 ≤ N

theorem Fl.keep {w w' : World} {b N : Nat} {fs : List (List UInt8 × List UInt8)} (h : Fl w b N fs) (hb : Below w.heap.size w w') : Fl w' b N fs := by
  obtain ⟨f, h1, h2⟩ := h.cells
  exact ⟨⟨f, rowIs_fr (P := fun _ => False) h1 (Fr.ofBelow hb) (fun h => h), h2⟩, h.le⟩

/-- A field's cells. -/
def ff (x : List UInt8 × List UInt8) (j : Nat) : Value := if j = 0 then sv x.1 else sv x.2

theorem Fl.load {w : World} {b N : Nat} {fs : List (List UInt8 × List UInt8)} (h : Fl w b N fs) (i : Nat) (hi : i < fs.length) : (loadVar 127 ⟨b, i * 2, none⟩).run Tryz.prog w = .ok (row (ff (fs.getD i ([], []))) 2) w := by
  obtain ⟨f, h1, h2⟩ := h.cells
  have hl := load_mid (P := Tryz.prog) (o := i * 2) 127 _ h1 2 (by have := h.le; omega) Tryz.underlying127 rfl (by kernel_rfl)
  rw [row_congr (fun j => f (i * 2 + j)) (ff (fs.getD i ([], []))) 2 (fun j hj => by
    rcases (show j = 0 ∨ j = 1 by omega) with rfl | rfl
    · exact (h2 i hi).1
    · exact (h2 i hi).2)] at hl
  exact hl

theorem zero127 (w : World) : (zeroValue 127).run Tryz.prog w = .ok (row (ff ([], [])) 2) w := by kernel_rfl

theorem ff_one (x : List UInt8 × List UInt8) (j : Nat) : (ff x j).oneCell' = true := by unfold ff; split <;> rfl

theorem run_ix128 (b n c i : Nat) (hi : i < n) (w : World) : (Instr.indexAt 128 (.slice (some ⟨b, 0, none⟩) n c) (.int .i64 i)).run Tryz.prog w = .ok (.pointer (some ⟨b, i * 2, none⟩)) w := by
  have hs : ∀ w, (sizeOf 127).run Tryz.prog w = .ok 2 w := fun w => by kernel_rfl
  simp [Instr.indexAt, asIntOf, run_underlying Tryz.underlying128, hs, hi, Addr.add_lit]

theorem wpList_ix128 {ops : Array Oper} {rest : List Oper} {op : Oper} {a : Act} {w : World} {Q : Exit → Act → World → Prop} (hgd : op.guard = none) (x y : Operand) (ho : op.op = .indexAddr 128 x y) (b n c i : Nat) (hx : a.eval x = .slice (some ⟨b, 0, none⟩) n c) (hy : a.eval y = .int .i64 i)
    (hi : i < n) (hk : wpList Tryz.prog ops Q rest (a.put op.dst (.pointer (some ⟨b, i * 2, none⟩))) w) : wpList Tryz.prog ops Q (op :: rest) a w := by
  refine wpList_plain hgd fun K hK => ?_
  have h := run_ix128 b n c i hi w
  unfold Oper.wp
  simp only [execOp, ho, hx, hy, Sem.run_bind, h, Result.andThen_ok, Sem.run_pure]
  exact hK _ _ hk

/-- How long lines may be. -/
def short (fs : List (List UInt8 × List UInt8)) : Prop := ∀ x ∈ fs, x.1.length ≤ 1000 ∧ x.2.length ≤ 1000

theorem wls_take (fs : List (List UInt8 × List UInt8)) (i : Nat) (hi : i < fs.length) : wls (fs.take (i + 1)) = wls (fs.take i) ++ wln (fs.getD i ([], [])) := by
  rw [List.take_add_one, wls_app]
  congr 1
  rw [List.getElem?_eq_getElem hi, List.getD, List.getElem?_eq_getElem hi]
  simp [wls]

theorem wls_len (fs : List (List UInt8 × List UInt8)) (h : short fs) : (wls fs).length ≤ fs.length * 2010 := by
  induction fs with
  | nil => exact Nat.le_refl _
  | cons x r ih =>
    have h1 := h x (List.mem_cons_self ..)
    have h2 := ih (fun y hy => h y (List.mem_cons_of_mem _ hy))
    simp only [wls, wln, List.length_append, List.length_cons, List.length_nil]
    omega

set_option maxRecDepth 100000 in
set_option maxHeartbeats 2000000 in
theorem written_any (b n c N : Nat) (fs : List (List UInt8 × List UInt8)) (m : List UInt8) (w : World) (h : Fl w b N fs) (hn : fs.length = n) (hs : short fs) (hn1 : n ≤ 1000) (hm : m.length ≤ 1000000) :
    Calls Tryz.prog 75 #[.slice (some ⟨b, 0, none⟩) n c, sv m] w fun e w' => ∃ v, e = .returned v ∧ w'.ownsRow w.heap.size 5 1 v ((wls fs).length + 1 + m.length) ((tn (wls fs ++ [10] ++ m)).map (Value.int .u8)) ∧ Below w.heap.size w w' := by
  have hz := zero127
  have HF : Hid (Fl w b N fs) := h
  have HN : Hid (fs.length = n) := hn
  have HS : Hid (short fs) := hs
  clear h hn hs
  go_enter Tryz.func75, Tryz.ntmps75
  go_wp2_with fail
  go_loopw [5, 10] (fun ov iv wr => ∃ i : Nat, i ≤ n ∧ iv = .int .i64 i ∧ Hid (wr.ownsRow w.heap.size 5 1 ov (wls (fs.take i)).length ((tn (wls (fs.take i))).map (Value.int .u8))) ∧ Hid (Below w.heap.size w wr)) (fun _ iv _ => n - (intOf iv).toNat)
  case atStart => exact ⟨0, by omega, rfl, by show World.ownsRow _ _ _ _ _ _ _; simpa [wls, tn] using World.ownsRow_nil _ _ _ _, Below.refl _ _⟩
  case round =>
    obtain ⟨i, hi, rfl, HO, HB⟩ := hrel
    by_cases hlt : i < n
    · have d1 : decide ((i : Int) < n) = true := by simp; omega
      have d2 : decide (i < n) = true := by simp; omega
      have hif : i < fs.length := by have := HN.out; omega
      obtain ⟨x, hx⟩ : ∃ x, x = fs.getD i ([], []) := ⟨_, rfl⟩
      have hmem : x ∈ fs := by rw [hx, List.getD, List.getElem?_eq_getElem hif]; exact List.getElem_mem _
      obtain ⟨b1, b2⟩ := HS.out x hmem
      have ld := (HF.out.keep HB.out).load i hif
      rw [← hx] at ld
      have HT : Hid (wls (fs.take (i + 1)) = wls (fs.take i) ++ wln x) := by show _ = _; rw [hx]; exact wls_take fs i hif
      have HLn : Hid ((wls (fs.take i)).length ≤ 2010000) := by
        show _ ≤ _
        have h1 := wls_len (fs.take i) (fun y hy => HS.out y (List.mem_of_mem_take hy))
        have h2 : (fs.take i).length ≤ 1000 := by simp; omega
        omega
      obtain ⟨x1, x2⟩ := x
      have b1' : x1.length ≤ 1000 := b1
      have b2' : x2.length ≤ 1000 := b2
      have z := rowIs_vals wr (ff ([], [])) 2 127
      obtain ⟨y1, hy1⟩ : ∃ y, y = x1 ++ [32] := ⟨_, rfl⟩
      obtain ⟨y2, hy2⟩ : ∃ y, y = y1 ++ x2 := ⟨_, rfl⟩
      obtain ⟨y3, hy3⟩ : ∃ y, y = y2 ++ [10] := ⟨_, rfl⟩
      have l1 : y1.length = x1.length + 1 := by rw [hy1]; simp
      have l2 : y2.length = y1.length + x2.length := by rw [hy2]; simp
      have l3 : y3.length = y2.length + 1 := by rw [hy3]; simp
      have q1 : (9223372036854775807 < x1.length + 1) = False := by simp; omega
      have q2 : (9223372036854775807 < y1.length + x2.length) = False := by simp; omega
      have q3 : (9223372036854775807 < y2.length + 1) = False := by simp; omega
      have hy3b : y3.length ≤ 3000 := by omega
      have e1 : (⟨x1.toArray⟩ ++ ⟨#[32]⟩ : ByteArray) = ⟨y1.toArray⟩ := by rw [hy1]; exact cat_sv x1 [32]
      have e2 : (⟨y1.toArray⟩ ++ ⟨x2.toArray⟩ : ByteArray) = ⟨y2.toArray⟩ := by rw [hy2]; exact cat_sv y1 x2
      have e3 : (⟨y2.toArray⟩ ++ ⟨#[10]⟩ : ByteArray) = ⟨y3.toArray⟩ := by rw [hy3]; exact cat_sv y2 [10]
      have HW : Hid (wln (x1, x2) = y3) := by rw [hy3, hy2, hy1]; rfl
      clear hy1 hy2 hy3 l1 l2 l3
      have hone := ff_one (x1, x2)
      obtain ⟨L, hL⟩ : ∃ L, L = (wls (fs.take i)).length := ⟨_, rfl⟩
      have HL : Hid (L = (wls (fs.take i)).length) := hL
      have hLb : L ≤ 2010000 := by rw [hL]; exact HLn.out
      rw [← hL] at HO
      clear hx hmem b1 b2 hif hL HLn
      go_wp2_with (first
        | (refine wpList_appS rfl _ _ rfl w.heap.size L u5 (tn (wls (fs.take i))) y3 rfl rfl HO1.out (by omega) HB1.out.size ?_; intro v2 w2 o2 g2)
        | (refine wpList_st rfl 127 _ _ rfl wr.heap.size rfl (ff (x1, x2)) rfl z (by kernel_rfl) hone ?_; intro w1 r1 f1; have A1 : Fr (fun k => k = wr.heap.size) wr w1 := (Fr.ofBelow (new_below wr _)).trans f1 (fun _ _ h => h); have c0 : w1.cell? ⟨wr.heap.size, 0, none⟩ = some (sv x1) := r1.cell (i := 0) (by omega); have c1 : w1.cell? ⟨wr.heap.size, 1, none⟩ = some (sv x2) := r1.cell (i := 1) (by omega); have HO1 : Hid (w1.ownsRow w.heap.size 5 1 u5 L ((tn (wls (fs.take i))).map (Value.int .u8))) := ownsRow_fr HO.out A1 (fun k hk e => by have := (HO.out.lt k hk).2; omega); have HB1 : Hid (Below w.heap.size w w1) := HB.out.trans (A1.below _ HB.out.size (fun k hk e => by have := HB.out.size; omega)); clear A1 f1 r1)
        | (refine wpList_ldv rfl 127 _ rfl ⟨b, i * 2, none⟩ rfl _ ld ?_)
        | (refine wpList_ix128 rfl _ _ rfl b n c i rfl rfl hlt ?_))
      have B2 : Below w.heap.size w w2 := HB1.out.grown g2 HB1.out.size (fun q hq => (HO1.out.lt q hq).1)
      have HO2 : Hid (w2.ownsRow w.heap.size 5 1 v2 (wls (fs.take (i + 1))).length ((tn (wls (fs.take (i + 1)))).map (Value.int .u8))) := by
        show World.ownsRow _ _ _ _ _ _ _
        rw [HT.out, HW.out, List.length_append, tn_app, ← HL.out]
        exact o2
      have HB2 : Hid (Below w.heap.size w w2) := B2
      clear B2 o2 g2 HO1 HB1 HO HB ld z hone e1 e2 e3 c0 c1
      go_roundw
      case measure =>
        show n - ((i : Int) + 1).toNat < n - (i : Int).toNat
        omega
      case rel => exact ⟨i + 1, by omega, by simp, HO2, HB2⟩
    · have d1 : decide ((i : Int) < n) = false := by simp; omega
      have d2 : decide (i < n) = false := by simp; omega
      obtain ⟨y, hy⟩ : ∃ y, y = [10] ++ m := ⟨_, rfl⟩
      have e1 : (⟨#[10]⟩ ++ ⟨m.toArray⟩ : ByteArray) = ⟨y.toArray⟩ := by rw [hy]; exact cat_sv [10] m
      have q1 : (9223372036854775807 < 1 + m.length) = False := by simp; omega
      have hyl : y.length = 1 + m.length := by rw [hy]; simp; omega
      have HY : Hid (y = [10] ++ m ∧ y.length = 1 + m.length) := ⟨hy, hyl⟩
      have hyb : y.length ≤ 1000001 := by omega
      have hfe : fs.take i = fs := List.take_of_length_le (by have := HN.out; omega)
      rw [hfe] at HO
      have HLn : Hid ((wls fs).length ≤ 2010000) := by
        show _ ≤ _
        have h1 := wls_len fs HS.out
        have := HN.out
        omega
      obtain ⟨L, hL⟩ : ∃ L, L = (wls fs).length := ⟨_, rfl⟩
      have HL : Hid (L = (wls fs).length) := hL
      have hLb : L ≤ 2010000 := by rw [hL]; exact HLn.out
      rw [← hL] at HO
      clear hy hyl hfe hL HLn
      go_wp2_with ((refine wpList_appS rfl _ _ rfl w.heap.size L u5 (tn (wls fs)) y rfl rfl HO.out (by omega) HB.out.size ?_; intro v2 w2 o2 g2))
      go_ret
      refine ⟨v2, rfl, ?_, HB.out.grown g2 HB.out.size (fun q hq => (HO.out.lt q hq).1)⟩
      rw [show (wls fs).length + 1 + m.length = L + y.length by have := HL.out; have := HY.out.2; omega, List.append_assoc, ← HY.out.1, tn_app]
      exact o2

end Go.Proofs.YtojgablpjdlegaaGreatDoor

/- EncodeCommit, without parents. -/
namespace Go.Proofs.YtojgablpjdlegaaGreatDoor
open Go.RowKit

set_option maxRecDepth 100000 in
theorem bounded_ok (ao : Option Addr) (n c : Nat) (w : World) (hn : n ≤ 16384) : Calls Tryz.prog 66 #[.slice ao n c] w fun e w' => e = .returned (.tuple #[.slice ao n c, .int .i64 0]) ∧ w' = w := by
  have d1 : decide ((16384 : Int) < n) = false := by simp; omega
  have d2 : decide (16384 < n) = false := by simp; omega
  go_enter Tryz.func66, Tryz.ntmps66
  go_wp2
  go_ret2
  exact ⟨rfl, rfl⟩

/-- Fields, in cells. -/
def fcs : List (List UInt8 × List UInt8) → List Value
  | [] => []
  | x :: r => sv x.1 :: sv x.2 :: fcs r

theorem fcs_len (fs : List (List UInt8 × List UInt8)) : (fcs fs).length = fs.length * 2 := by
  induction fs with
  | nil => rfl
  | cons x r ih => simp [fcs, ih]; omega

theorem fcs_get : ∀ (fs : List (List UInt8 × List UInt8)) (i : Nat), i < fs.length → (fcs fs)[i * 2]? = some (sv (fs.getD i ([], [])).1) ∧ (fcs fs)[i * 2 + 1]? = some (sv (fs.getD i ([], [])).2)
  | [], i, h => by simp at h
  | x :: r, 0, _ => ⟨rfl, rfl⟩
  | x :: r, i + 1, h => by
    have := fcs_get r i (by simpa using h)
    rw [show (i + 1) * 2 = i * 2 + 1 + 1 by omega]
    exact ⟨this.1, this.2⟩

theorem fcs_one (fs : List (List UInt8 × List UInt8)) : ∀ u ∈ fcs fs, u.oneCell' = true := by
  induction fs with
  | nil => intro u hu; cases hu
  | cons x r ih =>
    intro u hu
    simp only [fcs, List.mem_cons] at hu
    rcases hu with rfl | rfl | hu
    · rfl
    · rfl
    · exact ih u hu

theorem Tryz.info127 : (Tryz.prog.info? 127).map (fun i => (i.zero, i.size, i.bytes)) = some (some (.agg #[sv [], sv []]), 2, 32) := by kernel_rfl

theorem fl_own {w : World} {base n : Nat} {v : Value} {fs : List (List UInt8 × List UInt8)} (h : w.ownsRow base 127 2 v n (fcs fs)) (h0 : 0 < n) : ∃ g cap, v = .slice (some ⟨g, 0, none⟩) n cap ∧ Fl w g (cap * 2) fs ∧ fs.length = n := by
  have hl := h.1
  rw [fcs_len] at hl
  rcases h.2 with ⟨_, h1⟩ | ⟨g, cap, cur, rfl, _, hg, hnc, _, hcs, htake⟩
  · omega
  · refine ⟨g, cap, rfl, ⟨⟨fun j => cur.toList.getD j undef, ⟨cur, hg, hcs, fun i hi => ?_⟩, fun i hi => ?_⟩, by omega⟩, by omega⟩
    · show cur[i]? = some (cur.toList.getD i undef)
      rw [List.getD]
      simp [hcs, hi]
    · have hf := fcs_get fs i hi
      rw [← htake, List.getElem?_take, if_pos (by omega), List.getElem?_take, if_pos (by omega)] at hf
      simp only [List.getD, hf.1, hf.2]
      exact ⟨rfl, rfl⟩

/-- Two fields appended to one's own. -/
theorem wpList_app128 {w w0 : World} {ops : Array Oper} {rest : List Oper} {o : Oper} {a : Act} {Q : Exit → Act → World → Prop} (hgd : o.guard = none) (s y : Operand)
    (ho : o.op = .call { callee := .builtin .append, args := #[s, y], argTypes := #[128, 128] }) (B n : Nat) (v : Value) (fs : List (List UInt8 × List UInt8)) (p q : List UInt8 × List UInt8) (hs : a.eval s = v) (hy : a.eval y = .slice (some ⟨w0.heap.size, 0, none⟩) 2 2)
    (hw : w = w0.alloc (.cells #[sv p.1, sv p.2, sv q.1, sv q.2] 127)) (h : w0.ownsRow B 127 2 v n (fcs fs)) (hn : n ≤ 1000) (hB : B ≤ w0.heap.size)
    (hk : ∀ v' w', w'.ownsRow B 127 2 v' (n + 2) (fcs fs ++ fcs [p, q]) → Below B w0 w' → wpList Tryz.prog ops Q rest (a.put o.dst v') w') : wpList Tryz.prog ops Q (o :: rest) a w := by
  obtain ⟨i0, hi, hz0, hz1, hz2⟩ := info_parts Tryz.info127
  have hb : Below w0.heap.size w0 w := by rw [hw]; exact new_below _ _
  have h' : w.ownsRow B 127 2 v n (fcs fs) := by rw [hw]; exact h.alloc _
  have hr := World.rowIs_alloc w0 #[sv p.1, sv p.2, sv q.1, sv q.2] 127 (fun j => (fcs [p, q]).getD j undef) (fun i hi => by
    have hi4 : i < 4 := hi
    rcases (show i = 0 ∨ i = 1 ∨ i = 2 ∨ i = 3 by omega) with rfl | rfl | rfl | rfl <;> rfl)
  rw [← hw] at hr
  refine wpList_append_own w hgd s y 128 ho B 127 i0 (.agg #[sv [], sv []]) 2 32 Tryz.underlying128 hi hz0 hz1 hz2 rfl (by decide) v n (fcs fs) hs h' ⟨w0.heap.size, 0, none⟩ 2 2 (fcs [p, q]) hy rfl (fun j u hu => ?_) (fcs_one _) (by unfold maxLen; omega) (by omega) (by have := hb.size; omega) ?_
  · have hj : j < 4 := by
      have := (List.getElem?_eq_some_iff.1 hu).1
      simpa [fcs] using this
    rw [Addr.add_lit, Nat.zero_add, hr.cell (i := j) hj, List.getD, hu]
    rfl
  · intro v' w' h1 h2 _
    exact hk v' w' h1 ((hb.mono hB).grown h2 (by have := hb.size; omega) (fun k hk => (h.lt k hk).1))

theorem own_low {w : World} {B B' e size n : Nat} {v : Value} {xs : List Value} (h : w.ownsRow B e size v n xs) (hB : B' ≤ B) : w.ownsRow B' e size v n xs := by
  refine ⟨h.1, ?_⟩
  rcases h.2 with h1 | ⟨g, cap, cur, h1, h2, h3⟩
  · exact .inl h1
  · exact .inr ⟨g, cap, cur, h1, Nat.le_trans hB h2, h3⟩

theorem wls3_len (t a c : List UInt8) : (wls [(tre, t), (aut, a), (com, c)]).length = 25 + t.length + a.length + c.length := by
  simp [wls, wln]
  omega

/-- A commit's bytes, without parents. -/
def cmb (T : List Int) (A C M : List UInt8) : List UInt8 := wls [(tre, tb (hx T)), (aut, A), (com, C)] ++ [10] ++ M

theorem own_fs1 (w : World) (x : List UInt8 × List UInt8) : (w.alloc (.cells #[sv x.1, sv x.2] 127)).ownsRow w.heap.size 127 2 (.slice (some ⟨w.heap.size, 0, none⟩) 1 1) 1 (fcs [x]) :=
  World.ownsRow_lit (base := w.heap.size) (e := 127) (size := 2) w #[sv x.1, sv x.2] 1 (Nat.le_refl _) (by unfold maxLen; omega) rfl

set_option maxRecDepth 100000 in
set_option maxHeartbeats 2000000 in
theorem encodeCommit0 (T : List Int) (A C M : List UInt8) (w : World) (hT : IsId T) (ha : ∀ W, Calls Tryz.prog 101 #[sv A, .int .i64 200] W fun e w' => e = .returned (.bool true) ∧ Below W.heap.size W w') (hc : ∀ W, Calls Tryz.prog 101 #[sv C, .int .i64 200] W fun e w' => e = .returned (.bool true) ∧ Below W.heap.size W w') (hA : A.length ≤ 200) (hC : C.length ≤ 200) (hM : M.length ≤ 10000) :
    Calls Tryz.prog 41 #[cmv T nlv A C M] w fun e w' => ∃ v, e = .returned (.tuple #[v, .int .i64 0]) ∧ w'.ownsRow w.heap.size 5 1 v (cmb T A C M).length ((tn (cmb T A C M)).map (Value.int .u8)) ∧ Below w.heap.size w w' := by
  have hz := zero47
  obtain ⟨W, hW⟩ : ∃ W, W = w.alloc (Obj.cells (vals (cf T nlv A C M) 24).toArray 47) := ⟨_, rfl⟩
  have rW : W.rowIs w.heap.size 47 24 (cf T nlv A C M) := by rw [hW]; exact rowIs_vals _ _ _ _
  have bW : Below w.heap.size w W := by rw [hW]; exact new_below _ _
  have hmb := mayBe0 T A C M W ha hc
  have HR : Hid (∀ V, Below W.heap.size W V → V.rowIs w.heap.size 47 24 (cf T nlv A C M)) := fun V hV => rowIs_fr (P := fun _ => False) rW (Fr.ofBelow hV) (fun h => h)
  have HLT : Hid (∀ V, Below W.heap.size W V → (loadVar 27 ⟨w.heap.size, 0, none⟩).run Tryz.prog V = .ok (idv T) V) := fun V hV => by
    have h := load_mid (P := Tryz.prog) (o := 0) 27 _ (HR.out V hV) 20 (by omega) Tryz.underlying27 rfl (by kernel_rfl)
    rw [row_congr (fun j => cf T nlv A C M (0 + j)) (cl T) 20 (fun j hj => by unfold cf; rw [Nat.zero_add, if_pos hj])] at h
    exact h
  have HB : Hid (Below w.heap.size w W) := bW
  have HT : Hid (IsId T) := hT
  have HBD : Hid (A.length ≤ 200 ∧ C.length ≤ 200 ∧ M.length ≤ 10000) := ⟨hA, hC, hM⟩
  have HWs : Hid (w.heap.size ≤ W.heap.size) := bW.size
  clear ha hc bW hT hA hC hM
  have r0 := rowIs_vals w (cf T nlv A C M) 24 47
  go_enter Tryz.func41, Tryz.ntmps41
  go_wp2_with ((refine wpList_ld0 rfl 47 _ rfl w.heap.size rfl _ r0 24 (Nat.le_refl _) Tryz.underlying47 rfl (by kernel_rfl) ?_))
  rw [← hW]
  clear hW r0
  refine hmb.mono ?_
  rintro ex w1 ⟨rfl, b1⟩
  have l1 := HLT.out w1 b1
  have hhx := hex_any T HT.out w1
  rw [tb_sv] at hhx
  have HB1 : Hid (Below W.heap.size W w1) := b1
  clear hmb b1 rW
  go_wp2_with ((refine wpList_ldv rfl 27 _ rfl ⟨w.heap.size, 0, none⟩ rfl _ l1 ?_))
  refine hhx.mono ?_
  rintro ex w2 ⟨rfl, b2⟩
  have B2 : Below W.heap.size W w2 := HB1.out.trans (b2.mono HB1.out.size)
  have HB2 : Hid (Below W.heap.size W w2) := B2
  obtain ⟨hxT, hhxT⟩ : ∃ y, y = tb (hx T) := ⟨_, rfl⟩
  have HXT : Hid (hxT = tb (hx T)) := hhxT
  rw [← hhxT]
  clear hhx b2 l1 hhxT HB1 B2
  obtain ⟨w3, hw3⟩ : ∃ V, V = w2.alloc (Obj.cells #[sv tre, sv hxT] 127) := ⟨_, rfl⟩
  have b3 : Below w2.heap.size w2 w3 := by rw [hw3]; exact new_below _ _
  have B3 : Below W.heap.size W w3 := HB2.out.trans (b3.mono HB2.out.size)
  have c20 : (w2.alloc (Obj.cells #[sv tre, sv hxT] 127)).cell? ⟨w.heap.size, 20, none⟩ = some nlv := by rw [← hw3]; exact (HR.out w3 B3).cell (i := 20) (by omega)
  have c21 : w3.cell? ⟨w.heap.size, 21, none⟩ = some (sv A) := (HR.out w3 B3).cell (i := 21) (by omega)
  have c22 : w3.cell? ⟨w.heap.size, 22, none⟩ = some (sv C) := (HR.out w3 B3).cell (i := 22) (by omega)
  have HO : Hid (w3.ownsRow w2.heap.size 127 2 (.slice (some ⟨w2.heap.size, 0, none⟩) 1 1) 1 (fcs [(tre, hxT)])) := by rw [hw3]; exact own_fs1 w2 (tre, hxT)
  have HB3 : Hid (Below W.heap.size W w3) := B3
  have h23 : w2.heap.size ≤ w3.heap.size := b3.size
  have HS2 : Hid (W.heap.size ≤ w2.heap.size) := HB2.out.size
  clear b3 B3
  go_wp2_with fail
  rw [← hw3]
  clear hw3 c20
  go_loopw [4, 18] (fun lv iv wr => lv = .slice (some ⟨w2.heap.size, 0, none⟩) 1 1 ∧ iv = .int .i64 0 ∧ wr = w3) (fun _ _ _ => 0)
  case atStart => exact ⟨rfl, rfl, rfl⟩
  case round =>
    obtain ⟨rfl, rfl, hwr⟩ := hrel
    subst wr
    go_wp2_with ((refine wpList_app128 (w0 := w3) rfl _ _ rfl w2.heap.size 1 _ [(tre, hxT)] (aut, A) (com, C) rfl rfl rfl HO.out (by omega) h23 ?_; intro v4 w4 o4 b4; have B4 : Below W.heap.size W w4 := HB3.out.trans (b4.mono HS2.out |>.mono (Nat.le_refl _)); have c23 : w4.cell? ⟨w.heap.size, 23, none⟩ = some (sv M) := (HR.out w4 B4).cell (i := 23) (by omega)))
    have o4' : w4.ownsRow w2.heap.size 127 2 v4 (1 + 2) (fcs [(tre, hxT), (aut, A), (com, C)]) := o4
    obtain ⟨g, cap, rfl, hfl, hfn⟩ := fl_own o4' (by omega)
    have hxl : hxT.length = 40 := by rw [HXT.out, tb_len, hx_len, HT.out.1]
    have hwr := written_any g (1 + 2) cap (cap * 2) [(tre, hxT), (aut, A), (com, C)] M w4 hfl hfn (fun x hx => by
      have h1 := HBD.out
      simp only [List.mem_cons, List.not_mem_nil, or_false] at hx
      rcases hx with rfl | rfl | rfl
      · exact ⟨by show tre.length ≤ 1000; decide, by show hxT.length ≤ 1000; omega⟩
      · exact ⟨by show aut.length ≤ 1000; decide, by show A.length ≤ 1000; omega⟩
      · exact ⟨by show com.length ≤ 1000; decide, by show C.length ≤ 1000; omega⟩) (by omega) (by have := HBD.out; omega)
    have HE : Hid (wls [(tre, hxT), (aut, A), (com, C)] ++ [10] ++ M = cmb T A C M) := by rw [HXT.out]; rfl
    have hcl : (cmb T A C M).length = (wls [(tre, hxT), (aut, A), (com, C)]).length + 1 + M.length := by rw [← HE.out]; simp only [List.length_append, List.length_cons, List.length_nil]
    have hcb : (cmb T A C M).length ≤ 16384 := by rw [hcl, wls3_len]; have := HBD.out; omega
    rw [HE.out, ← hcl] at hwr
    have HB4 : Hid (Below w.heap.size w w4) := HB.out.trans (B4.mono HWs.out)
    clear hfl hfn o4 o4' hcl c23 b4 B4
    obtain ⟨L, hL⟩ : ∃ L, L = (cmb T A C M).length := ⟨_, rfl⟩
    have HL : Hid (L = (cmb T A C M).length) := hL
    rw [← hL] at hwr hcb
    clear hL
    refine hwr.mono ?_
    rintro ex w5 ⟨v5, rfl, o5, b5⟩
    obtain ⟨a5, c5, rfl, _, _⟩ := own_rd o5 (tn_byt _)
    have hbd := bounded_ok a5 L c5 w5 hcb
    have HO5 : Hid (w5.ownsRow w.heap.size 5 1 (.slice a5 L c5) L ((tn (cmb T A C M)).map (Value.int .u8))) := own_low o5 HB4.out.size
    have HB5 : Hid (Below w.heap.size w w5) := HB4.out.trans (b5.mono HB4.out.size)
    clear hwr o5 b5
    go_wp2_with (go_at_call 66; refine hbd.mono ?_; rintro ex wz ⟨rfl, hwz⟩; subst wz)
    go_ret2
    refine ⟨_, rfl, ?_, HB5.out⟩
    rw [← HL.out]
    exact HO5.out

end Go.Proofs.YtojgablpjdlegaaGreatDoor

/- A commit's date. -/
namespace Go.Proofs.YtojgablpjdlegaaGreatDoor
open Go.RowKit

theorem bytes_b (w : World) (e : TypeId) (s : ByteArray) : Below w.heap.size w (Lib.bytesWorld w e s) :=
  ⟨rfl, rfl, rfl, by rw [Lib.bytesWorld_size]; omega, fun i hi => Lib.bytesWorld_at_old w e s i hi⟩

abbrev digs : List UInt8 := [48, 49, 50, 51, 52, 53, 54, 55, 56, 57]

set_option maxRecDepth 100000 in
theorem decimal_ok (l : List UInt8) (n : Int) (w : World) (h1 : l.length ≤ 10) (h2 : Lib.trimS l digs = []) (h3 : Lib.atoi l = some n) : Calls Tryz.prog 84 #[sv l] w fun e w' => e = .returned (.int .i64 n) ∧ Below w.heap.size w w' := by
  have ht : Calls Tryz.prog 102 #[sv l, sv digs] w fun e w' => e = .returned (sv (Lib.trimS l digs)) ∧ Below w.heap.size w w' := Any.strings_Trim_laid Tryz.trim (by kernel_rfl) ⟨l.toArray⟩ ⟨digs.toArray⟩ w (by rw [size_sv]; omega) (by decide) (ascii_of_all (by decide))
  rw [h2] at ht
  have hat : ∀ W, Calls Tryz.prog 103 #[sv l] W fun e w' => e = .returned (.tuple #[.int .i64 n, .nilIface]) ∧ Below W.heap.size W w' := fun W => by
    refine (Any.strconv_Atoi Tryz.atoi ⟨l.toArray⟩ n (by rw [size_sv]; omega) h3 W).mono ?_
    rintro e w' ⟨rfl, t, rfl⟩
    exact ⟨rfl, bytes_b W 5 t⟩
  have d1 : decide ((10 : Int) < l.length) = false := by simp; omega
  have d2 : decide (10 < l.length) = false := by simp; omega
  clear h1 h2 h3
  go_enter Tryz.func84, Tryz.ntmps84
  go_wp2_with fail
  refine ht.mono ?_
  rintro e w1 ⟨rfl, b1⟩
  have h4 := hat w1
  have HB1 : Hid (Below w.heap.size w w1) := b1
  clear ht b1
  go_wp2_with fail
  refine h4.mono ?_
  rintro e w2 ⟨rfl, b2⟩
  have HB2 : Hid (Below w.heap.size w w2) := HB1.out.trans (b2.mono HB1.out.size)
  clear h4 b2
  go_wp2
  go_ret
  exact ⟨rfl, HB2.out⟩

/-- A blank? -/
def isBl (x : Nat) : Bool := decide (x = 32)

set_option maxRecDepth 100000 in
theorem blank_any (x : Nat) (W : World) : Calls Tryz.prog 83 #[.int .i32 x] W fun e w' => e = .returned (.bool (isBl x)) ∧ w' = W := by
  unfold isBl
  by_cases h : x = 32
  · subst h
    go_enter Tryz.func83, Tryz.ntmps83
    go_wp2
    go_ret
    exact ⟨rfl, rfl⟩
  · have d : ((x : Int) == 32) = false := by simp; omega
    rw [show decide (x = 32) = false by simp [h]]
    go_enter Tryz.func83, Tryz.ntmps83
    go_wp2
    go_ret
    exact ⟨rfl, rfl⟩

theorem fields_any (l : List UInt8) (w : World) (hl : l.length ≤ 1000000) : Calls Tryz.prog 82 #[sv l, .func (.func 83) #[] #[]] w fun e w' => ∃ A, e = .returned (.slice (some ⟨A, 0, none⟩) (Lib.goFieldsP isBl ⟨l.toArray⟩).length (Lib.goFieldsP isBl ⟨l.toArray⟩).length) ∧ w.heap.size ≤ A ∧ w'.ownsRow w.heap.size 9 1 (.slice (some ⟨A, 0, none⟩) (Lib.goFieldsP isBl ⟨l.toArray⟩).length (Lib.goFieldsP isBl ⟨l.toArray⟩).length) (Lib.goFieldsP isBl ⟨l.toArray⟩).length ((Lib.goFieldsP isBl ⟨l.toArray⟩).map Value.string) ∧ Below w.heap.size w w' :=
  Any.strings_FieldsFunc Tryz.ffun 83 #[] (fun args w => by simp [go_sem]) isBl ⟨l.toArray⟩ w (by rw [size_sv]; omega) (fun W x _ => (blank_any x W).mono (fun e w' ⟨h1, h2⟩ => ⟨h1, 0, h2⟩)) (by kernel_rfl) (by kernel_rfl)

set_option maxRecDepth 100000 in
set_option maxHeartbeats 1000000 in
theorem date_of (T : List Int) (p : Value) (A C M l : List UInt8) (ws : List ByteArray) (k : Nat) (n : Int) (w : World) (hC : C.length ≤ 1000000) (hw : Lib.goFieldsP isBl ⟨C.toArray⟩ = ws) (hk : ws.length = k + 2) (hl : ws[k]? = some ⟨l.toArray⟩) (h1 : l.length ≤ 10) (h2 : Lib.trimS l digs = []) (h3 : Lib.atoi l = some n) (hk2 : k ≤ 1000000) :
    Calls Tryz.prog 46 #[cmv T p A C M] w fun e w' => e = .returned (.int .i64 n) ∧ Below w.heap.size w w' := by
  have hz := zero47
  have r0 := rowIs_vals w (cf T p A C M) 24 47
  have b0 := new_below w (Obj.cells (vals (cf T p A C M) 24).toArray 47)
  have c22 : (w.alloc (Obj.cells (vals (cf T p A C M) 24).toArray 47)).cell? ⟨w.heap.size, 22, none⟩ = some (sv C) := r0.cell (i := 22) (by omega)
  have hf := fields_any C (w.alloc (Obj.cells (vals (cf T p A C M) 24).toArray 47)) hC
  rw [hw, hk] at hf
  have HB : Hid (Below w.heap.size w (w.alloc (Obj.cells (vals (cf T p A C M) 24).toArray 47))) := b0
  have HL : Hid (ws[k]? = some ⟨l.toArray⟩) := hl
  have HD : Hid (∀ W, Calls Tryz.prog 84 #[sv l] W fun e w' => e = .returned (.int .i64 n) ∧ Below W.heap.size W w') := fun W => decimal_ok l n W h1 h2 h3
  obtain ⟨k2, hk2'⟩ : ∃ k2, k2 = k + 2 := ⟨_, rfl⟩
  rw [← hk2'] at hf
  have y1 : (k2 : Int) - 2 = k := by omega
  have y2 : IntKind.i64.wrap (k : Int) = k := wraps_i64 _ (by omega) (by omega)
  have d1 : decide ((k2 : Int) < 2) = false := by simp; omega
  have d2 : decide (k2 < 2) = false := by simp; omega
  have d3 : k < k2 := by omega
  have d4 : (k : Int) < k2 := by omega
  clear hC hw hk hl h1 h2 h3 r0 b0 hk2 hk2'
  go_enter Tryz.func46, Tryz.ntmps46
  go_wp2_with fail
  refine hf.mono ?_
  rintro e w1 ⟨X, rfl, _, o1, b1⟩
  have q1 : w1.cell? ⟨X, k, none⟩ = some (sv l) := by
    have := o1.cells (g := X) rfl k (sv l) (by rw [List.getElem?_map, HL.out]; rfl)
    rwa [Addr.add_lit, Nat.zero_add] at this
  have HB1 : Hid (Below w.heap.size w w1) := HB.out.trans (b1.mono HB.out.size)
  have hd := HD.out w1
  clear hf o1 b1 c22
  go_wp2_with fail
  refine hd.mono ?_
  rintro e w2 ⟨rfl, b2⟩
  have HB2 : Hid (Below w.heap.size w w2) := HB1.out.trans (b2.mono HB1.out.size)
  clear hd b2 q1
  go_wp2
  go_ret
  exact ⟨rfl, HB2.out⟩

end Go.Proofs.YtojgablpjdlegaaGreatDoor

/- Canonical bytes. -/
namespace Go.Proofs.YtojgablpjdlegaaGreatDoor
open Go.RowKit

theorem bw_cell (w : World) (l : List UInt8) (j : Nat) (hj : j < grownCap w l.length 0 5) : ∃ u, (Lib.bytesWorld w 5 ⟨l.toArray⟩).cell? ⟨w.heap.size, j, none⟩ = some u ∧ (Lib.bytesWorld w 5 ⟨l.toArray⟩).frozen? ⟨w.heap.size, j, none⟩ = false := by
  have hg := Lib.bytesWorld_at_new w 5 ⟨l.toArray⟩
  have hge := grownCap_ge w l.length 0 5
  have hsz : (Lib.bytesCells w 5 ⟨l.toArray⟩).size = grownCap w l.length 0 5 := by
    unfold Lib.bytesCells
    rw [size_sv]
    simp
    omega
  have hj2 : j < (Lib.bytesCells w 5 ⟨l.toArray⟩).size := by omega
  refine ⟨(Lib.bytesCells w 5 ⟨l.toArray⟩)[j], ?_, ?_⟩
  · simp [World.cell?, hg, hj2]
  · unfold World.frozen?
    rw [hg]
    simp
    omega

theorem bw_rd (w : World) (l : List UInt8) : Rd (Lib.bytesWorld w 5 ⟨l.toArray⟩) (some ⟨w.heap.size, 0, none⟩) l.length (grownCap w l.length 0 5) (tn l) := by
  refine ⟨tn_len l, grownCap_ge w l.length 0 5, (fun e => by cases e), fun ad had j hj => ?_, tn_byt l⟩
  cases had
  rw [Addr.add_lit, Nat.zero_add, Lib.bytesWorld_cell w 5 ⟨l.toArray⟩ j (by rw [size_sv]; exact hj)]
  simp [tn, List.getD, List.getElem?_eq_getElem hj]

theorem getD_left (a b : List Int) (j : Nat) (h : j < a.length) : (a ++ b).getD j 0 = a.getD j 0 := by simp [List.getD, List.getElem?_append_left h]

theorem getD_right (a b : List Int) (j : Nat) (h : a.length ≤ j) : (a ++ b).getD j 0 = b.getD (j - a.length) 0 := by simp [List.getD, List.getElem?_append_right h]

theorem run_appB (ty : TypeId) (w : World) (l : List UInt8) (ao : Option Addr) (m c : Nat) (ys : List Int) (hr : Rd (Lib.bytesWorld w 5 ⟨l.toArray⟩) ao m c ys) (hn : l.length + m ≤ 100000000) :
    ∃ g cap w', (Builtin.append_ #[22, 22] ty #[.slice (some ⟨w.heap.size, 0, none⟩) l.length (grownCap w l.length 0 5), .slice ao m c]).run Tryz.prog (Lib.bytesWorld w 5 ⟨l.toArray⟩) = .ok (.slice (some ⟨g, 0, none⟩) (l.length + m) cap) w' ∧ Rd w' (some ⟨g, 0, none⟩) (l.length + m) cap (tn l ++ ys) ∧ Below w.heap.size w w' ∧ w.heap.size ≤ g := by
  obtain ⟨i0, hi, hz0, hz1, hz2⟩ := info_parts Tryz.info5
  have hb := bytes_b w 5 ⟨l.toArray⟩
  have hd := bw_rd w l
  obtain ⟨W, hW⟩ : ∃ W, W = Lib.bytesWorld w 5 ⟨l.toArray⟩ := ⟨_, rfl⟩
  obtain ⟨cap, hcap⟩ : ∃ cap, cap = grownCap w l.length 0 5 := ⟨_, rfl⟩
  have hbc := fun j hj => bw_cell w l j hj
  rw [← hW, ← hcap] at hbc hd
  rw [← hW] at hr hb
  rw [← hW, ← hcap]
  have hcl : l.length ≤ cap := by rw [hcap]; exact grownCap_ge w l.length 0 5
  clear hW hcap
  cases ao with
  | none =>
    obtain ⟨rfl, rfl⟩ := hr.nul rfl
    have hy : ys = [] := List.eq_nil_of_length_eq_zero hr.len
    subst hy
    refine ⟨w.heap.size, cap, W, ?_, by simpa using hd, hb, Nat.le_refl _⟩
    simp [Builtin.append_, run_underlying Tryz.underlying22, sizeOf, typeInfo, hi, Builtin.lenOf, Builtin.firstCells, hcl, loadCells, storeCells]
  | some ad =>
    have hl : (ys.map (Value.int .u8)).length = m * i0.size := by rw [hz1, List.length_map, hr.len, Nat.mul_one]
    have hf := run_firstCells_some (P := Tryz.prog) W i0.size m ad m c (ys.map (Value.int .u8)) hl (hr.cellsOf ad rfl)
    by_cases hroom : l.length + m ≤ cap
    · have hst := run_storeCells_cells (P := Tryz.prog) w.heap.size l.length (ys.map (Value.int .u8)) 0 W (fun j hj => by
        have hj' : j < m := by rw [List.length_map, hr.len] at hj; exact hj
        obtain ⟨u, h1, _⟩ := hbc (l.length + 0 + j) (by omega)
        rw [h1]; rfl) (fun j hj => by
        have hj' : j < m := by rw [List.length_map, hr.len] at hj; exact hj
        obtain ⟨u, _, h2⟩ := hbc (l.length + 0 + j) (by omega)
        exact h2) (ints_oneCell _ _)
      rw [Nat.add_zero] at hst
      refine ⟨w.heap.size, cap, W.setCells w.heap.size l.length (ys.map (Value.int .u8)), ?_, ⟨by simp [tn_len, hr.len], hroom, (fun e => by cases e), fun a ha j hj => ?_, fun x hx => ?_⟩, st_below hb (Fr.setCells (P := fun k => k = w.heap.size) rfl _ _ _ _ (Fr.refl _ _)), Nat.le_refl _⟩
      · rw [hz1] at hf
        simp [Builtin.append_, run_underlying Tryz.underlying22, sizeOf, typeInfo, hi, Builtin.lenOf, hroom, hf, Addr.add_lit, hz1]
        rw [hst]
        simp
      · cases ha
        rw [Addr.add_lit, Nat.zero_add]
        by_cases hj2 : j < l.length
        · rw [World.cell?_setCells_out _ _ _ _ _ (fun _ _ => .inl hj2)]
          have := hd.cells _ rfl j hj2
          rw [Addr.add_lit, Nat.zero_add] at this
          rw [this, getD_left _ _ _ (by rw [tn_len]; exact hj2)]
        · have hin := World.cell?_setCells_in w.heap.size (ys.map (Value.int .u8)) l.length W (fun j hj => by
            have hj' : j < m := by rw [List.length_map, hr.len] at hj; exact hj
            obtain ⟨u, h1, _⟩ := hbc (l.length + j) (by omega)
            rw [h1]; rfl) (j - l.length) (by rw [List.length_map, hr.len]; omega)
          rw [show l.length + (j - l.length) = j by omega] at hin
          rw [hin, List.getElem_map, getD_right _ _ _ (by rw [tn_len]; omega), tn_len, List.getD, List.getElem?_eq_getElem (by rw [hr.len]; omega)]
          rfl
      · rcases List.mem_append.1 hx with h | h
        · exact tn_byt l x h
        · exact hr.byt x h
    · have hg := run_append_grow (P := Tryz.prog) W 22 ty 5 i0 (.int .u8 0) Tryz.underlying22 hi hz0 ⟨w.heap.size, 0, none⟩ l.length cap ((tn l).map (Value.int .u8)) (by rw [hz1, List.length_map, tn_len, Nat.mul_one]) (hd.cellsOf _ rfl) ad m c (ys.map (Value.int .u8)) hl (hr.cellsOf ad rfl) (by omega) (by omega) (by rw [hz2]; exact growslice_fits (bytes := 1) (by omega) (by omega))
      refine ⟨W.heap.size, _, _, hg, ⟨by simp [tn_len, hr.len], grownCap_ge _ _ _ _, (fun e => by cases e), fun a ha j hj => ?_, fun x hx => ?_⟩, (hb.drew).alloc hb.size _, hb.size⟩
      · cases ha
        rw [Addr.add_lit, Nat.zero_add]
        obtain ⟨Z, hZ⟩ : ∃ Z, Z = Builtin.zeroCells (Value.cells (.int .u8 0)) (grownCap W (l.length + m) cap 5 - (l.length + m)) := ⟨_, rfl⟩
        rw [← hZ]
        clear hZ hg
        have hsz : j < (((tn l).map (Value.int .u8)).toArray ++ (ys.map (Value.int .u8)).toArray).size := by simp [tn_len, hr.len]; omega
        have hc : (W.drew.alloc (.cells (((tn l).map (Value.int .u8)).toArray ++ (ys.map (Value.int .u8)).toArray ++ Z) 5)).cell? ⟨W.heap.size, j, none⟩ = (((tn l).map (Value.int .u8)).toArray ++ (ys.map (Value.int .u8)).toArray ++ Z)[j]? := by
          simp [go_sem]
        rw [hc, Array.getElem?_append_left hsz]
        have hx : (((tn l).map (Value.int .u8)).toArray ++ (ys.map (Value.int .u8)).toArray)[j]? = ((tn l ++ ys).map (Value.int .u8))[j]? := by simp
        rw [hx, List.getElem?_map, List.getD, List.getElem?_eq_getElem (by simp [tn_len, hr.len]; omega)]
        rfl
      · rcases List.mem_append.1 hx with h | h
        · exact tn_byt l x h
        · exact hr.byt x h

end Go.Proofs.YtojgablpjdlegaaGreatDoor
