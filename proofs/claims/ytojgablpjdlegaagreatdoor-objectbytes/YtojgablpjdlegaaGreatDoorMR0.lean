/- Rl, ObX. -/
import Derived.Test.YtojgablpjdlegaaGreatDoorMC10
import Derived.Test.YtojgablpjdlegaaGreatDoorM14
/- The document's line: a line of a word at a place. -/
namespace Go.Proofs.YtojgablpjdlegaaGreatDoor
open Go.RowKit Go.Shelf

/-- The first place from one on where a number stands, or the end. -/
def nx (z : Int) (xs : List Int) (p : Nat) : Nat := p + ((xs.drop p).takeWhile (fun x => !decide (x = z))).length

theorem tw_all (z : Int) : ∀ (l : List Int) (j : Nat), j < (l.takeWhile (fun x => !decide (x = z))).length → l.getD j 0 ≠ z
  | a :: l, 0, h => by
    by_cases ha : a = z
    · simp [ha] at h
    · simpa using ha
  | a :: l, j + 1, h => by
    by_cases ha : a = z
    · simp [ha] at h
    · have := tw_all z l j (by simp [ha] at h; omega)
      simpa using this
  | [], j, h => by simp at h

theorem tw_stop (z : Int) : ∀ (l : List Int), (l.takeWhile (fun x => !decide (x = z))).length < l.length → l.getD (l.takeWhile (fun x => !decide (x = z))).length 0 = z
  | a :: l, h => by
    by_cases ha : a = z
    · simp [ha]
    · have := tw_stop z l (by simp [ha] at h; exact h)
      simp [ha] at this ⊢
      exact this
  | [], h => by simp at h

theorem tw_len (z : Int) (l : List Int) : (l.takeWhile (fun x => !decide (x = z))).length ≤ l.length := (List.takeWhile_sublist _).length_le

theorem nx_ge (z : Int) (xs : List Int) (p : Nat) : p ≤ nx z xs p := by unfold nx; omega
theorem nx_le (z : Int) (xs : List Int) (p : Nat) (h : p ≤ xs.length) : nx z xs p ≤ xs.length := by
  have := tw_len z (xs.drop p)
  rw [List.length_drop] at this
  unfold nx
  omega
theorem getD_drop (xs : List Int) (p j : Nat) : (xs.drop p).getD j 0 = xs.getD (p + j) 0 := by simp [List.getD]
theorem nx_ne (z : Int) (xs : List Int) (p j : Nat) (h1 : p ≤ j) (h2 : j < nx z xs p) : xs.getD j 0 ≠ z := by
  have := tw_all z (xs.drop p) (j - p) (by unfold nx at h2; omega)
  rw [getD_drop] at this
  rwa [show p + (j - p) = j by omega] at this
theorem nx_at (z : Int) (xs : List Int) (p : Nat) (h : nx z xs p < xs.length) : xs.getD (nx z xs p) 0 = z := by
  have := tw_stop z (xs.drop p) (by rw [List.length_drop]; unfold nx at h; omega)
  rw [getD_drop] at this
  exact this

/-- A line of a word at a place: what it says, where it ends, is it one. -/
def rl (xs : List Int) (p : Nat) (wd : List UInt8) : List UInt8 × Nat × Bool :=
  if nx 10 xs p = xs.length ∨ nx 10 xs p - p < wd.length + 1 ∨ tb ((xs.drop p).take (wd.length + 1)) ≠ wd ++ [32] then ([], p, false)
  else (tb ((xs.drop (p + wd.length + 1)).take (nx 10 xs p - (p + wd.length + 1))), nx 10 xs p + 1, true)

theorem wpList_want {P : Program} {ops : Array Oper} {Q : Exit → Act → World → Prop} {a : Act} {w : World} {rest : List Oper} {o : Oper} (hw : Region.wanted o (yielded ops a.tmps) = true)
    (h : ∀ K : Act → World → Prop, (∀ a w, wpList P ops Q rest a w → K a w) → o.wp P a w K Q) : wpList P ops Q (o :: rest) a w :=
  wpList_step fun K hK => by simp only [hw, if_true]; exact h K hK

theorem wpList_subW {ops : Array Oper} {rest : List Oper} {op : Oper} {a : Act} {w : World} {Q : Exit → Act → World → Prop} (hw : Region.wanted op (yielded ops a.tmps) = true) (x : Operand) (lo hi : Option Operand) (ho : op.op = .slice 22 x lo hi none)
    {ao : Option Addr} {n c : Nat} {ys : List Int} (h : Rd w ao n c ys) (p m : Nat) (hpm : p + m ≤ n) (hx : a.eval x = .slice ao n c)
    (hlo : lo.map a.eval = some (.int .i64 (p : Int)) ∨ lo.map a.eval = none ∧ p = 0) (hhi : hi.map a.eval = some (.int .i64 ((p + m : Nat) : Int)) ∨ hi.map a.eval = none ∧ p + m = n)
    (hk : ∀ ao' c', Rd w ao' m c' ((ys.drop p).take m) → wpList Tryz.prog ops Q rest (a.put op.dst (.slice ao' m c')) w) : wpList Tryz.prog ops Q (op :: rest) a w := by
  refine wpList_want hw fun K hK => ?_
  unfold Oper.wp
  have hrun := run_sub h hpm _ _ hlo hhi
  have hat : (Instr.sliceAt 22 (.slice ao n c) (lo.map a.eval) (hi.map a.eval) none).run Tryz.prog w = .ok (.slice (if c = p then ao else Option.map (fun x => x.add p) ao) m (c - p)) w := by
    unfold Instr.sliceAt
    simp only [Sem.run_bind, run_underlying Tryz.underlying22, Result.andThen_ok]
    exact hrun
  simp only [execOp, ho, hx, Sem.run_bind, Option.map_none, hat, Result.andThen_ok, Sem.run_pure]
  exact hK _ _ (hk _ _ (h.sub p m hpm))

theorem wpList_convW {ops : Array Oper} {rest : List Oper} {op : Oper} {a : Act} {w : World} {Q : Exit → Act → World → Prop} (hw : Region.wanted op (yielded ops a.tmps) = true) (x : Operand) (ho : op.op = .convert 22 9 x)
    {ao : Option Addr} {n c : Nat} {ys : List Int} (h : Rd w ao n c ys) (hx : a.eval x = .slice ao n c) (l : List UInt8) (hl : tb ys = l)
    (hk : wpList Tryz.prog ops Q rest (a.put op.dst (sv l)) w) : wpList Tryz.prog ops Q (op :: rest) a w := by
  refine wpList_want hw fun K hK => ?_
  have hs := h.str
  rw [tb_sv, hl] at hs
  unfold Oper.wp
  simp only [execOp, ho, hx, hs, Sem.run_bind, Result.andThen_ok, Sem.run_pure]
  exact hK _ _ hk

set_option maxRecDepth 100000 in
set_option maxHeartbeats 4000000 in
theorem rline_any (ao : Option Addr) (n c : Nat) (xs : List Int) (p : Nat) (wd : List UInt8) (w : World) (hr : Rd w ao n c xs) (hn : n ≤ 1000000) (hp : p ≤ n) (hwd : wd.length ≤ 100) :
    Calls Tryz.prog 59 #[.slice ao n c, .int .i64 (p : Int), sv wd] w fun e w' => e = .returned (.tuple #[sv (rl xs p wd).1, .int .i64 ((rl xs p wd).2.1 : Int), .bool (rl xs p wd).2.2]) ∧ w' = w := by
  have hlen := hr.len
  obtain ⟨S, hS⟩ : ∃ S, S = nx 10 xs p := ⟨_, rfl⟩
  have hSn : S ≤ n := by have := nx_le 10 xs p (by omega); omega
  have hSp : p ≤ S := by rw [hS]; exact nx_ge _ _ _
  have HF : Hid (∀ j, p ≤ j → j < S → xs.getD j 0 ≠ 10) := fun j h1 h2 => nx_ne 10 xs p j h1 (by omega)
  have HE : Hid (S < n → xs.getD S 0 = 10) := fun h => by rw [hS]; exact nx_at 10 xs p (by omega)
  have HC : Hid (0 < n → ∃ b off, ao = some ⟨b, off, none⟩ ∧ ∀ j, j < n → w.cell? ⟨b, off + j, none⟩ = some (.int .u8 (xs.getD j 0))) := fun h0 => hr.plain h0
  have HS : Hid (S = nx 10 xs p ∧ p ≤ S ∧ S ≤ n ∧ n ≤ 1000000 ∧ xs.length = n ∧ wd.length ≤ 100) := ⟨hS, hSp, hSn, hn, hlen, hwd⟩
  have HR : Hid (Rd w ao n c xs) := hr
  have HNO : Hid ((S = n ∨ S - p < wd.length + 1 ∨ tb ((xs.drop p).take (wd.length + 1)) ≠ wd ++ [32]) → rl xs p wd = ([], p, false)) := fun h => by
    unfold rl
    rw [← hS, hlen, if_pos h]
  have HYES : Hid (S ≠ n → ¬ S - p < wd.length + 1 → tb ((xs.drop p).take (wd.length + 1)) = wd ++ [32] → rl xs p wd = (tb ((xs.drop (p + wd.length + 1)).take (S - (p + wd.length + 1))), S + 1, true)) := fun h1 h2 h3 => by
    unfold rl
    rw [← hS, hlen, if_neg (fun h => by rcases h with h | h | h; exact h1 h; exact h2 h; exact h h3)]
  clear hS hlen hSn hSp hr hn hp hwd
  go_enter Tryz.func59, Tryz.ntmps59
  go_wp2_with fail
  go_loopw [9] (fun iv wr => wr = w ∧ ∃ j : Nat, p ≤ j ∧ j ≤ S ∧ iv = .int .i64 (j : Int)) (fun iv _ => S - (intOf iv).toNat)
  case atStart => exact ⟨rfl, p, Nat.le_refl _, HS.out.2.1, rfl⟩
  case round =>
    obtain ⟨hwr, j, hpj, hj, rfl⟩ := hrel
    subst wr
    by_cases hjS : j < S
    · obtain ⟨b, off, rfl, hcl⟩ := HC.out (by have := HS.out; omega)
      have cj := hcl j (by have := HS.out; omega)
      have zj := HF.out j hpj hjS
      obtain ⟨z, hz⟩ : ∃ z, z = xs.getD j 0 := ⟨_, rfl⟩
      rw [← hz] at cj zj
      have z1 : (z == 10) = false := by simp [zj]
      have z2 : (z != 10) = true := by simp [zj]
      have e1 : decide ((j : Int) < n) = true := by have := HS.out; simp; omega
      have e2 : decide (j < n) = true := by have := HS.out; simp; omega
      have x1 : (j : Int) < n := by have := HS.out; omega
      have x2 : j < n := by have := HS.out; omega
      have y1 : IntKind.i64.wrap ((j : Int) + 1) = (j : Int) + 1 := by rw [IntKind.wrap_i64]; have := HS.out; omega
      have HJ : Hid (p ≤ j + 1 ∧ j + 1 ≤ S) := ⟨by omega, hjS⟩
      clear hz zj hjS hj hcl hpj
      go_wp2
      go_roundw
      case measure => have := HJ.out; simp [intOf]; omega
      case rel => exact ⟨trivial, j + 1, HJ.out.1, HJ.out.2, by simp⟩
    · have hjS' : j = S := by omega
      have y0 : ¬ (S : Int) < (S : Int) := by omega
      by_cases hjn : j = n
      · have ho := HNO.out (.inl (by omega))
        have HO : Hid (rl xs p wd = ([], p, false)) := ho
        have hpn : p ≤ n := by have := HS.out; omega
        have w1 : IntKind.i64.wrap ((n : Int) - (p : Int)) = (n : Int) - (p : Int) := by rw [IntKind.wrap_i64]; have := HS.out; omega
        subst hjn
        clear hjS' hjS hj ho hpj y0
        go_wp2
        go_ret3
        rw [HO.out]
        exact ⟨rfl, rfl⟩
      · obtain ⟨b, off, rfl, hcl⟩ := HC.out (by have := HS.out; omega)
        have cj := hcl j (by have := HS.out; omega)
        rw [hjS', HE.out (by have := HS.out; omega), ← hjS'] at cj
        have e1 : decide ((j : Int) < n) = true := by have := HS.out; simp; omega
        have e2 : decide (j < n) = true := by have := HS.out; simp; omega
        have e5 : ((j : Int) == (n : Int)) = false := by simp; omega
        have x1 : (j : Int) < n := by have := HS.out; omega
        have x2 : j < n := by have := HS.out; omega
        obtain ⟨q, hq⟩ : ∃ q, j = p + q := ⟨j - p, by omega⟩
        have w1 : IntKind.i64.wrap ((j : Int) - (p : Int)) = (q : Int) := by rw [IntKind.wrap_i64]; have := HS.out; omega
        have w2 : IntKind.i64.wrap ((wd.length : Int) + 1) = (wd.length : Int) + 1 := by rw [IntKind.wrap_i64]; have := HS.out; omega
        by_cases hs : q < wd.length + 1
        · have HO : Hid (rl xs p wd = ([], p, false)) := HNO.out (.inr (.inl (by omega)))
          have e6 : decide ((q : Int) < (wd.length : Int) + 1) = true := by simp; omega
          have e7 : decide (q < wd.length + 1) = true := by simp; omega
          clear hjS' hjS hj hpj y0 hcl hq
          go_wp2
          go_ret3
          rw [HO.out]
          exact ⟨rfl, rfl⟩
        · obtain ⟨y1, hy1⟩ : ∃ y, y = wd ++ [32] := ⟨_, rfl⟩
          have cc1 : (⟨wd.toArray⟩ ++ ⟨#[32]⟩ : ByteArray) = ⟨y1.toArray⟩ := by rw [hy1]; exact cat_sv wd [32]
          have q1 : (9223372036854775807 < wd.length + 1) = False := by have := HS.out; simp; omega
          obtain ⟨G, hG⟩ : ∃ G, tb ((xs.drop p).take (wd.length + 1)) = G := ⟨_, rfl⟩
          have HG : Hid (tb ((xs.drop p).take (wd.length + 1)) = G ∧ y1 = wd ++ [32]) := ⟨hG, hy1⟩
          obtain ⟨bq, hbq⟩ : ∃ bq, (G != y1) = bq := ⟨_, rfl⟩
          have HBQ : Hid ((G != y1) = bq) := hbq
          have e6 : decide ((q : Int) < (wd.length : Int) + 1) = false := by simp; omega
          have e7 : decide (q < wd.length + 1) = false := by simp; omega
          have w3 : IntKind.i64.wrap ((p : Int) + (wd.length : Int)) = (p : Int) + (wd.length : Int) := by rw [IntKind.wrap_i64]; have := HS.out; omega
          have w4 : IntKind.i64.wrap ((p : Int) + (wd.length : Int) + 1) = (p : Int) + (wd.length : Int) + 1 := by rw [IntKind.wrap_i64]; have := HS.out; omega
          have w5 : IntKind.i64.wrap ((j : Int) + 1) = (j : Int) + 1 := by rw [IntKind.wrap_i64]; have := HS.out; omega
          have HQ : Hid (p + (wd.length + 1) ≤ n ∧ p + wd.length + 1 + (j - (p + wd.length + 1)) ≤ n ∧ p + wd.length + 1 ≤ j ∧ j = S ∧ ¬ S - p < wd.length + 1 ∧ S ≠ n) := ⟨by omega, by omega, by omega, hjS', by omega, by omega⟩
          obtain ⟨X, hX⟩ : ∃ X, tb ((xs.drop (p + wd.length + 1)).take (j - (p + wd.length + 1))) = X := ⟨_, rfl⟩
          have HX : Hid (tb ((xs.drop (p + wd.length + 1)).take (j - (p + wd.length + 1))) = X) := hX
          clear hjS' hjS hj hpj y0 hcl hq hs hG hy1 hX
          cases bq with
          | true =>
            have HO : Hid (rl xs p wd = ([], p, false)) := HNO.out (.inr (.inr (by rw [HG.out.1, ← HG.out.2]; intro e; have := HBQ.out; simp [e] at this)))
            have g1 : (G == y1) = false := by have := HBQ.out; simpa using this
            clear hbq
            go_wp2_with (first
              | (refine wpList_subW (by kernel_rfl) _ _ _ rfl HR.out p (wd.length + 1) HQ.out.1 rfl (.inl rfl) (.inl (by refine congrArg some (congrArg (Value.int IntKind.i64) ?_); omega)) ?_; intro a2 c2 rd2; have HR2 : Hid _ := rd2; clear rd2)
              | (refine wpList_convW (by kernel_rfl) _ rfl HR2.out rfl G HG.out.1 ?_))
            go_ret3
            rw [HO.out]
            exact ⟨rfl, rfl⟩
          | false =>
            have HO : Hid (rl xs p wd = (X, j + 1, true)) := by
              have := HYES.out HQ.out.2.2.2.2.2 HQ.out.2.2.2.2.1 (by rw [HG.out.1, ← HG.out.2]; have := HBQ.out; simpa using this)
              show _ = _
              rw [this, ← HQ.out.2.2.2.1, HX.out]
            have g1 : (G == y1) = true := by have := HBQ.out; simpa using this
            clear hbq
            go_wp2_with (first
              | (refine wpList_subW (by kernel_rfl) _ _ _ rfl HR.out p (wd.length + 1) HQ.out.1 rfl (.inl rfl) (.inl (by refine congrArg some (congrArg (Value.int IntKind.i64) ?_); omega)) ?_; intro a2 c2 rd2; have HR2 : Hid _ := rd2; clear rd2)
              | (refine wpList_convW (by kernel_rfl) _ rfl HR2.out rfl G HG.out.1 ?_)
              | (refine wpList_subW (by kernel_rfl) _ _ _ rfl HR.out (p + wd.length + 1) (j - (p + wd.length + 1)) HQ.out.2.1 rfl (.inl (by refine congrArg some (congrArg (Value.int IntKind.i64) ?_); omega)) (.inl (by refine congrArg some (congrArg (Value.int IntKind.i64) ?_); have := HQ.out; omega)) ?_; intro a3 c3 rd3; have HR3 : Hid _ := rd3; clear rd3)
              | (refine wpList_convW (by kernel_rfl) _ rfl HR3.out rfl X HX.out ?_))
            go_ret3
            rw [HO.out]
            exact ⟨rfl, rfl⟩

end Go.Proofs.YtojgablpjdlegaaGreatDoor

/- A blob: parsed, its edges, its parents, its check; what is too long. -/
namespace Go.Proofs.YtojgablpjdlegaaGreatDoor
open Go.RowKit Go.Shelf

theorem parse_blob (ao : Option Addr) (n c : Nat) (xs : List Int) (w : World) (hg : Gs w) (hr : Rd w ao n c xs) (hn : n ≤ 16384) :
    Calls Tryz.prog 56 #[.int .i64 3, .slice ao n c] w fun ex w' => ex = .returned (.tuple #[row ps0 50, .int .i64 0]) ∧ Below w.heap.size w w' := by
  refine (parse_3 ao n c xs w hg hr hn (fun _ => ps0) (tb xs) (fun _ _ => True) ?_ ?_).mono ?_
  · intro R W hgW hR hrW hbW hs
    refine (blob_any _ W).mono ?_
    rintro e w' ⟨rfl, hb⟩
    exact ⟨nlv, rfl, ps0_one, rowIs_fr (P := fun _ => False) hrW (Fr.ofBelow hb) (fun h => h), Fr.ofBelow hb, trivial⟩
  · exact fun _ _ _ _ _ => trivial
  · rintro e w' ⟨v, rfl, _, hb⟩
    exact ⟨rfl, hb⟩

set_option maxRecDepth 100000 in
set_option maxHeartbeats 2000000 in
theorem edges_blob (ao : Option Addr) (n c : Nat) (xs : List Int) (w : World) (hg : Gs w) (hr : Rd w ao n c xs) (hn : n ≤ 16384) :
    Calls Tryz.prog 30 #[.int .i64 3, .slice ao n c] w fun ex w' => ex = .returned (.tuple #[nlv, .int .i64 0]) ∧ Below w.heap.size w w' := by
  have hz := zero107
  have hpa := parse_blob ao n c xs w hg hr hn
  clear hg hr hn
  go_enter Tryz.func30, Tryz.ntmps30
  go_wp2_with fail
  refine hpa.mono ?_
  rintro ex w1 ⟨rfl, b1⟩
  have z1 := rowIs_vals w1 ps0 50 107
  have HB1 : Hid (Below w.heap.size w w1) := b1
  clear hpa b1
  go_wp2_with ((refine wpList_st rfl 107 _ _ rfl w1.heap.size rfl ps0 rfl z1 (by kernel_rfl) ps0_one ?_; intro w2 r2 f2; have c2 : w2.cell? ⟨w1.heap.size, 49, none⟩ = some nlv := r2.cell (i := 49) (by omega); have HB2 : Hid (Below w.heap.size w w2) := HB1.out.trans ((new_fr f2).mono HB1.out.size); clear f2 r2))
  refine (sort_nil w2).mono ?_
  rintro ex w3 ⟨rfl, hw3⟩
  subst w3
  clear c2 z1
  go_wp2
  go_ret2
  exact ⟨rfl, HB2.out⟩

set_option maxRecDepth 100000 in
set_option maxHeartbeats 2000000 in
theorem parents_blob (ao : Option Addr) (n c : Nat) (xs : List Int) (w : World) (hg : Gs w) (hr : Rd w ao n c xs) (hn : n ≤ 16384) :
    Calls Tryz.prog 35 #[.int .i64 3, .slice ao n c] w fun ex w' => ex = .returned nlv ∧ Below w.heap.size w w' := by
  have hz := zero107
  have hpa := parse_blob ao n c xs w hg hr hn
  clear hg hr hn
  go_enter Tryz.func35, Tryz.ntmps35
  go_wp2_with fail
  refine hpa.mono ?_
  rintro ex w1 ⟨rfl, b1⟩
  have z1 := rowIs_vals w1 ps0 50 107
  have HB1 : Hid (Below w.heap.size w w1) := b1
  clear hpa b1
  go_wp2_with ((refine wpList_st rfl 107 _ _ rfl w1.heap.size rfl ps0 rfl z1 (by kernel_rfl) ps0_one ?_; intro w2 r2 f2; have c2 : w2.cell? ⟨w1.heap.size, 21, none⟩ = some nlv := r2.cell (i := 21) (by omega); have HB2 : Hid (Below w.heap.size w w2) := HB1.out.trans ((new_fr f2).mono HB1.out.size); clear f2 r2))
  go_ret
  exact ⟨rfl, HB2.out⟩

set_option maxRecDepth 100000 in
set_option maxHeartbeats 2000000 in
theorem check_of (e : Int) (ao : Option Addr) (n c : Nat) (w : World) (hpa : Calls Tryz.prog 56 #[.int .i64 3, .slice ao n c] w fun ex w' => ex = .returned (.tuple #[row ps0 50, .int .i64 e]) ∧ Below w.heap.size w w') :
    Calls Tryz.prog 33 #[.int .i64 3, .slice ao n c] w fun ex w' => ex = .returned (.int .i64 e) ∧ Below w.heap.size w w' := by
  have hz := zero107
  go_enter Tryz.func33, Tryz.ntmps33
  go_wp2_with fail
  refine hpa.mono ?_
  rintro ex w1 ⟨rfl, b1⟩
  have z1 := rowIs_vals w1 ps0 50 107
  have HB1 : Hid (Below w.heap.size w w1) := b1
  clear hpa b1
  go_wp2_with ((refine wpList_st rfl 107 _ _ rfl w1.heap.size rfl ps0 rfl z1 (by kernel_rfl) ps0_one ?_; intro w2 r2 f2; have HB2 : Hid (Below w.heap.size w w2) := HB1.out.trans ((new_fr f2).mono HB1.out.size); clear f2 r2))
  go_ret
  exact ⟨rfl, HB2.out⟩

set_option maxRecDepth 100000 in
set_option maxHeartbeats 2000000 in
theorem parse_long (ao : Option Addr) (n c : Nat) (w : World) (hg : Gs w) (hn : 16384 < n) :
    Calls Tryz.prog 56 #[.int .i64 3, .slice ao n c] w fun ex w' => ex = .returned (.tuple #[row ps0 50, .int .i64 5]) ∧ Below w.heap.size w w' := by
  have hik := isKind_any 3 (w.alloc (Obj.cells (vals ps0 50).toArray 107)) (hg.keep (new_below _ _))
  rw [show isK 3 = true by decide] at hik
  have hz := zero107
  have z0 := rowIs_vals w ps0 50 107
  have d1 : decide ((16384 : Int) < n) = true := by simp; omega
  have d2 : decide (16384 < n) = true := by simp [hn]
  clear hg hn
  go_enter Tryz.func56, Tryz.ntmps56
  go_wp2_with fail
  refine hik.mono ?_
  rintro ex w0 ⟨rfl, hw0⟩
  subst w0
  clear hik
  go_wp2_with ((refine wpList_st rfl 107 _ _ rfl w.heap.size rfl ps0 rfl z0 (by kernel_rfl) ps0_one ?_; intro w2 r2 f2; have HB2 : Hid (Below w.heap.size w w2) := new_fr f2; clear f2))
  refine bodyPost_ret (results_two (fn := Tryz.f56) (p := 4) (q := 5) (ty := 107) (by kernel_rfl) _ (by rfl) r2 Tryz.underlying107 rfl (by kernel_rfl)) rfl ⟨rfl, HB2.out⟩

theorem check_blob (ao : Option Addr) (n c : Nat) (xs : List Int) (w : World) (hg : Gs w) (hr : Rd w ao n c xs) (hn : n ≤ 16384) :
    Calls Tryz.prog 33 #[.int .i64 3, .slice ao n c] w fun ex w' => ex = .returned (.int .i64 0) ∧ Below w.heap.size w w' :=
  check_of 0 ao n c w (parse_blob ao n c xs w hg hr hn)

theorem check_long (ao : Option Addr) (n c : Nat) (w : World) (hg : Gs w) (hn : 16384 < n) :
    Calls Tryz.prog 33 #[.int .i64 3, .slice ao n c] w fun ex w' => ex = .returned (.int .i64 5) ∧ Below w.heap.size w w' :=
  check_of 5 ao n c w (parse_long ao n c w hg hn)

end Go.Proofs.YtojgablpjdlegaaGreatDoor
