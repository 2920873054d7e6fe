/- Dtg, Dth. -/
import Derived.Test.YtojgablpjdlegaaGreatDoorMC13
import Derived.Test.YtojgablpjdlegaaGreatDoorMC11
/- The document's Date, whatever the commit. -/
namespace Go.Proofs.YtojgablpjdlegaaGreatDoor
open Go.RowKit Go.Shelf

theorem run_slS (l : List UInt8) (i : Nat) (b : UInt8) (h : l[i]? = some b) (w : World) : (Instr.sliceAt 9 (sv l) (some (.int .i64 (i : Int))) (some (.int .i64 ((i : Int) + 1))) none).run Tryz.prog w = .ok (sv [b]) w := by
  obtain ⟨hl, hb⟩ := List.getElem?_eq_some_iff.1 h
  have e : (⟨l.toArray⟩ : ByteArray).extract i (i + 1) = ⟨[b].toArray⟩ := by
    rw [ext_mid, show i + 1 - i = 1 by omega, List.drop_eq_getElem_cons hl, hb]
    rfl
  have e2 : ((i : Int) + 1).toNat = i + 1 := by omega
  have e3 : 0 ≤ (i : Int) ∧ (i : Int) ≤ (i : Int) + 1 ∧ (i : Int) + 1 ≤ (l.length : Int) := by omega
  unfold Instr.sliceAt Instr.slice Instr.sliceBounds
  simp [go_sem, e2, e]
  exact fun h => absurd (h (by omega)) (by omega)

theorem wpList_slS {ops : Array Oper} {rest : List Oper} {o : Oper} {a : Act} {w : World} {Q : Exit → Act → World → Prop} (hgd : o.guard = none) (x y z : Operand) (ho : o.op = .slice 9 x (some y) (some z) none) (l : List UInt8) (i : Nat) (b : UInt8) (h : l[i]? = some b) (hx : a.eval x = sv l) (hy : a.eval y = .int .i64 (i : Int)) (hz : a.eval z = .int .i64 ((i : Int) + 1))
    (hk : wpList Tryz.prog ops Q rest (a.put o.dst (sv [b])) w) : wpList Tryz.prog ops Q (o :: rest) a w := by
  refine wpList_plain hgd fun K hK => ?_
  have hr := run_slS l i b h w
  unfold Oper.wp
  simp only [execOp, ho, Option.map_some, Option.map_none, hx, hy, hz, Sem.run_bind, hr, Result.andThen_ok, Sem.run_pure]
  exact hK _ _ hk

/-- Digits so far. -/
theorem num_take (l : List UInt8) (i : Nat) (h : i < l.length) : num 0 (l.take (i + 1)) = num 0 (l.take i) * 10 + ((l[i]).toNat - 48) := by
  unfold num
  rw [List.take_succ_eq_append_getElem h, List.foldl_append]
  rfl

theorem num_le (l : List UInt8) (h : l.all isDg = true) : num 0 l < 10 ^ l.length := by
  have key : ∀ (l : List UInt8) (acc : Nat), l.all isDg = true → num acc l < (acc + 1) * 10 ^ l.length := by
    intro l
    induction l with
    | nil => intro acc _; simp [num]
    | cons b r ih =>
      intro acc h
      rw [List.all_cons, Bool.and_eq_true] at h
      have hb : 48 ≤ b.toNat ∧ b.toNat ≤ 57 := by simpa [isDg] using h.1
      have := ih (acc * 10 + (b.toNat - 48)) h.2
      show num (acc * 10 + (b.toNat - 48)) r < _
      refine Nat.lt_of_lt_of_le this ?_
      rw [List.length_cons, Nat.pow_succ, Nat.mul_comm (10 ^ r.length) 10, ← Nat.mul_assoc]
      exact Nat.mul_le_mul_right _ (by omega)
  have := key l 0 h
  omega

theorem all_take (l : List UInt8) (i : Nat) (h : i < l.length) (ha : (l.take i).all isDg = true) (hb : isDg l[i] = true) : (l.take (i + 1)).all isDg = true := by
  rw [List.take_succ_eq_append_getElem h, List.all_append, ha]
  simp [hb]

theorem all_not (l : List UInt8) (i : Nat) (h : i < l.length) (hb : isDg l[i] = false) : l.all isDg = false := by
  rw [Bool.eq_false_iff]
  intro ha
  rw [List.all_eq_true.1 ha _ (List.getElem_mem h)] at hb
  cases hb

end Go.Proofs.YtojgablpjdlegaaGreatDoor

/- The document's Date: its walk. -/
namespace Go.Proofs.YtojgablpjdlegaaGreatDoor
open Go.RowKit Go.Shelf

/-- What a row of words of one's own looks like. -/
theorem own_words {w : World} {B n : Nat} {v : Value} {ws : List (List UInt8)} (h : w.ownsRow B 9 1 v n (wcs ws)) : ∃ ao c, v = .slice ao n c ∧ ∀ k l, ws[k]? = some l → ∃ g, ao = some ⟨g, 0, none⟩ ∧ w.cell? ⟨g, k, none⟩ = some (sv l) := by
  have h' := h
  rcases h.2 with ⟨rfl, rfl⟩ | ⟨g, cap, cur, rfl, _⟩
  · refine ⟨none, 0, rfl, fun k l hk => ?_⟩
    have : ws = [] := List.eq_nil_of_length_eq_zero (by simpa [wcs] using h.1)
    subst this
    simp at hk
  · refine ⟨_, _, rfl, fun k l hk => ⟨g, rfl, ?_⟩⟩
    have := h'.cells (g := g) rfl k (sv l) (by unfold wcs; rw [List.getElem?_map, hk]; rfl)
    rwa [Addr.add_lit, Nat.zero_add] at this

set_option maxRecDepth 100000 in
set_option maxHeartbeats 4000000 in
theorem rdate_any (T : List Int) (p : Value) (A C M : List UInt8) (w : World) (hC : C.length ≤ 900) :
    Calls Tryz.prog 47 #[cmv T p A C M] w fun e w' => e = .returned (.int .i64 (dat C)) ∧ Below w.heap.size w w' := by
  have hz := zero52
  obtain ⟨D, hD⟩ : ∃ D, D = dat C := ⟨_, rfl⟩
  have HDD : Hid (D = dat C) := hD
  rw [← hD]
  obtain ⟨W, hW⟩ : ∃ W, W = w.alloc (Obj.cells (vals (cf T p A C M) 24).toArray 52) := ⟨_, rfl⟩
  have bW : Below w.heap.size w W := by rw [hW]; exact new_below _ _
  have rW : W.rowIs w.heap.size 52 24 (cf T p A C M) := by rw [hW]; exact rowIs_vals _ _ _ _
  have HB : Hid (Below w.heap.size w W) := bW
  have HR : Hid (∀ V, Below W.heap.size W V → V.cell? ⟨w.heap.size, 22, none⟩ = some (sv C)) := fun V hV => by
    have h := rowIs_fr (P := fun _ => False) rW (Fr.ofBelow hV) (fun h => h)
    exact h.cell (i := 22) (by omega)
  have HC : Hid (C.length ≤ 900) := hC
  have HW : Hid (W = w.alloc (Obj.cells (vals (cf T p A C M) 24).toArray 52)) := hW
  clear bW rW hC hD hW
  go_enter Tryz.func47, Tryz.ntmps47
  go_wp2_with fail
  rw [← HW.out]
  go_loopw [3, 4, 5] (fun s3 s4 s5 wr => ∃ (i : Nat) (cur : List UInt8) (acc : List (List UInt8)) (n : Nat), s5 = .int .i64 (i : Int) ∧ s4 = sv cur ∧ i ≤ C.length + 1 ∧ Hid (acc ++ wd cur (C.drop i) = wd [] C) ∧ Hid (i = C.length + 1 → cur = []) ∧ Hid (cur.length ≤ i) ∧ Hid (acc.length = n ∧ n ≤ i) ∧ Hid (wr.ownsRow W.heap.size 9 1 s3 n (wcs acc)) ∧ Hid (Below W.heap.size W wr)) (fun _ _ s5 _ => C.length + 1 - (intOf s5).toNat)
  case atStart => exact ⟨0, [], [], 0, rfl, rfl, Nat.zero_le _, rfl, fun h => by omega, Nat.le_refl _, ⟨rfl, Nat.le_refl _⟩, World.ownsRow_nil _ _ _ _, Below.refl _ _⟩
  case round =>
    obtain ⟨i, cur, acc, n, rfl, rfl, hin, HI, HE, HL, HN, HO, HBW⟩ := hrel
    have c22 := HR.out wr HBW.out
    by_cases hle : i ≤ C.length
    · have d1 : decide ((i : Int) ≤ (C.length : Int)) = true := by simp; omega
      have hq : (i : Int) ≤ (C.length : Int) := by omega
      have hwk : IntKind.i64.wrap ((i : Int) + 1) = (i : Int) + 1 := by have := HC.out; rw [IntKind.wrap_i64]; omega
      have HLE : Hid (i ≤ C.length) := hle
      by_cases hlt : i < C.length
      · have d2 : decide ((i : Int) < (C.length : Int)) = true := by simp; omega
        have hq2 : (i : Int) < (C.length : Int) := by omega
        have hat := fun W => sv_at C i hlt W
        have hdr := List.drop_eq_getElem_cons hlt
        obtain ⟨b, hb⟩ : ∃ b, b = C[i] := ⟨_, rfl⟩
        rw [← hb] at hat hdr
        have HDR : Hid (C.drop i = b :: C.drop (i + 1)) := hdr
        have HG : Hid (C[i]? = some b) := by show C[i]? = some b; rw [hb]; exact List.getElem?_eq_getElem hlt
        have HLT : Hid (i < C.length) := hlt
        clear hdr hb hlt hle hin
        by_cases h32 : b = 32
        · have f1 : ((b.toNat : Int) == 32) = true := by rw [h32]; rfl
          by_cases hcu : cur = []
          · have e1 : cur.isEmpty = true := by rw [hcu]; rfl
            have HI2 : Hid (acc ++ wd [] (C.drop (i + 1)) = wd [] C) := by
              show _ = _
              rw [← HI.out, HDR.out]
              conv => rhs; unfold wd
              rw [if_pos h32, if_pos hcu]
            clear hcu h32
            go_wp2_with fail
            exact ⟨⟨i + 1, [], acc, n, by simp, rfl, by have := HLT.out; omega, HI2, fun _ => rfl, by show 0 ≤ _; omega, ⟨HN.out.1, by have := HN.out.2; omega⟩, HO, HBW⟩, by simp [intOf]; have := HLT.out; omega⟩
          · have e1 : cur.isEmpty = false := by simp [hcu]
            have HI2 : Hid ((acc ++ [cur]) ++ wd [] (C.drop (i + 1)) = wd [] C) := by
              show _ = _
              rw [← HI.out, HDR.out]
              conv => rhs; unfold wd
              rw [if_pos h32, if_neg hcu, List.append_assoc]
              rfl
            have HSb : Hid (W.heap.size ≤ wr.heap.size) := HBW.out.size
            clear hcu h32
            go_wp2_with (refine wpList_app134 (w0 := wr) rfl _ _ rfl W.heap.size n _ acc cur rfl rfl rfl HO.out (by have h1 := HN.out.2; have h2 := HLT.out; have h3 := HC.out; omega) HSb.out ?_; intro v6 w6 o6 b6; have O6 : Hid _ := o6; have B6 : Hid (Below W.heap.size wr w6) := b6; clear o6 b6)
            exact ⟨⟨i + 1, [], acc ++ [cur], n + 1, by simp, rfl, by have := HLT.out; omega, HI2, fun _ => rfl, by show 0 ≤ _; omega, ⟨by simp [HN.out.1], by have := HN.out.2; omega⟩, O6, HBW.out.trans B6.out⟩, by simp [intOf]; have := HLT.out; omega⟩
        · have f1 : ((b.toNat : Int) == 32) = false := by
            simp only [beq_eq_false_iff_ne, ne_eq]
            intro e
            exact h32 (UInt8.toNat_inj.1 (by show b.toNat = 32; omega))
          have HI2 : Hid (acc ++ wd (cur ++ [b]) (C.drop (i + 1)) = wd [] C) := by
            show _ = _
            rw [← HI.out, HDR.out]
            conv => rhs; unfold wd
            rw [if_neg h32]
          have HLT2 : Hid (i < C.length) := HLT.out
          clear h32
          go_wp2_with (first
            | (refine wpList_slS rfl _ _ _ rfl C i b HG.out rfl rfl (by first | rfl | exact congrArg (Value.int .i64) hwk) ?_)
            | (refine wpList_add2 rfl _ _ _ rfl _ _ rfl rfl _ (by exact rfl) (by have h1 := HL.out; have h2 := HLT.out; have h3 := HC.out; simp only [List.length_cons, List.length_nil]; omega) ?_; intro z hz))
          exact ⟨⟨i + 1, z, acc, n, by simp, rfl, by have := HLT.out; omega, by show _ = _; rw [hz.out]; exact HI2.out, fun h => by have := HLT.out; omega, by show z.length ≤ _; rw [hz.out]; simp; exact HL.out, ⟨HN.out.1, by have := HN.out.2; omega⟩, HO, HBW⟩, by simp [intOf]; have := HLT.out; omega⟩
      · obtain rfl : i = C.length := by omega
        have d2 : decide ((C.length : Int) < (C.length : Int)) = false := by simp
        have hq2 : ¬ (C.length : Int) < (C.length : Int) := by omega
        have hdn : C.drop C.length = [] := List.drop_length
        by_cases hcu : cur = []
        · have e1 : cur.isEmpty = true := by rw [hcu]; rfl
          have HI2 : Hid (acc ++ wd [] (C.drop (C.length + 1)) = wd [] C) := by
            show _ = _
            rw [← HI.out, hdn, List.drop_of_length_le (by omega), hcu]
          clear hcu hdn
          go_wp2_with fail
          exact ⟨⟨C.length + 1, [], acc, n, by simp, rfl, by omega, HI2, fun _ => rfl, by show 0 ≤ _; omega, ⟨HN.out.1, by have := HN.out.2; omega⟩, HO, HBW⟩, by simp [intOf]⟩
        · have e1 : cur.isEmpty = false := by simp [hcu]
          have HI2 : Hid ((acc ++ [cur]) ++ wd [] (C.drop (C.length + 1)) = wd [] C) := by
            show _ = _
            rw [← HI.out, hdn, List.drop_of_length_le (by omega)]
            unfold wd
            rw [if_neg hcu, if_pos rfl, List.append_nil]
          have HSb : Hid (W.heap.size ≤ wr.heap.size) := HBW.out.size
          clear hcu hdn
          go_wp2_with (refine wpList_app134 (w0 := wr) rfl _ _ rfl W.heap.size n _ acc cur rfl rfl rfl HO.out (by have h1 := HN.out.2; have h3 := HC.out; omega) HSb.out ?_; intro v6 w6 o6 b6; have O6 : Hid _ := o6; have B6 : Hid (Below W.heap.size wr w6) := b6; clear o6 b6)
          exact ⟨⟨C.length + 1, [], acc ++ [cur], n + 1, by simp, rfl, by omega, HI2, fun _ => rfl, by show 0 ≤ _; omega, ⟨by simp [HN.out.1], by have := HN.out.2; omega⟩, O6, HBW.out.trans B6.out⟩, by simp [intOf]⟩
    · obtain rfl : i = C.length + 1 := by omega
      have d1 : decide ((C.length : Int) + 1 ≤ (C.length : Int)) = false := by simp; omega
      have hq : ¬ (C.length : Int) + 1 ≤ (C.length : Int) := by omega
      have hcu : cur = [] := HE.out rfl
      have hacc : acc = wd [] C := by
        rw [← HI.out, hcu, List.drop_of_length_le (by omega)]
        unfold wd
        rw [if_pos rfl, List.append_nil]
      have hnl : acc.length = n := HN.out.1
      obtain ⟨ao, c, rfl, hcell⟩ := own_words HO.out
      have HBn : Hid (n ≤ C.length + 1) := HN.out.2
      subst hcu
      by_cases h2 : n < 2
      · have e1 : decide ((n : Int) < 2) = true := by simp; omega
        have e2 : decide (n < 2) = true := by simp; omega
        have e3 : (n : Int) < 2 := by omega
        have HD0 : Hid (D = 0) := by
          show D = 0
          rw [HDD.out]
          unfold dat
          rw [if_pos (by rw [← hacc, hnl]; exact h2)]
        clear hcell hacc hnl
        go_wp2_with fail
        go_ret
        exact ⟨by rw [HD0.out]; rfl, HB.out.trans (HBW.out.mono HB.out.size)⟩
      · obtain ⟨k, rfl⟩ : ∃ k, n = k + 2 := ⟨n - 2, by omega⟩
        have hk : k < acc.length := by omega
        obtain ⟨l, hl⟩ : ∃ l, l = acc[k] := ⟨_, rfl⟩
        obtain ⟨g, rfl, q1⟩ := hcell k l (by rw [hl]; exact List.getElem?_eq_getElem hk)
        have HDL : Hid (D = dcl l) := by
          show D = dcl l
          rw [HDD.out]
          unfold dat
          rw [← hacc, hnl, if_neg (by omega), hl, Nat.add_sub_cancel]
          simp [List.getD, List.getElem?_eq_getElem hk]
        obtain ⟨n2, hn2⟩ : ∃ n2, n2 = k + 2 := ⟨_, rfl⟩
        rw [← hn2]
        have y1 : (n2 : Int) - 2 = k := by omega
        have y2 : IntKind.i64.wrap (k : Int) = k := wraps_i64 _ (by omega) (by have := HBn.out; have := HC.out; omega)
        have e1 : decide ((n2 : Int) < 2) = false := by simp; omega
        have e2 : decide (n2 < 2) = false := by simp; omega
        have e3 : ¬ (n2 : Int) < 2 := by omega
        have e4 : k < n2 := by omega
        have e5 : (k : Int) < n2 := by omega
        clear hcell hacc hnl hl hk hn2 h2
        by_cases h10 : 10 < l.length
        · have e6 : decide ((10 : Int) < l.length) = true := by simp; omega
          have e7 : decide (10 < l.length) = true := by simp; omega
          have HD0 : Hid (D = 0) := by
            show D = 0
            rw [HDL.out]
            unfold dcl
            rw [if_neg (fun h => by omega)]
          clear h10
          go_wp2_with fail
          go_ret
          exact ⟨by rw [HD0.out]; rfl, HB.out.trans (HBW.out.mono HB.out.size)⟩
        · have e6 : decide ((10 : Int) < l.length) = false := by simp; omega
          have e7 : decide (10 < l.length) = false := by simp; omega
          have HL10 : Hid (l.length ≤ 10) := by show _ ≤ _; omega
          clear h10
          go_wp2_with fail
          go_loopw [7, 8] (fun s7 s8 wq => ∃ (j m : Nat), s8 = .int .i64 (j : Int) ∧ s7 = .int .i64 (m : Int) ∧ j ≤ l.length ∧ Hid (m = num 0 (l.take j) ∧ (l.take j).all isDg = true) ∧ Hid (Below W.heap.size W wq)) (fun _ s8 _ => l.length - (intOf s8).toNat)
          case atStart => exact ⟨0, 0, rfl, rfl, Nat.zero_le _, ⟨rfl, rfl⟩, HBW⟩
          case round =>
            obtain ⟨j, m, rfl, rfl, hjn, HM, HBQ⟩ := hrel
            by_cases hlt : j < l.length
            · have d1' : decide ((j : Int) < (l.length : Int)) = true := by simp; omega
              have hq' : (j : Int) < (l.length : Int) := by omega
              have hat := fun W => sv_at l j hlt W
              have hwk : IntKind.i64.wrap ((j : Int) + 1) = (j : Int) + 1 := by have := HL10.out; rw [IntKind.wrap_i64]; omega
              have hm10 : m < 10 ^ 10 := by
                rw [HM.out.1]
                refine Nat.lt_of_lt_of_le (num_le _ HM.out.2) (Nat.pow_le_pow_right (by omega) ?_)
                rw [List.length_take]
                have := HL10.out
                omega
              have hnt := num_take l j hlt
              have hat2 := fun hb => all_take l j hlt HM.out.2 hb
              have han := fun hb => all_not l j hlt hb
              obtain ⟨b, hb⟩ : ∃ b, b = l[j] := ⟨_, rfl⟩
              rw [← hb] at hat hnt hat2 han
              have HNT : Hid (num 0 (l.take (j + 1)) = num 0 (l.take j) * 10 + (b.toNat - 48)) := hnt
              have HAT : Hid (isDg b = true → (l.take (j + 1)).all isDg = true) := hat2
              have HNO : Hid (isDg b = false → D = 0) := fun h => by
                rw [HDL.out]
                unfold dcl
                rw [if_neg (fun hh => by rw [han h] at hh; cases hh.2)]
              have HLT : Hid (j < l.length) := hlt
              have hbl := b.toNat_lt
              clear hnt hat2 han hb hlt hjn
              by_cases h48 : b.toNat < 48
              · have f1 : decide ((b.toNat : Int) < 48) = true := by simp; omega
                have f2 : decide (b.toNat < 48) = true := by simp; omega
                have f3 : (b.toNat : Int) < 48 := by omega
                have HD0 : Hid (D = 0) := HNO.out (by unfold isDg; simp; omega)
                clear h48 hbl hm10
                go_wp2_with fail
                go_ret
                exact ⟨by rw [HD0.out]; rfl, HB.out.trans (HBQ.out.mono HB.out.size)⟩
              · have f1 : decide ((b.toNat : Int) < 48) = false := by simp; omega
                have f2 : decide (b.toNat < 48) = false := by simp; omega
                have f3 : ¬ (b.toNat : Int) < 48 := by omega
                by_cases h57 : 57 < b.toNat
                · have f4 : decide ((57 : Int) < (b.toNat : Int)) = true := by simp; omega
                  have f5 : decide (57 < b.toNat) = true := by simp; omega
                  have f6 : (57 : Int) < (b.toNat : Int) := by omega
                  have HD0 : Hid (D = 0) := HNO.out (by unfold isDg; simp; omega)
                  clear h48 hbl hm10 h57
                  go_wp2_with fail
                  go_ret
                  exact ⟨by rw [HD0.out]; rfl, HB.out.trans (HBQ.out.mono HB.out.size)⟩
                · have f4 : decide ((57 : Int) < (b.toNat : Int)) = false := by simp; omega
                  have f5 : decide (57 < b.toNat) = false := by simp; omega
                  have f6 : ¬ (57 : Int) < (b.toNat : Int) := by omega
                  have HA1 : Hid ((l.take (j + 1)).all isDg = true) := HAT.out (by unfold isDg; simp; omega)
                  obtain ⟨y, hy⟩ : ∃ y : Nat, y = b.toNat - 48 := ⟨_, rfl⟩
                  obtain ⟨z, hz9⟩ : ∃ z : Nat, z = 10 * m + y := ⟨_, rfl⟩
                  have g1 : (b.toNat : Int) - 48 = y := by omega
                  have g2 : IntKind.u8.wrap (y : Int) = y := by rw [IntKind.wrap_u8]; omega
                  have g3 : IntKind.i64.wrap (y : Int) = y := by rw [IntKind.wrap_i64]; omega
                  have g4 : IntKind.i64.wrap (10 * (m : Int)) = 10 * (m : Int) := by rw [IntKind.wrap_i64]; omega
                  have g5 : 10 * (m : Int) + (y : Int) = z := by omega
                  have g6 : IntKind.i64.wrap (z : Int) = z := by rw [IntKind.wrap_i64]; omega
                  have HZ : Hid (z = num 0 (l.take (j + 1))) := by
                    show z = _
                    rw [HNT.out, ← HM.out.1, ← hy]
                    omega
                  clear h48 hbl hm10 h57 hz9 hy
                  go_wp2_with fail
                  exact ⟨⟨j + 1, z, by simp, rfl, HLT.out, ⟨HZ.out, HA1.out⟩, HBQ⟩, by simp [intOf]; have := HLT.out; omega⟩
            · obtain rfl : j = l.length := by omega
              have d1' : decide ((l.length : Int) < (l.length : Int)) = false := by simp
              have hq' : ¬ (l.length : Int) < (l.length : Int) := by omega
              have HDM : Hid (D = m) := by
                show D = m
                have h := HM.out
                rw [List.take_length] at h
                rw [HDL.out]
                unfold dcl
                rw [if_pos ⟨HL10.out, h.2⟩, h.1]
              go_wp2_with fail
              go_ret
              exact ⟨by rw [HDM.out]; rfl, HB.out.trans (HBQ.out.mono HB.out.size)⟩

end Go.Proofs.YtojgablpjdlegaaGreatDoor
