/- ObjectTrees: the law. -/
import Derived.Test.YtojgablpjdlegaaGreatDoorMT08
import Derived.Test.YtojgablpjdlegaaGreatDoorMT09
import Derived.Test.YtojgablpjdlegaaGreatDoorM19
import Derived.Test.YtojgablpjdlegaaGreatDoorMC12
namespace Go.Proofs.YtojgablpjdlegaaGreatDoor
open Go.RowKit Go.Shelf

theorem Ew.cells {w : World} {ao : Option Addr} {n c : Nat} {d : Array En} (h : Ew w (.slice ao n c) d) (h0 : 0 < d.size) : ∃ b off, ao = some ⟨b, off, none⟩ ∧ b < w.heap.size ∧ ∀ V : World, (∀ k, k = b → V.heap[k]? = w.heap[k]?) → ∀ i, i < d.size → ∀ j, j < 22 → V.cell? ⟨b, off + i * 22 + j, none⟩ = some (ecl d[i]! j) := by
  obtain ⟨ao', c', e, h1, h2, h3⟩ := h.sh
  injection e with e1 e2 e3
  subst e1
  cases ao with
  | none => have := (h2 rfl).1; omega
  | some ad =>
    obtain ⟨b, off, spot⟩ := ad
    have hc := h3 _ rfl 0 h0 0 (by omega)
    have hspot : spot = none := by simpa [Addr.add] using World.cell?_spot hc
    subst hspot
    refine ⟨b, off, rfl, by have := World.block_lt_of_cell? w _ hc; simpa [Addr.add_lit] using this, fun V hV i hi j hj => ?_⟩
    have := h3 _ rfl i hi j hj
    rw [Addr.add_lit] at this
    rw [Nat.add_assoc]
    have hb : V.heap[(⟨b, off + (i * 22 + j), none⟩ : Addr).block]? = w.heap[(⟨b, off + (i * 22 + j), none⟩ : Addr).block]? := hV b rfl
    rw [World.cell?_of_block hb]
    exact this

theorem ld_ent {V : World} {b p : Nat} {x : En} (t : TypeId) {D : TypeDesc} (hu : Tryz.prog.underlying t = some D) (hd : D.isRow = true) (hs : (Tryz.prog.info? t).map (·.size) = some 22) (h : ∀ j, j < 22 → V.cell? ⟨b, p + j, none⟩ = some (ecl x j)) (hi : IsId x.id) : (loadVar t ⟨b, p, none⟩).run Tryz.prog V = .ok (eV x) V := by
  obtain ⟨_, _, _, g4, _⟩ := at_entry h hi
  exact run_loadVar_mid V b p t _ _ g4 hu hd (by rw [vals_len]; exact hs)


theorem part79m (x : En) (w : World) : (part 3 (vals (ecl x) 22).toArray 0).run Tryz.prog w = .ok (.int .i64 x.m) w := by kernel_rfl
theorem part79n (x : En) (w : World) : (part 9 (vals (ecl x) 22).toArray 1).run Tryz.prog w = .ok (sv x.nm) w := by kernel_rfl
theorem part79i (x : En) (w : World) : (part 27 (vals (ecl x) 22).toArray 2).run Tryz.prog w = .ok (idv x.id) w := by kernel_rfl

theorem eql_en (x : En) (w : World) : (Op.equalIn 10000 79 (eV x) (eV x)).run Tryz.prog w = .ok true w := by
  have h1 : (Op.equalIn 9999 27 (idv x.id) (idv x.id)).run Tryz.prog w = .ok true w := by
    have := eq_loop 27 Tryz.underlying27 9997 x.id x.id w
    rw [this]
    simp
  have hF : Tryz.prog.fieldsOf 79 = #[{ name := "Mode", type := 3, offset := 0, embedded := false, tag := "", pkgPath := "", byteOffset := 0 }, { name := "Name", type := 9, offset := 1, embedded := false, tag := "", pkgPath := "", byteOffset := 8 }, { name := "ID", type := 27, offset := 2, embedded := false, tag := "", pkgPath := "", byteOffset := 24 }] := by kernel_rfl
  rw [run_equalIn_struct w 9999 79 _ _ (by rw [hF]; kernel_rfl) (by kernel_rfl), hF]
  simp [Op.eqFields, part79m, part79n, part79i, h1, run_equalIn_int w 9998 3 .i64 .i64 x.m x.m Tryz.underlying3, run_equalIn_string w 9998 9 _ _ Tryz.underlying9]

theorem neq_en (u : En) (w : World) : (binOp .neq 79 (.agg (vals (ecl u) 22).toArray) (.agg (vals (ecl u) 22).toArray)).run Tryz.prog w = .ok (.bool false) w := by
  have he := eql_en u w
  obtain ⟨A, hA⟩ : ∃ A, (vals (ecl u) 22).toArray = A := ⟨_, rfl⟩
  unfold eV row at he
  rw [hA] at he
  rw [hA, run_neq_struct, he]
  rfl

set_option maxRecDepth 100000 in
set_option maxHeartbeats 16000000 in
theorem trees_few (ao : Option Addr) (n c : Nat) (d : Array En) (w : World) (h : Ew w (.slice ao n c) d) (ht : Ts w) (hn : n = d.size) (hA : n ≤ 40) :
    Calls Tryz.prog 5 #[.slice ao n c] w fun e w' => e = .returned (.bool true) ∧ Below w.heap.size w w' := by
  have z1 : decide ((40 : Int) < (n : Int)) = false := by simp; omega
  have z2 : decide (40 < n) = false := by simp; omega
  have z3 : decide ((600 : Int) < (n : Int)) = false := by simp; omega
  have z4 : decide (600 < n) = false := by simp; omega
  have HP : Hid (0 < n → ∃ b off, ao = some ⟨b, off, none⟩ ∧ ∀ V : World, Below w.heap.size w V → ∀ i, i < n → ∀ j, j < 22 → V.cell? ⟨b, off + i * 22 + j, none⟩ = some (ecl d[i]! j)) := fun h0 => by
    obtain ⟨b, off, h1, hb, h2⟩ := h.cells (by omega)
    exact ⟨b, off, h1, fun V hV i hi j hj => h2 V (fun k hk => by subst hk; exact hV.block _ hb) i (by omega) j hj⟩
  have HOK : Hid (∀ i, i < n → IsId d[i]!.id) := fun i hi => (h.ok i (by omega)).2.2
  have HN : Hid (n = d.size ∧ n ≤ 600) := ⟨hn, by omega⟩
  have HEW : Hid (∀ V : World, Below w.heap.size w V → Ew V (.slice ao n c) d) := fun V hV => h.keep hV
  have HT : Hid (∀ V : World, Below w.heap.size w V → Ts V) := fun V hV => ht.keep hV
  have hkn := known_yes w ht.gs
  obtain ⟨E, hE⟩ : ∃ E : Int, E = tE d := ⟨_, rfl⟩
  obtain ⟨X, hX⟩ : ∃ X : List Int, X = tX d := ⟨_, rfl⟩
  have HEX : Hid (E = tE d ∧ X = tX d) := ⟨hE, hX⟩
  obtain ⟨LX, hLX⟩ : ∃ L, L = (tb X) := ⟨_, rfl⟩
  have HCX : Hid (∀ V ao n q, Rd V ao n q X → (convert 22 9 (.slice ao n q)).run Tryz.prog V = .ok (sv LX) V) := fun V ao n q hr => by
    have := hr.str
    rw [tb_sv, ← hLX] at this
    exact this
  clear h ht hn hE hX hLX
  go_enter Tryz.func5, Tryz.ntmps5
  go_wp2_with fail
  refine hkn.mono ?_
  rintro e w1 ⟨rfl, b1⟩
  have HB1 : Hid (Below w.heap.size w w1) := b1
  clear hkn b1
  go_wp2_with fail
  go_loopw [3] (fun s3 wr => ∃ k : Nat, s3 = .int .i64 (k : Int) ∧ k ≤ n ∧ Hid (∀ i, i < k → d[i]!.nm.length ≤ 300) ∧ Hid (Below w.heap.size w wr)) (fun s3 _ => n - (intOf s3).toNat)
  case atStart => exact ⟨0, rfl, Nat.zero_le _, fun i hi => absurd hi (by omega), HB1⟩
  case round =>
    obtain ⟨k, rfl, hkn, HK, HB⟩ := hrel
    by_cases hlt : k < n
    · have hq : (k : Int) < (n : Int) := by omega
      have d3 : decide ((k : Int) < (n : Int)) = true := by simp; omega
      have hwk : IntKind.i64.wrap ((k : Int) + 1) = (k : Int) + 1 := by have := HN.out; rw [IntKind.wrap_i64]; omega
      obtain ⟨b, off, rfl, hc0⟩ := HP.out (by omega)
      have HLT : Hid (k < n) := hlt
      obtain ⟨_, c1, _, _, _⟩ := at_entry (hc0 wr HB.out k hlt) (HOK.out k hlt)
      obtain ⟨l, hl⟩ : ∃ l, l = d[k]!.nm := ⟨_, rfl⟩
      rw [← hl] at c1
      by_cases hbig : 300 < l.length
      · have f1 : decide ((300 : Int) < (l.length : Int)) = true := by simp; omega
        have f2 : decide (300 < l.length) = true := by simp; omega
        clear hc0 hlt hkn hl hbig
        go_wp2_with fail
        go_ret
        exact ⟨rfl, HB.out⟩
      · have f1 : decide ((300 : Int) < (l.length : Int)) = false := by simp; omega
        have f2 : decide (300 < l.length) = false := by simp; omega
        have HK1 : Hid (∀ i, i < k + 1 → d[i]!.nm.length ≤ 300) := fun i hi => by
          by_cases e : i = k
          · subst e
            rw [← hl]
            omega
          · exact HK.out i (by omega)
        clear hc0 hlt hkn hl hbig
        go_wp2_with fail
        exact ⟨⟨k + 1, by simp, HLT.out, HK1, HB⟩, by simp [intOf]; have := HLT.out; omega⟩
    · obtain rfl : k = n := by omega
      have hq : ¬ (k : Int) < (k : Int) := by omega
      have d3 : decide ((k : Int) < (k : Int)) = false := by simp
      have HES : Hid (∀ V : World, Below w.heap.size w V → Es V (.slice ao k c) d) := fun V hV => (HEW.out V hV).es (fun i hi => by have := HK.out i (by rw [HN.out.1]; exact hi); omega)
      have HNM : Hid (∀ i, i < k → d[i]!.nm.length ≤ 300) := HK.out
      clear HK
      go_wp2_with fail
      refine (entries_any (.slice ao k c) d wr (HES.out wr HB.out) (by have := HN.out; omega)).mono ?_
      rintro e w2 ⟨v4, rfl, dx2, b2⟩
      have HB2 : Hid (Below w.heap.size w w2) := HB.out.trans (b2.mono HB.out.size)
      obtain ⟨a4, c4, hv4q⟩ := dx2.shape
      have HV4 : Hid (v4 = .slice a4 d.size c4) := hv4q
      clear hv4q
      have HDX : Hid (Dx wr.heap.size w2 v4 d) := dx2
      clear b2 dx2
      go_wp2_with fail
      refine (encTree_any (.slice ao k c) d w2 (HES.out w2 HB2.out) (HT.out w2 HB2.out) (by have := HN.out; omega)).mono ?_
      rintro e w3 ⟨o3, n3, q3, rfl, rd3, b3⟩
      rw [← HEX.out.1]
      rw [← HEX.out.2] at rd3
      have HB3 : Hid (Below w.heap.size w w3) := HB2.out.trans (b3.mono HB2.out.size)
      have HR3 : Hid (Rd w3 o3 n3 q3 X) := rd3
      have HDX3 : Hid (Dx wr.heap.size w3 v4 d) := HDX.out.keep b3
      clear b3 rd3
      go_wp2_with fail
      refine (rencTree_any v4 d w3 HDX3.out.es).mono ?_
      rintro e w4 ⟨o4, n4, q4, rfl, rd4, b4⟩
      rw [← HEX.out.1]
      rw [← HEX.out.2] at rd4
      have HB4 : Hid (Below w.heap.size w w4) := HB3.out.trans (b4.mono HB3.out.size)
      have HR4 : Hid (Rd w4 o3 n3 q3 X) := HR3.out.keep b4
      have HDX4 : Hid (Dx wr.heap.size w4 v4 d) := HDX3.out.keep b4
      have qq1 := HCX.out _ _ _ _ HR4.out
      have qq2 := HCX.out _ _ _ _ rd4
      clear b4 rd4
      go_wp2_with fail
      clear qq1 qq2
      have HD4 : Hid (0 < k → ∃ b4, v4 = .slice (some ⟨b4, 0, none⟩) k c4 ∧ ∀ V : World, Below w4.heap.size w4 V → ∀ i, i < k → ∀ j, j < 22 → V.cell? ⟨b4, i * 22 + j, none⟩ = some (ecl d[i]! j)) := fun h0 => by
        obtain ⟨b4, q, e, hc⟩ := HDX4.out.cells (by have := HN.out; omega)
        rw [HV4.out] at e
        injection e with e1 e2 e3
        subst e3
        exact ⟨b4, by rw [HV4.out, e1, ← HN.out.1], fun V hV i hi j hj => hc V hV i (by have := HN.out; omega) j hj⟩
      go_loopw [9] (fun s9 ws => ∃ i : Nat, s9 = .int .i64 (i : Int) ∧ 1 ≤ i ∧ Hid (Below w4.heap.size w4 ws)) (fun s9 _ => k - (intOf s9).toNat)
      case atStart => exact ⟨1, rfl, Nat.le_refl _, Below.refl _ _⟩
      case round =>
        obtain ⟨i, rfl, hi1, HBs⟩ := hrel
        by_cases hik : i < k
        · have hqi : (i : Int) < (k : Int) := by omega
          have d4 : decide ((i : Int) < (k : Int)) = true := by simp; omega
          have hwi : IntKind.i64.wrap ((i : Int) + 1) = (i : Int) + 1 := by have := HN.out; rw [IntKind.wrap_i64]; omega
          obtain ⟨b, off, rfl, hc0⟩ := HP.out (by omega)
          obtain ⟨b4, rfl, hc4⟩ := HD4.out (by omega)
          obtain ⟨i1, hi2⟩ : ∃ i1, i = i1 + 1 := ⟨i - 1, by omega⟩
          have y1 : (i : Int) - 1 = (i1 : Int) := by omega
          have y2 : IntKind.i64.wrap (i1 : Int) = (i1 : Int) := by have := HN.out; rw [IntKind.wrap_i64]; omega
          have HI : Hid (i < k ∧ i1 < k) := ⟨hik, by omega⟩
          obtain ⟨x, hx⟩ : ∃ x, d[i]! = x := ⟨_, rfl⟩
          obtain ⟨y, hy⟩ : ∃ y, d[i1]! = y := ⟨_, rfl⟩
          have hxi : IsId x.id := by rw [← hx]; exact HOK.out i hik
          have hyi : IsId y.id := by rw [← hy]; exact HOK.out i1 HI.out.2
          have hxn : x.nm.length ≤ 300 := by rw [← hx]; exact HNM.out i hik
          have hyn : y.nm.length ≤ 300 := by rw [← hy]; exact HNM.out i1 HI.out.2
          obtain ⟨q, hqo⟩ : ∃ q, q = od y x := ⟨_, rfl⟩
          obtain ⟨p, hpo⟩ : ∃ p, p = od x y := ⟨_, rfl⟩
          have hpq : p = - q := by rw [hpo, hqo]; exact ord_neg _ _ _ _
          have hqv : q = -1 ∨ q = 0 ∨ q = 1 := by rw [hqo]; exact cmp_vals _ _
          have hw1 : IntKind.i64.wrap (0 - q) = p := by rw [hpq, IntKind.wrap_i64]; omega
          have HWW : Hid (∀ V : World, Below wr.heap.size wr V → Below w.heap.size w V ∧ Below w4.heap.size w4 V) := fun V hV => by
            have h4 := HBs.out.trans (hV.mono HBs.out.size)
            exact ⟨HB4.out.trans (h4.mono HB4.out.size), h4⟩
          have HQ1 : Hid (∀ V, Below wr.heap.size wr V → (loadVar 79 ⟨b, off + i1 * 22, none⟩).run Tryz.prog V = .ok (eV y) V) := fun V hV => ld_ent 79 Tryz.underlying79 rfl size79 (fun j hj => by rw [← hy]; exact hc0 V (HWW.out V hV).1 i1 HI.out.2 j hj) hyi
          have HQ2 : Hid (∀ V, Below wr.heap.size wr V → (loadVar 79 ⟨b, off + i * 22, none⟩).run Tryz.prog V = .ok (eV x) V) := fun V hV => ld_ent 79 Tryz.underlying79 rfl size79 (fun j hj => by rw [← hx]; exact hc0 V (HWW.out V hV).1 i HI.out.1 j hj) hxi
          have HQ3 : Hid (∀ V, Below wr.heap.size wr V → (loadVar 66 ⟨b4, 0 + i1 * 22, none⟩).run Tryz.prog V = .ok (eV y) V) := fun V hV => ld_ent 66 Tryz.underlying66 rfl size66e (fun j hj => by rw [← hy, Nat.zero_add]; exact hc4 V (HWW.out V hV).2 i1 HI.out.2 j hj) hyi
          have HQ4 : Hid (∀ V, Below wr.heap.size wr V → (loadVar 66 ⟨b4, 0 + i * 22, none⟩).run Tryz.prog V = .ok (eV x) V) := fun V hV => ld_ent 66 Tryz.underlying66 rfl size66e (fun j hj => by rw [← hx, Nat.zero_add]; exact hc4 V (HWW.out V hV).2 i HI.out.1 j hj) hxi
          have HC1 : Hid (∀ V, Below wr.heap.size wr V → Calls Tryz.prog 39 #[eV y, eV x] V fun e w' => e = .returned (.int .i64 q) ∧ Below wr.heap.size wr w') := fun V hV => by
            rw [hqo]
            exact (order_any y.m ⟨y.nm.toArray⟩ y.id x.m ⟨x.nm.toArray⟩ x.id V (by rw [size_sv]; omega) (by rw [size_sv]; omega)).mono (fun e w' ⟨g1, g2⟩ => ⟨g1, hV.trans (g2.mono hV.size)⟩)
          have HC2 : Hid (∀ V, Below wr.heap.size wr V → Calls Tryz.prog 39 #[eV x, eV y] V fun e w' => e = .returned (.int .i64 p) ∧ Below wr.heap.size wr w') := fun V hV => by
            rw [hpo]
            exact (order_any x.m ⟨x.nm.toArray⟩ x.id y.m ⟨y.nm.toArray⟩ y.id V (by rw [size_sv]; omega) (by rw [size_sv]; omega)).mono (fun e w' ⟨g1, g2⟩ => ⟨g1, hV.trans (g2.mono hV.size)⟩)
          have HC3 : Hid (∀ V, Below wr.heap.size wr V → Calls Tryz.prog 40 #[eV y, eV x] V fun e w' => e = .returned (.int .i64 q) ∧ Below wr.heap.size wr w') := fun V hV => by
            rw [hqo]
            exact (rorder_any y.m ⟨y.nm.toArray⟩ y.id x.m ⟨x.nm.toArray⟩ x.id V (by rw [size_sv]; omega) (by rw [size_sv]; omega)).mono (fun e w' ⟨g1, g2⟩ => ⟨g1, hV.trans (g2.mono hV.size)⟩)
          clear hc0 hc4 hx hy hxi hyi hxn hyn hqo hpo hpq hqv hik hi2 hi1
          go_wp2_with fail
          refine wp_region_quiet (C := fun V => Below wr.heap.size wr V) (by kernel_rfl) (by kernel_rfl) (Below.refl _ _).drew ?_
          with_reducible refine wpQuiet_step (fun K hK => ?_)
          rw [if_pos (by kernel_rfl)]
          refine oq_mv _ rfl (.slice (some ⟨b, off, none⟩) k c) (by kernel_rfl) ?_
          with_reducible refine hK _ ?_; clear hK K
          try simp only [Act.put, List.setIfInBounds_toArray, List.set_cons_zero, List.set_cons_succ]
          with_reducible refine wpQuiet_step (fun K hK => ?_)
          rw [if_pos (by kernel_rfl)]
          refine oq_mv _ rfl (.int .i64 (i : Int)) (by kernel_rfl) ?_
          with_reducible refine hK _ ?_; clear hK K
          try simp only [Act.put, List.setIfInBounds_toArray, List.set_cons_zero, List.set_cons_succ]
          with_reducible refine wpQuiet_step (fun K hK => ?_)
          rw [if_pos (by kernel_rfl)]
          refine oq_subI _ _ _ rfl ((i : Int)) (1) ((i1 : Int)) (by kernel_rfl) (by kernel_rfl) (by rw [y1, y2]) ?_
          with_reducible refine hK _ ?_; clear hK K
          try simp only [Act.put, List.setIfInBounds_toArray, List.set_cons_zero, List.set_cons_succ]
          with_reducible refine wpQuiet_step (fun K hK => ?_)
          rw [if_pos (by kernel_rfl)]
          refine oq_ix 39 _ _ rfl (.slice (some ⟨b, off, none⟩) k c) (.int .i64 (i1 : Int)) (.pointer (some ⟨b, off + i1 * 22, none⟩)) (by kernel_rfl) (by kernel_rfl) (fun w => run_ixe b off k c i1 _ rfl (HI.out.2) w) ?_
          with_reducible refine hK _ ?_; clear hK K
          try simp only [Act.put, List.setIfInBounds_toArray, List.set_cons_zero, List.set_cons_succ]
          with_reducible refine wpQuiet_step (fun K hK => ?_)
          rw [if_pos (by kernel_rfl)]
          refine oq_load 79 _ rfl ⟨b, off + i1 * 22, none⟩ (by kernel_rfl) (eV y) (fun V hV => HQ1.out V hV) ?_
          with_reducible refine hK _ ?_; clear hK K
          try simp only [Act.put, List.setIfInBounds_toArray, List.set_cons_zero, List.set_cons_succ]
          with_reducible refine wpQuiet_step (fun K hK => ?_)
          rw [if_pos (by kernel_rfl)]
          refine oq_mv _ rfl (.slice (some ⟨b, off, none⟩) k c) (by kernel_rfl) ?_
          with_reducible refine hK _ ?_; clear hK K
          try simp only [Act.put, List.setIfInBounds_toArray, List.set_cons_zero, List.set_cons_succ]
          with_reducible refine wpQuiet_step (fun K hK => ?_)
          rw [if_pos (by kernel_rfl)]
          refine oq_mv _ rfl (.int .i64 (i : Int)) (by kernel_rfl) ?_
          with_reducible refine hK _ ?_; clear hK K
          try simp only [Act.put, List.setIfInBounds_toArray, List.set_cons_zero, List.set_cons_succ]
          with_reducible refine wpQuiet_step (fun K hK => ?_)
          rw [if_pos (by kernel_rfl)]
          refine oq_ix 39 _ _ rfl (.slice (some ⟨b, off, none⟩) k c) (.int .i64 (i : Int)) (.pointer (some ⟨b, off + i * 22, none⟩)) (by kernel_rfl) (by kernel_rfl) (fun w => run_ixe b off k c i _ rfl (HI.out.1) w) ?_
          with_reducible refine hK _ ?_; clear hK K
          try simp only [Act.put, List.setIfInBounds_toArray, List.set_cons_zero, List.set_cons_succ]
          with_reducible refine wpQuiet_step (fun K hK => ?_)
          rw [if_pos (by kernel_rfl)]
          refine oq_load 79 _ rfl ⟨b, off + i * 22, none⟩ (by kernel_rfl) (eV x) (fun V hV => HQ2.out V hV) ?_
          with_reducible refine hK _ ?_; clear hK K
          try simp only [Act.put, List.setIfInBounds_toArray, List.set_cons_zero, List.set_cons_succ]
          with_reducible refine wpQuiet_step (fun K hK => ?_)
          rw [if_pos (by kernel_rfl)]
          refine oq_call2 39 c39 _ _ _ rfl (eV y) (eV x) (by kernel_rfl) (by kernel_rfl) (.int .i64 q) (fun V hV => HC1.out V hV) ?_
          with_reducible refine hK _ ?_; clear hK K
          try simp only [Act.put, List.setIfInBounds_toArray, List.set_cons_zero, List.set_cons_succ]
          with_reducible refine wpQuiet_step (fun K hK => ?_)
          rw [if_pos (by kernel_rfl)]
          refine oq_mv _ rfl (.slice (some ⟨b4, 0, none⟩) k c4) (by kernel_rfl) ?_
          with_reducible refine hK _ ?_; clear hK K
          try simp only [Act.put, List.setIfInBounds_toArray, List.set_cons_zero, List.set_cons_succ]
          with_reducible refine wpQuiet_step (fun K hK => ?_)
          rw [if_pos (by kernel_rfl)]
          refine oq_mv _ rfl (.int .i64 (i : Int)) (by kernel_rfl) ?_
          with_reducible refine hK _ ?_; clear hK K
          try simp only [Act.put, List.setIfInBounds_toArray, List.set_cons_zero, List.set_cons_succ]
          with_reducible refine wpQuiet_step (fun K hK => ?_)
          rw [if_pos (by kernel_rfl)]
          refine oq_subI _ _ _ rfl ((i : Int)) (1) ((i1 : Int)) (by kernel_rfl) (by kernel_rfl) (by rw [y1, y2]) ?_
          with_reducible refine hK _ ?_; clear hK K
          try simp only [Act.put, List.setIfInBounds_toArray, List.set_cons_zero, List.set_cons_succ]
          with_reducible refine wpQuiet_step (fun K hK => ?_)
          rw [if_pos (by kernel_rfl)]
          refine oq_ix 42 _ _ rfl (.slice (some ⟨b4, 0, none⟩) k c4) (.int .i64 (i1 : Int)) (.pointer (some ⟨b4, 0 + i1 * 22, none⟩)) (by kernel_rfl) (by kernel_rfl) (fun w => run_ixf b4 0 k c4 i1 _ rfl (HI.out.2) w) ?_
          with_reducible refine hK _ ?_; clear hK K
          try simp only [Act.put, List.setIfInBounds_toArray, List.set_cons_zero, List.set_cons_succ]
          with_reducible refine wpQuiet_step (fun K hK => ?_)
          rw [if_pos (by kernel_rfl)]
          refine oq_load 66 _ rfl ⟨b4, 0 + i1 * 22, none⟩ (by kernel_rfl) (eV y) (fun V hV => HQ3.out V hV) ?_
          with_reducible refine hK _ ?_; clear hK K
          try simp only [Act.put, List.setIfInBounds_toArray, List.set_cons_zero, List.set_cons_succ]
          with_reducible refine wpQuiet_step (fun K hK => ?_)
          rw [if_pos (by kernel_rfl)]
          refine oq_mv _ rfl (.slice (some ⟨b4, 0, none⟩) k c4) (by kernel_rfl) ?_
          with_reducible refine hK _ ?_; clear hK K
          try simp only [Act.put, List.setIfInBounds_toArray, List.set_cons_zero, List.set_cons_succ]
          with_reducible refine wpQuiet_step (fun K hK => ?_)
          rw [if_pos (by kernel_rfl)]
          refine oq_mv _ rfl (.int .i64 (i : Int)) (by kernel_rfl) ?_
          with_reducible refine hK _ ?_; clear hK K
          try simp only [Act.put, List.setIfInBounds_toArray, List.set_cons_zero, List.set_cons_succ]
          with_reducible refine wpQuiet_step (fun K hK => ?_)
          rw [if_pos (by kernel_rfl)]
          refine oq_ix 42 _ _ rfl (.slice (some ⟨b4, 0, none⟩) k c4) (.int .i64 (i : Int)) (.pointer (some ⟨b4, 0 + i * 22, none⟩)) (by kernel_rfl) (by kernel_rfl) (fun w => run_ixf b4 0 k c4 i _ rfl (HI.out.1) w) ?_
          with_reducible refine hK _ ?_; clear hK K
          try simp only [Act.put, List.setIfInBounds_toArray, List.set_cons_zero, List.set_cons_succ]
          with_reducible refine wpQuiet_step (fun K hK => ?_)
          rw [if_pos (by kernel_rfl)]
          refine oq_load 66 _ rfl ⟨b4, 0 + i * 22, none⟩ (by kernel_rfl) (eV x) (fun V hV => HQ4.out V hV) ?_
          with_reducible refine hK _ ?_; clear hK K
          try simp only [Act.put, List.setIfInBounds_toArray, List.set_cons_zero, List.set_cons_succ]
          with_reducible refine wpQuiet_step (fun K hK => ?_)
          rw [if_pos (by kernel_rfl)]
          refine oq_call2 40 c40 _ _ _ rfl (eV y) (eV x) (by kernel_rfl) (by kernel_rfl) (.int .i64 q) (fun V hV => HC3.out V hV) ?_
          with_reducible refine hK _ ?_; clear hK K
          try simp only [Act.put, List.setIfInBounds_toArray, List.set_cons_zero, List.set_cons_succ]
          with_reducible refine wpQuiet_step (fun K hK => ?_)
          rw [if_pos (by kernel_rfl)]
          refine oq_neqI _ _ _ rfl (q) (by kernel_rfl) (by kernel_rfl) ?_
          with_reducible refine hK _ ?_; clear hK K
          try simp only [Act.put, List.setIfInBounds_toArray, List.set_cons_zero, List.set_cons_succ]
          with_reducible refine wpQuiet_step (fun K hK => ?_)
          rw [if_pos (by kernel_rfl)]
          refine oq_mv _ rfl (.bool false) (by kernel_rfl) ?_
          with_reducible refine hK _ ?_; clear hK K
          try simp only [Act.put, List.setIfInBounds_toArray, List.set_cons_zero, List.set_cons_succ]
          with_reducible refine wpQuiet_step (fun K hK => ?_)
          rw [if_pos (by kernel_rfl)]
          refine oq_mv _ rfl (.slice (some ⟨b, off, none⟩) k c) (by kernel_rfl) ?_
          with_reducible refine hK _ ?_; clear hK K
          try simp only [Act.put, List.setIfInBounds_toArray, List.set_cons_zero, List.set_cons_succ]
          with_reducible refine wpQuiet_step (fun K hK => ?_)
          rw [if_pos (by kernel_rfl)]
          refine oq_mv _ rfl (.int .i64 (i : Int)) (by kernel_rfl) ?_
          with_reducible refine hK _ ?_; clear hK K
          try simp only [Act.put, List.setIfInBounds_toArray, List.set_cons_zero, List.set_cons_succ]
          with_reducible refine wpQuiet_step (fun K hK => ?_)
          rw [if_pos (by kernel_rfl)]
          refine oq_ix 39 _ _ rfl (.slice (some ⟨b, off, none⟩) k c) (.int .i64 (i : Int)) (.pointer (some ⟨b, off + i * 22, none⟩)) (by kernel_rfl) (by kernel_rfl) (fun w => run_ixe b off k c i _ rfl (HI.out.1) w) ?_
          with_reducible refine hK _ ?_; clear hK K
          try simp only [Act.put, List.setIfInBounds_toArray, List.set_cons_zero, List.set_cons_succ]
          with_reducible refine wpQuiet_step (fun K hK => ?_)
          rw [if_pos (by kernel_rfl)]
          refine oq_load 79 _ rfl ⟨b, off + i * 22, none⟩ (by kernel_rfl) (eV x) (fun V hV => HQ2.out V hV) ?_
          with_reducible refine hK _ ?_; clear hK K
          try simp only [Act.put, List.setIfInBounds_toArray, List.set_cons_zero, List.set_cons_succ]
          with_reducible refine wpQuiet_step (fun K hK => ?_)
          rw [if_pos (by kernel_rfl)]
          refine oq_mv _ rfl (.slice (some ⟨b, off, none⟩) k c) (by kernel_rfl) ?_
          with_reducible refine hK _ ?_; clear hK K
          try simp only [Act.put, List.setIfInBounds_toArray, List.set_cons_zero, List.set_cons_succ]
          with_reducible refine wpQuiet_step (fun K hK => ?_)
          rw [if_pos (by kernel_rfl)]
          refine oq_mv _ rfl (.int .i64 (i : Int)) (by kernel_rfl) ?_
          with_reducible refine hK _ ?_; clear hK K
          try simp only [Act.put, List.setIfInBounds_toArray, List.set_cons_zero, List.set_cons_succ]
          with_reducible refine wpQuiet_step (fun K hK => ?_)
          rw [if_pos (by kernel_rfl)]
          refine oq_subI _ _ _ rfl ((i : Int)) (1) ((i1 : Int)) (by kernel_rfl) (by kernel_rfl) (by rw [y1, y2]) ?_
          with_reducible refine hK _ ?_; clear hK K
          try simp only [Act.put, List.setIfInBounds_toArray, List.set_cons_zero, List.set_cons_succ]
          with_reducible refine wpQuiet_step (fun K hK => ?_)
          rw [if_pos (by kernel_rfl)]
          refine oq_ix 39 _ _ rfl (.slice (some ⟨b, off, none⟩) k c) (.int .i64 (i1 : Int)) (.pointer (some ⟨b, off + i1 * 22, none⟩)) (by kernel_rfl) (by kernel_rfl) (fun w => run_ixe b off k c i1 _ rfl (HI.out.2) w) ?_
          with_reducible refine hK _ ?_; clear hK K
          try simp only [Act.put, List.setIfInBounds_toArray, List.set_cons_zero, List.set_cons_succ]
          with_reducible refine wpQuiet_step (fun K hK => ?_)
          rw [if_pos (by kernel_rfl)]
          refine oq_load 79 _ rfl ⟨b, off + i1 * 22, none⟩ (by kernel_rfl) (eV y) (fun V hV => HQ1.out V hV) ?_
          with_reducible refine hK _ ?_; clear hK K
          try simp only [Act.put, List.setIfInBounds_toArray, List.set_cons_zero, List.set_cons_succ]
          with_reducible refine wpQuiet_step (fun K hK => ?_)
          rw [if_pos (by kernel_rfl)]
          refine oq_call2 39 c39 _ _ _ rfl (eV x) (eV y) (by kernel_rfl) (by kernel_rfl) (.int .i64 p) (fun V hV => HC2.out V hV) ?_
          with_reducible refine hK _ ?_; clear hK K
          try simp only [Act.put, List.setIfInBounds_toArray, List.set_cons_zero, List.set_cons_succ]
          with_reducible refine wpQuiet_step (fun K hK => ?_)
          rw [if_pos (by kernel_rfl)]
          refine oq_mv _ rfl (.slice (some ⟨b, off, none⟩) k c) (by kernel_rfl) ?_
          with_reducible refine hK _ ?_; clear hK K
          try simp only [Act.put, List.setIfInBounds_toArray, List.set_cons_zero, List.set_cons_succ]
          with_reducible refine wpQuiet_step (fun K hK => ?_)
          rw [if_pos (by kernel_rfl)]
          refine oq_mv _ rfl (.int .i64 (i : Int)) (by kernel_rfl) ?_
          with_reducible refine hK _ ?_; clear hK K
          try simp only [Act.put, List.setIfInBounds_toArray, List.set_cons_zero, List.set_cons_succ]
          with_reducible refine wpQuiet_step (fun K hK => ?_)
          rw [if_pos (by kernel_rfl)]
          refine oq_subI _ _ _ rfl ((i : Int)) (1) ((i1 : Int)) (by kernel_rfl) (by kernel_rfl) (by rw [y1, y2]) ?_
          with_reducible refine hK _ ?_; clear hK K
          try simp only [Act.put, List.setIfInBounds_toArray, List.set_cons_zero, List.set_cons_succ]
          with_reducible refine wpQuiet_step (fun K hK => ?_)
          rw [if_pos (by kernel_rfl)]
          refine oq_ix 39 _ _ rfl (.slice (some ⟨b, off, none⟩) k c) (.int .i64 (i1 : Int)) (.pointer (some ⟨b, off + i1 * 22, none⟩)) (by kernel_rfl) (by kernel_rfl) (fun w => run_ixe b off k c i1 _ rfl (HI.out.2) w) ?_
          with_reducible refine hK _ ?_; clear hK K
          try simp only [Act.put, List.setIfInBounds_toArray, List.set_cons_zero, List.set_cons_succ]
          with_reducible refine wpQuiet_step (fun K hK => ?_)
          rw [if_pos (by kernel_rfl)]
          refine oq_load 79 _ rfl ⟨b, off + i1 * 22, none⟩ (by kernel_rfl) (eV y) (fun V hV => HQ1.out V hV) ?_
          with_reducible refine hK _ ?_; clear hK K
          try simp only [Act.put, List.setIfInBounds_toArray, List.set_cons_zero, List.set_cons_succ]
          with_reducible refine wpQuiet_step (fun K hK => ?_)
          rw [if_pos (by kernel_rfl)]
          refine oq_mv _ rfl (.slice (some ⟨b, off, none⟩) k c) (by kernel_rfl) ?_
          with_reducible refine hK _ ?_; clear hK K
          try simp only [Act.put, List.setIfInBounds_toArray, List.set_cons_zero, List.set_cons_succ]
          with_reducible refine wpQuiet_step (fun K hK => ?_)
          rw [if_pos (by kernel_rfl)]
          refine oq_mv _ rfl (.int .i64 (i : Int)) (by kernel_rfl) ?_
          with_reducible refine hK _ ?_; clear hK K
          try simp only [Act.put, List.setIfInBounds_toArray, List.set_cons_zero, List.set_cons_succ]
          with_reducible refine wpQuiet_step (fun K hK => ?_)
          rw [if_pos (by kernel_rfl)]
          refine oq_ix 39 _ _ rfl (.slice (some ⟨b, off, none⟩) k c) (.int .i64 (i : Int)) (.pointer (some ⟨b, off + i * 22, none⟩)) (by kernel_rfl) (by kernel_rfl) (fun w => run_ixe b off k c i _ rfl (HI.out.1) w) ?_
          with_reducible refine hK _ ?_; clear hK K
          try simp only [Act.put, List.setIfInBounds_toArray, List.set_cons_zero, List.set_cons_succ]
          with_reducible refine wpQuiet_step (fun K hK => ?_)
          rw [if_pos (by kernel_rfl)]
          refine oq_load 79 _ rfl ⟨b, off + i * 22, none⟩ (by kernel_rfl) (eV x) (fun V hV => HQ2.out V hV) ?_
          with_reducible refine hK _ ?_; clear hK K
          try simp only [Act.put, List.setIfInBounds_toArray, List.set_cons_zero, List.set_cons_succ]
          with_reducible refine wpQuiet_step (fun K hK => ?_)
          rw [if_pos (by kernel_rfl)]
          refine oq_call2 39 c39 _ _ _ rfl (eV y) (eV x) (by kernel_rfl) (by kernel_rfl) (.int .i64 q) (fun V hV => HC1.out V hV) ?_
          with_reducible refine hK _ ?_; clear hK K
          try simp only [Act.put, List.setIfInBounds_toArray, List.set_cons_zero, List.set_cons_succ]
          with_reducible refine wpQuiet_step (fun K hK => ?_)
          rw [if_pos (by kernel_rfl)]
          refine oq_subI _ _ _ rfl (0) (q) (p) (by kernel_rfl) (by kernel_rfl) hw1 ?_
          with_reducible refine hK _ ?_; clear hK K
          try simp only [Act.put, List.setIfInBounds_toArray, List.set_cons_zero, List.set_cons_succ]
          with_reducible refine wpQuiet_step (fun K hK => ?_)
          rw [if_pos (by kernel_rfl)]
          refine oq_neqI _ _ _ rfl (p) (by kernel_rfl) (by kernel_rfl) ?_
          with_reducible refine hK _ ?_; clear hK K
          try simp only [Act.put, List.setIfInBounds_toArray, List.set_cons_zero, List.set_cons_succ]
          with_reducible refine wpQuiet_step (fun K hK => ?_)
          rw [if_pos (by kernel_rfl)]
          refine oq_pickF _ _ _ rfl (by kernel_rfl) (.bool false) (by kernel_rfl) ?_
          with_reducible refine hK _ ?_; clear hK K
          try simp only [Act.put, List.setIfInBounds_toArray, List.set_cons_zero, List.set_cons_succ]
          refine wpQuiet_nil ?_
          intro w5 hB5
          have HB5 : Hid (Below w4.heap.size w4 w5) := HBs.out.trans (hB5.mono HBs.out.size)
          clear hB5
          go_wp2_with fail
          exact ⟨⟨i + 1, by simp, by omega, HB5⟩, by simp [intOf]; have := HI.out; omega⟩
        · have hqi : ¬ (i : Int) < (k : Int) := by omega
          have d4 : decide ((i : Int) < (k : Int)) = false := by simp; omega
          have HBW : Hid (Below w.heap.size w wr) := HB4.out.trans (HBs.out.mono HB4.out.size)
          have HRW : Hid (Rd wr o3 n3 q3 X) := HR4.out.keep HBs.out
          clear hik hi1
          by_cases hE0 : E = 0
          · have HE0 : Hid (tE d = 0) := by show _ = _; rw [← HEX.out.1]; exact hE0
            subst hE0
            have HDT : Hid (Calls Tryz.prog 21 #[.slice o3 n3 q3] wr fun ex w' => ∃ v, ex = .returned (.tuple #[v, .int .i64 0]) ∧ De (wr.heap.size + 1) w' v d ∧ Below wr.heap.size wr w') := decTree_enc o3 n3 q3 d wr (HT.out wr HBW.out) (HES.out wr HBW.out).ok HE0.out (by have := HRW.out; rwa [HEX.out.2] at this)
            go_wp2_with fail
            refine HDT.out.mono ?_
            rintro e w6 ⟨v6, rfl, de6, b6⟩
            have HB6 : Hid (Below w.heap.size w w6) := HBW.out.trans (b6.mono HBW.out.size)
            have HD6 : Hid (Es w6 v6 d) := de6.es
            obtain ⟨a6, c6, hv6⟩ := de6.shape
            rw [← HN.out.1] at hv6
            subst hv6
            clear de6 b6
            go_wp2_with fail
            have HP6 : Hid (0 < k → ∃ b6 off6, a6 = some ⟨b6, off6, none⟩ ∧ ∀ V : World, Below w6.heap.size w6 V → ∀ i, i < k → ∀ j, j < 22 → V.cell? ⟨b6, off6 + i * 22 + j, none⟩ = some (ecl d[i]! j)) := fun h0 => by
              obtain ⟨b, off, h1, hb, h2⟩ := HD6.out.cells (by have := HN.out; omega)
              exact ⟨b, off, h1, fun V hV i hi j hj => h2 V (fun k hk => by subst hk; exact hV.block _ hb) i (by have := HN.out; omega) j hj⟩
            go_loopw [12] (fun s12 ws => ∃ i : Nat, s12 = .int .i64 (i : Int) ∧ i ≤ k ∧ Hid (Below w6.heap.size w6 ws)) (fun s12 _ => k - (intOf s12).toNat)
            case atStart => exact ⟨0, rfl, Nat.zero_le _, Below.refl _ _⟩
            case round =>
              obtain ⟨i, rfl, hi1, HBs⟩ := hrel
              by_cases hik : i < k
              · have hqi : (i : Int) < (k : Int) := by omega
                have d5 : decide ((i : Int) < (k : Int)) = true := by simp; omega
                have hwi : IntKind.i64.wrap ((i : Int) + 1) = (i : Int) + 1 := by have := HN.out; rw [IntKind.wrap_i64]; omega
                obtain ⟨b, off, rfl, hc0⟩ := HP.out (by omega)
                obtain ⟨b6, off6, rfl, hc6⟩ := HP6.out (by omega)
                have HI : Hid (i < k) := hik
                obtain ⟨x, hx⟩ : ∃ x, d[i]! = x := ⟨_, rfl⟩
                have hxi : IsId x.id := by rw [← hx]; exact HOK.out i hik
                have HQ1 : Hid (∀ V, Below wr.heap.size wr V → (loadVar 79 ⟨b, off + i * 22, none⟩).run Tryz.prog V = .ok (eV x) V) := fun V hV => ld_ent 79 Tryz.underlying79 rfl size79 (fun j hj => by
                  rw [← hx]
                  have h6 := HBs.out.trans (hV.mono HBs.out.size)
                  exact hc0 V (HB6.out.trans (h6.mono HB6.out.size)) i HI.out j hj) hxi
                have HQ2 : Hid (∀ V, Below wr.heap.size wr V → (loadVar 79 ⟨b6, off6 + i * 22, none⟩).run Tryz.prog V = .ok (eV x) V) := fun V hV => ld_ent 79 Tryz.underlying79 rfl size79 (fun j hj => by
                  rw [← hx]
                  exact hc6 V (HBs.out.trans (hV.mono HBs.out.size)) i HI.out j hj) hxi
                clear hc0 hc6 hx hxi hik hi1
                go_wp2_with fail
                refine wp_region_quiet (C := fun V => Below wr.heap.size wr V) (by kernel_rfl) (by kernel_rfl) (Below.refl _ _).drew ?_
                with_reducible refine wpQuiet_step (fun K hK => ?_)
                rw [if_pos (by kernel_rfl)]
                refine oq_mv _ rfl (.slice (some ⟨b6, off6, none⟩) k c6) (by kernel_rfl) ?_
                with_reducible refine hK _ ?_; clear hK K
                try simp only [Act.put, List.setIfInBounds_toArray, List.set_cons_zero, List.set_cons_succ]
                with_reducible refine wpQuiet_step (fun K hK => ?_)
                rw [if_pos (by kernel_rfl)]
                refine oq_mv _ rfl (.int .i64 (i : Int)) (by kernel_rfl) ?_
                with_reducible refine hK _ ?_; clear hK K
                try simp only [Act.put, List.setIfInBounds_toArray, List.set_cons_zero, List.set_cons_succ]
                with_reducible refine wpQuiet_step (fun K hK => ?_)
                rw [if_pos (by kernel_rfl)]
                refine oq_ix 39 _ _ rfl (.slice (some ⟨b6, off6, none⟩) k c6) (.int .i64 (i : Int)) (.pointer (some ⟨b6, off6 + i * 22, none⟩)) (by kernel_rfl) (by kernel_rfl) (fun w => run_ixe b6 off6 k c6 i _ rfl (HI.out) w) ?_
                with_reducible refine hK _ ?_; clear hK K
                try simp only [Act.put, List.setIfInBounds_toArray, List.set_cons_zero, List.set_cons_succ]
                with_reducible refine wpQuiet_step (fun K hK => ?_)
                rw [if_pos (by kernel_rfl)]
                refine oq_load 79 _ rfl ⟨b6, off6 + i * 22, none⟩ (by kernel_rfl) (eV x) (fun V hV => HQ2.out V hV) ?_
                with_reducible refine hK _ ?_; clear hK K
                try simp only [Act.put, List.setIfInBounds_toArray, List.set_cons_zero, List.set_cons_succ]
                with_reducible refine wpQuiet_step (fun K hK => ?_)
                rw [if_pos (by kernel_rfl)]
                refine oq_mv _ rfl (.slice (some ⟨b, off, none⟩) k c) (by kernel_rfl) ?_
                with_reducible refine hK _ ?_; clear hK K
                try simp only [Act.put, List.setIfInBounds_toArray, List.set_cons_zero, List.set_cons_succ]
                with_reducible refine wpQuiet_step (fun K hK => ?_)
                rw [if_pos (by kernel_rfl)]
                refine oq_mv _ rfl (.int .i64 (i : Int)) (by kernel_rfl) ?_
                with_reducible refine hK _ ?_; clear hK K
                try simp only [Act.put, List.setIfInBounds_toArray, List.set_cons_zero, List.set_cons_succ]
                with_reducible refine wpQuiet_step (fun K hK => ?_)
                rw [if_pos (by kernel_rfl)]
                refine oq_ix 39 _ _ rfl (.slice (some ⟨b, off, none⟩) k c) (.int .i64 (i : Int)) (.pointer (some ⟨b, off + i * 22, none⟩)) (by kernel_rfl) (by kernel_rfl) (fun w => run_ixe b off k c i _ rfl (HI.out) w) ?_
                with_reducible refine hK _ ?_; clear hK K
                try simp only [Act.put, List.setIfInBounds_toArray, List.set_cons_zero, List.set_cons_succ]
                with_reducible refine wpQuiet_step (fun K hK => ?_)
                rw [if_pos (by kernel_rfl)]
                refine oq_load 79 _ rfl ⟨b, off + i * 22, none⟩ (by kernel_rfl) (eV x) (fun V hV => HQ1.out V hV) ?_
                with_reducible refine hK _ ?_; clear hK K
                try simp only [Act.put, List.setIfInBounds_toArray, List.set_cons_zero, List.set_cons_succ]
                with_reducible refine wpQuiet_step (fun K hK => ?_)
                rw [if_pos (by kernel_rfl)]
                refine oq_bin .neq 79 _ _ _ rfl (vals (ecl x) 22).toArray (vals (ecl x) 22).toArray (by kernel_rfl) (by kernel_rfl) (.bool false) (by kernel_rfl) (fun V _ => neq_en x V) ?_
                with_reducible refine hK _ ?_; clear hK K
                try simp only [Act.put, List.setIfInBounds_toArray, List.set_cons_zero, List.set_cons_succ]
                refine wpQuiet_nil ?_
                intro w7 hB7
                have HB7 : Hid (Below w6.heap.size w6 w7) := HBs.out.trans (hB7.mono HBs.out.size)
                clear hB7
                go_wp2_with fail
                exact ⟨⟨i + 1, by simp, HI.out, HB7⟩, by simp [intOf]; have := HI.out; omega⟩
              · obtain rfl : i = k := by omega
                have hqi : ¬ (i : Int) < (i : Int) := by omega
                have d5 : decide ((i : Int) < (i : Int)) = false := by simp
                go_wp2_with fail
                go_ret
                exact ⟨rfl, HB6.out.trans (HBs.out.mono HB6.out.size)⟩
          · have f0 : (E == 0) = false := by simpa using hE0
            go_wp2_with fail
            go_ret
            exact ⟨rfl, HBW.out⟩


set_option maxRecDepth 100000 in
set_option maxHeartbeats 16000000 in
theorem trees_mid (ao : Option Addr) (n c : Nat) (d : Array En) (w : World) (h : Ew w (.slice ao n c) d) (ht : Ts w) (hn : n = d.size) (hA : 512 < n) (hB : n ≤ 600) :
    Calls Tryz.prog 5 #[.slice ao n c] w fun e w' => e = .returned (.bool true) ∧ Below w.heap.size w w' := by
  have z1 : decide ((40 : Int) < (n : Int)) = true := by simp; omega
  have z2 : decide (40 < n) = true := by simp; omega
  have z3 : decide ((600 : Int) < (n : Int)) = false := by simp; omega
  have z4 : decide (600 < n) = false := by simp; omega
  have z5 : decide ((n : Int) ≤ (512 : Int)) = false := by simp; omega
  have z6 : decide (n ≤ 512) = false := by simp; omega
  have HP : Hid (0 < n → ∃ b off, ao = some ⟨b, off, none⟩ ∧ ∀ V : World, Below w.heap.size w V → ∀ i, i < n → ∀ j, j < 22 → V.cell? ⟨b, off + i * 22 + j, none⟩ = some (ecl d[i]! j)) := fun h0 => by
    obtain ⟨b, off, h1, hb, h2⟩ := h.cells (by omega)
    exact ⟨b, off, h1, fun V hV i hi j hj => h2 V (fun k hk => by subst hk; exact hV.block _ hb) i (by omega) j hj⟩
  have HOK : Hid (∀ i, i < n → IsId d[i]!.id) := fun i hi => (h.ok i (by omega)).2.2
  have HN : Hid (n = d.size ∧ n ≤ 600) := ⟨hn, by omega⟩
  have HEW : Hid (∀ V : World, Below w.heap.size w V → Ew V (.slice ao n c) d) := fun V hV => h.keep hV
  have HT : Hid (∀ V : World, Below w.heap.size w V → Ts V) := fun V hV => ht.keep hV
  have hkn := known_yes w ht.gs
  obtain ⟨E, hE⟩ : ∃ E : Int, E = tE d := ⟨_, rfl⟩
  obtain ⟨X, hX⟩ : ∃ X : List Int, X = tX d := ⟨_, rfl⟩
  have HEX : Hid (E = tE d ∧ X = tX d) := ⟨hE, hX⟩
  obtain ⟨LX, hLX⟩ : ∃ L, L = (tb X) := ⟨_, rfl⟩
  have HCX : Hid (∀ V ao n q, Rd V ao n q X → (convert 22 9 (.slice ao n q)).run Tryz.prog V = .ok (sv LX) V) := fun V ao n q hr => by
    have := hr.str
    rw [tb_sv, ← hLX] at this
    exact this
  clear h ht hn hE hX hLX
  go_enter Tryz.func5, Tryz.ntmps5
  go_wp2_with fail
  refine hkn.mono ?_
  rintro e w1 ⟨rfl, b1⟩
  have HB1 : Hid (Below w.heap.size w w1) := b1
  clear hkn b1
  go_wp2_with fail
  go_loopw [3] (fun s3 wr => ∃ k : Nat, s3 = .int .i64 (k : Int) ∧ k ≤ n ∧ Hid (∀ i, i < k → d[i]!.nm.length ≤ 300) ∧ Hid (Below w.heap.size w wr)) (fun s3 _ => n - (intOf s3).toNat)
  case atStart => exact ⟨0, rfl, Nat.zero_le _, fun i hi => absurd hi (by omega), HB1⟩
  case round =>
    obtain ⟨k, rfl, hkn, HK, HB⟩ := hrel
    by_cases hlt : k < n
    · have hq : (k : Int) < (n : Int) := by omega
      have d3 : decide ((k : Int) < (n : Int)) = true := by simp; omega
      have hwk : IntKind.i64.wrap ((k : Int) + 1) = (k : Int) + 1 := by have := HN.out; rw [IntKind.wrap_i64]; omega
      obtain ⟨b, off, rfl, hc0⟩ := HP.out (by omega)
      have HLT : Hid (k < n) := hlt
      obtain ⟨_, c1, _, _, _⟩ := at_entry (hc0 wr HB.out k hlt) (HOK.out k hlt)
      obtain ⟨l, hl⟩ : ∃ l, l = d[k]!.nm := ⟨_, rfl⟩
      rw [← hl] at c1
      by_cases hbig : 300 < l.length
      · have f1 : decide ((300 : Int) < (l.length : Int)) = true := by simp; omega
        have f2 : decide (300 < l.length) = true := by simp; omega
        clear hc0 hlt hkn hl hbig
        go_wp2_with fail
        go_ret
        exact ⟨rfl, HB.out⟩
      · have f1 : decide ((300 : Int) < (l.length : Int)) = false := by simp; omega
        have f2 : decide (300 < l.length) = false := by simp; omega
        have HK1 : Hid (∀ i, i < k + 1 → d[i]!.nm.length ≤ 300) := fun i hi => by
          by_cases e : i = k
          · subst e
            rw [← hl]
            omega
          · exact HK.out i (by omega)
        clear hc0 hlt hkn hl hbig
        go_wp2_with fail
        exact ⟨⟨k + 1, by simp, HLT.out, HK1, HB⟩, by simp [intOf]; have := HLT.out; omega⟩
    · obtain rfl : k = n := by omega
      have hq : ¬ (k : Int) < (k : Int) := by omega
      have d3 : decide ((k : Int) < (k : Int)) = false := by simp
      have HES : Hid (∀ V : World, Below w.heap.size w V → Es V (.slice ao k c) d) := fun V hV => (HEW.out V hV).es (fun i hi => by have := HK.out i (by rw [HN.out.1]; exact hi); omega)
      have HNM : Hid (∀ i, i < k → d[i]!.nm.length ≤ 300) := HK.out
      clear HK
      go_wp2_with fail
      refine (entries_any (.slice ao k c) d wr (HES.out wr HB.out) (by have := HN.out; omega)).mono ?_
      rintro e w2 ⟨v4, rfl, dx2, b2⟩
      have HB2 : Hid (Below w.heap.size w w2) := HB.out.trans (b2.mono HB.out.size)
      obtain ⟨a4, c4, hv4q⟩ := dx2.shape
      have HV4 : Hid (v4 = .slice a4 d.size c4) := hv4q
      clear hv4q
      have HDX : Hid (Dx wr.heap.size w2 v4 d) := dx2
      clear b2 dx2
      go_wp2_with fail
      refine (encTree_any (.slice ao k c) d w2 (HES.out w2 HB2.out) (HT.out w2 HB2.out) (by have := HN.out; omega)).mono ?_
      rintro e w3 ⟨o3, n3, q3, rfl, rd3, b3⟩
      rw [← HEX.out.1]
      rw [← HEX.out.2] at rd3
      have HB3 : Hid (Below w.heap.size w w3) := HB2.out.trans (b3.mono HB2.out.size)
      have HR3 : Hid (Rd w3 o3 n3 q3 X) := rd3
      have HDX3 : Hid (Dx wr.heap.size w3 v4 d) := HDX.out.keep b3
      clear b3 rd3
      go_wp2_with fail
      refine (rencTree_any v4 d w3 HDX3.out.es).mono ?_
      rintro e w4 ⟨o4, n4, q4, rfl, rd4, b4⟩
      rw [← HEX.out.1]
      rw [← HEX.out.2] at rd4
      have HB4 : Hid (Below w.heap.size w w4) := HB3.out.trans (b4.mono HB3.out.size)
      have HR4 : Hid (Rd w4 o3 n3 q3 X) := HR3.out.keep b4
      have HDX4 : Hid (Dx wr.heap.size w4 v4 d) := HDX3.out.keep b4
      have qq1 := HCX.out _ _ _ _ HR4.out
      have qq2 := HCX.out _ _ _ _ rd4
      clear b4 rd4
      go_wp2_with fail
      clear qq1 qq2
      have HD4 : Hid (0 < k → ∃ b4, v4 = .slice (some ⟨b4, 0, none⟩) k c4 ∧ ∀ V : World, Below w4.heap.size w4 V → ∀ i, i < k → ∀ j, j < 22 → V.cell? ⟨b4, i * 22 + j, none⟩ = some (ecl d[i]! j)) := fun h0 => by
        obtain ⟨b4, q, e, hc⟩ := HDX4.out.cells (by have := HN.out; omega)
        rw [HV4.out] at e
        injection e with e1 e2 e3
        subst e3
        exact ⟨b4, by rw [HV4.out, e1, ← HN.out.1], fun V hV i hi j hj => hc V hV i (by have := HN.out; omega) j hj⟩
      go_loopw [9] (fun s9 ws => ∃ i : Nat, s9 = .int .i64 (i : Int) ∧ 1 ≤ i ∧ Hid (Below w4.heap.size w4 ws)) (fun s9 _ => k - (intOf s9).toNat)
      case atStart => exact ⟨1, rfl, Nat.le_refl _, Below.refl _ _⟩
      case round =>
        obtain ⟨i, rfl, hi1, HBs⟩ := hrel
        by_cases hik : i < k
        · have hqi : (i : Int) < (k : Int) := by omega
          have d4 : decide ((i : Int) < (k : Int)) = true := by simp; omega
          have hwi : IntKind.i64.wrap ((i : Int) + 1) = (i : Int) + 1 := by have := HN.out; rw [IntKind.wrap_i64]; omega
          obtain ⟨b, off, rfl, hc0⟩ := HP.out (by omega)
          obtain ⟨b4, rfl, hc4⟩ := HD4.out (by omega)
          obtain ⟨i1, hi2⟩ : ∃ i1, i = i1 + 1 := ⟨i - 1, by omega⟩
          have y1 : (i : Int) - 1 = (i1 : Int) := by omega
          have y2 : IntKind.i64.wrap (i1 : Int) = (i1 : Int) := by have := HN.out; rw [IntKind.wrap_i64]; omega
          have HI : Hid (i < k ∧ i1 < k) := ⟨hik, by omega⟩
          obtain ⟨x, hx⟩ : ∃ x, d[i]! = x := ⟨_, rfl⟩
          obtain ⟨y, hy⟩ : ∃ y, d[i1]! = y := ⟨_, rfl⟩
          have hxi : IsId x.id := by rw [← hx]; exact HOK.out i hik
          have hyi : IsId y.id := by rw [← hy]; exact HOK.out i1 HI.out.2
          have hxn : x.nm.length ≤ 300 := by rw [← hx]; exact HNM.out i hik
          have hyn : y.nm.length ≤ 300 := by rw [← hy]; exact HNM.out i1 HI.out.2
          obtain ⟨q, hqo⟩ : ∃ q, q = od y x := ⟨_, rfl⟩
          obtain ⟨p, hpo⟩ : ∃ p, p = od x y := ⟨_, rfl⟩
          have hpq : p = - q := by rw [hpo, hqo]; exact ord_neg _ _ _ _
          have hqv : q = -1 ∨ q = 0 ∨ q = 1 := by rw [hqo]; exact cmp_vals _ _
          have hw1 : IntKind.i64.wrap (0 - q) = p := by rw [hpq, IntKind.wrap_i64]; omega
          have HWW : Hid (∀ V : World, Below wr.heap.size wr V → Below w.heap.size w V ∧ Below w4.heap.size w4 V) := fun V hV => by
            have h4 := HBs.out.trans (hV.mono HBs.out.size)
            exact ⟨HB4.out.trans (h4.mono HB4.out.size), h4⟩
          have HQ1 : Hid (∀ V, Below wr.heap.size wr V → (loadVar 79 ⟨b, off + i1 * 22, none⟩).run Tryz.prog V = .ok (eV y) V) := fun V hV => ld_ent 79 Tryz.underlying79 rfl size79 (fun j hj => by rw [← hy]; exact hc0 V (HWW.out V hV).1 i1 HI.out.2 j hj) hyi
          have HQ2 : Hid (∀ V, Below wr.heap.size wr V → (loadVar 79 ⟨b, off + i * 22, none⟩).run Tryz.prog V = .ok (eV x) V) := fun V hV => ld_ent 79 Tryz.underlying79 rfl size79 (fun j hj => by rw [← hx]; exact hc0 V (HWW.out V hV).1 i HI.out.1 j hj) hxi
          have HQ3 : Hid (∀ V, Below wr.heap.size wr V → (loadVar 66 ⟨b4, 0 + i1 * 22, none⟩).run Tryz.prog V = .ok (eV y) V) := fun V hV => ld_ent 66 Tryz.underlying66 rfl size66e (fun j hj => by rw [← hy, Nat.zero_add]; exact hc4 V (HWW.out V hV).2 i1 HI.out.2 j hj) hyi
          have HQ4 : Hid (∀ V, Below wr.heap.size wr V → (loadVar 66 ⟨b4, 0 + i * 22, none⟩).run Tryz.prog V = .ok (eV x) V) := fun V hV => ld_ent 66 Tryz.underlying66 rfl size66e (fun j hj => by rw [← hx, Nat.zero_add]; exact hc4 V (HWW.out V hV).2 i HI.out.1 j hj) hxi
          have HC1 : Hid (∀ V, Below wr.heap.size wr V → Calls Tryz.prog 39 #[eV y, eV x] V fun e w' => e = .returned (.int .i64 q) ∧ Below wr.heap.size wr w') := fun V hV => by
            rw [hqo]
            exact (order_any y.m ⟨y.nm.toArray⟩ y.id x.m ⟨x.nm.toArray⟩ x.id V (by rw [size_sv]; omega) (by rw [size_sv]; omega)).mono (fun e w' ⟨g1, g2⟩ => ⟨g1, hV.trans (g2.mono hV.size)⟩)
          have HC2 : Hid (∀ V, Below wr.heap.size wr V → Calls Tryz.prog 39 #[eV x, eV y] V fun e w' => e = .returned (.int .i64 p) ∧ Below wr.heap.size wr w') := fun V hV => by
            rw [hpo]
            exact (order_any x.m ⟨x.nm.toArray⟩ x.id y.m ⟨y.nm.toArray⟩ y.id V (by rw [size_sv]; omega) (by rw [size_sv]; omega)).mono (fun e w' ⟨g1, g2⟩ => ⟨g1, hV.trans (g2.mono hV.size)⟩)
          have HC3 : Hid (∀ V, Below wr.heap.size wr V → Calls Tryz.prog 40 #[eV y, eV x] V fun e w' => e = .returned (.int .i64 q) ∧ Below wr.heap.size wr w') := fun V hV => by
            rw [hqo]
            exact (rorder_any y.m ⟨y.nm.toArray⟩ y.id x.m ⟨x.nm.toArray⟩ x.id V (by rw [size_sv]; omega) (by rw [size_sv]; omega)).mono (fun e w' ⟨g1, g2⟩ => ⟨g1, hV.trans (g2.mono hV.size)⟩)
          clear hc0 hc4 hx hy hxi hyi hxn hyn hqo hpo hpq hqv hik hi2 hi1
          go_wp2_with fail
          refine wp_region_quiet (C := fun V => Below wr.heap.size wr V) (by kernel_rfl) (by kernel_rfl) (Below.refl _ _).drew ?_
          with_reducible refine wpQuiet_step (fun K hK => ?_)
          rw [if_pos (by kernel_rfl)]
          refine oq_mv _ rfl (.slice (some ⟨b, off, none⟩) k c) (by kernel_rfl) ?_
          with_reducible refine hK _ ?_; clear hK K
          try simp only [Act.put, List.setIfInBounds_toArray, List.set_cons_zero, List.set_cons_succ]
          with_reducible refine wpQuiet_step (fun K hK => ?_)
          rw [if_pos (by kernel_rfl)]
          refine oq_mv _ rfl (.int .i64 (i : Int)) (by kernel_rfl) ?_
          with_reducible refine hK _ ?_; clear hK K
          try simp only [Act.put, List.setIfInBounds_toArray, List.set_cons_zero, List.set_cons_succ]
          with_reducible refine wpQuiet_step (fun K hK => ?_)
          rw [if_pos (by kernel_rfl)]
          refine oq_subI _ _ _ rfl ((i : Int)) (1) ((i1 : Int)) (by kernel_rfl) (by kernel_rfl) (by rw [y1, y2]) ?_
          with_reducible refine hK _ ?_; clear hK K
          try simp only [Act.put, List.setIfInBounds_toArray, List.set_cons_zero, List.set_cons_succ]
          with_reducible refine wpQuiet_step (fun K hK => ?_)
          rw [if_pos (by kernel_rfl)]
          refine oq_ix 39 _ _ rfl (.slice (some ⟨b, off, none⟩) k c) (.int .i64 (i1 : Int)) (.pointer (some ⟨b, off + i1 * 22, none⟩)) (by kernel_rfl) (by kernel_rfl) (fun w => run_ixe b off k c i1 _ rfl (HI.out.2) w) ?_
          with_reducible refine hK _ ?_; clear hK K
          try simp only [Act.put, List.setIfInBounds_toArray, List.set_cons_zero, List.set_cons_succ]
          with_reducible refine wpQuiet_step (fun K hK => ?_)
          rw [if_pos (by kernel_rfl)]
          refine oq_load 79 _ rfl ⟨b, off + i1 * 22, none⟩ (by kernel_rfl) (eV y) (fun V hV => HQ1.out V hV) ?_
          with_reducible refine hK _ ?_; clear hK K
          try simp only [Act.put, List.setIfInBounds_toArray, List.set_cons_zero, List.set_cons_succ]
          with_reducible refine wpQuiet_step (fun K hK => ?_)
          rw [if_pos (by kernel_rfl)]
          refine oq_mv _ rfl (.slice (some ⟨b, off, none⟩) k c) (by kernel_rfl) ?_
          with_reducible refine hK _ ?_; clear hK K
          try simp only [Act.put, List.setIfInBounds_toArray, List.set_cons_zero, List.set_cons_succ]
          with_reducible refine wpQuiet_step (fun K hK => ?_)
          rw [if_pos (by kernel_rfl)]
          refine oq_mv _ rfl (.int .i64 (i : Int)) (by kernel_rfl) ?_
          with_reducible refine hK _ ?_; clear hK K
          try simp only [Act.put, List.setIfInBounds_toArray, List.set_cons_zero, List.set_cons_succ]
          with_reducible refine wpQuiet_step (fun K hK => ?_)
          rw [if_pos (by kernel_rfl)]
          refine oq_ix 39 _ _ rfl (.slice (some ⟨b, off, none⟩) k c) (.int .i64 (i : Int)) (.pointer (some ⟨b, off + i * 22, none⟩)) (by kernel_rfl) (by kernel_rfl) (fun w => run_ixe b off k c i _ rfl (HI.out.1) w) ?_
          with_reducible refine hK _ ?_; clear hK K
          try simp only [Act.put, List.setIfInBounds_toArray, List.set_cons_zero, List.set_cons_succ]
          with_reducible refine wpQuiet_step (fun K hK => ?_)
          rw [if_pos (by kernel_rfl)]
          refine oq_load 79 _ rfl ⟨b, off + i * 22, none⟩ (by kernel_rfl) (eV x) (fun V hV => HQ2.out V hV) ?_
          with_reducible refine hK _ ?_; clear hK K
          try simp only [Act.put, List.setIfInBounds_toArray, List.set_cons_zero, List.set_cons_succ]
          with_reducible refine wpQuiet_step (fun K hK => ?_)
          rw [if_pos (by kernel_rfl)]
          refine oq_call2 39 c39 _ _ _ rfl (eV y) (eV x) (by kernel_rfl) (by kernel_rfl) (.int .i64 q) (fun V hV => HC1.out V hV) ?_
          with_reducible refine hK _ ?_; clear hK K
          try simp only [Act.put, List.setIfInBounds_toArray, List.set_cons_zero, List.set_cons_succ]
          with_reducible refine wpQuiet_step (fun K hK => ?_)
          rw [if_pos (by kernel_rfl)]
          refine oq_mv _ rfl (.slice (some ⟨b4, 0, none⟩) k c4) (by kernel_rfl) ?_
          with_reducible refine hK _ ?_; clear hK K
          try simp only [Act.put, List.setIfInBounds_toArray, List.set_cons_zero, List.set_cons_succ]
          with_reducible refine wpQuiet_step (fun K hK => ?_)
          rw [if_pos (by kernel_rfl)]
          refine oq_mv _ rfl (.int .i64 (i : Int)) (by kernel_rfl) ?_
          with_reducible refine hK _ ?_; clear hK K
          try simp only [Act.put, List.setIfInBounds_toArray, List.set_cons_zero, List.set_cons_succ]
          with_reducible refine wpQuiet_step (fun K hK => ?_)
          rw [if_pos (by kernel_rfl)]
          refine oq_subI _ _ _ rfl ((i : Int)) (1) ((i1 : Int)) (by kernel_rfl) (by kernel_rfl) (by rw [y1, y2]) ?_
          with_reducible refine hK _ ?_; clear hK K
          try simp only [Act.put, List.setIfInBounds_toArray, List.set_cons_zero, List.set_cons_succ]
          with_reducible refine wpQuiet_step (fun K hK => ?_)
          rw [if_pos (by kernel_rfl)]
          refine oq_ix 42 _ _ rfl (.slice (some ⟨b4, 0, none⟩) k c4) (.int .i64 (i1 : Int)) (.pointer (some ⟨b4, 0 + i1 * 22, none⟩)) (by kernel_rfl) (by kernel_rfl) (fun w => run_ixf b4 0 k c4 i1 _ rfl (HI.out.2) w) ?_
          with_reducible refine hK _ ?_; clear hK K
          try simp only [Act.put, List.setIfInBounds_toArray, List.set_cons_zero, List.set_cons_succ]
          with_reducible refine wpQuiet_step (fun K hK => ?_)
          rw [if_pos (by kernel_rfl)]
          refine oq_load 66 _ rfl ⟨b4, 0 + i1 * 22, none⟩ (by kernel_rfl) (eV y) (fun V hV => HQ3.out V hV) ?_
          with_reducible refine hK _ ?_; clear hK K
          try simp only [Act.put, List.setIfInBounds_toArray, List.set_cons_zero, List.set_cons_succ]
          with_reducible refine wpQuiet_step (fun K hK => ?_)
          rw [if_pos (by kernel_rfl)]
          refine oq_mv _ rfl (.slice (some ⟨b4, 0, none⟩) k c4) (by kernel_rfl) ?_
          with_reducible refine hK _ ?_; clear hK K
          try simp only [Act.put, List.setIfInBounds_toArray, List.set_cons_zero, List.set_cons_succ]
          with_reducible refine wpQuiet_step (fun K hK => ?_)
          rw [if_pos (by kernel_rfl)]
          refine oq_mv _ rfl (.int .i64 (i : Int)) (by kernel_rfl) ?_
          with_reducible refine hK _ ?_; clear hK K
          try simp only [Act.put, List.setIfInBounds_toArray, List.set_cons_zero, List.set_cons_succ]
          with_reducible refine wpQuiet_step (fun K hK => ?_)
          rw [if_pos (by kernel_rfl)]
          refine oq_ix 42 _ _ rfl (.slice (some ⟨b4, 0, none⟩) k c4) (.int .i64 (i : Int)) (.pointer (some ⟨b4, 0 + i * 22, none⟩)) (by kernel_rfl) (by kernel_rfl) (fun w => run_ixf b4 0 k c4 i _ rfl (HI.out.1) w) ?_
          with_reducible refine hK _ ?_; clear hK K
          try simp only [Act.put, List.setIfInBounds_toArray, List.set_cons_zero, List.set_cons_succ]
          with_reducible refine wpQuiet_step (fun K hK => ?_)
          rw [if_pos (by kernel_rfl)]
          refine oq_load 66 _ rfl ⟨b4, 0 + i * 22, none⟩ (by kernel_rfl) (eV x) (fun V hV => HQ4.out V hV) ?_
          with_reducible refine hK _ ?_; clear hK K
          try simp only [Act.put, List.setIfInBounds_toArray, List.set_cons_zero, List.set_cons_succ]
          with_reducible refine wpQuiet_step (fun K hK => ?_)
          rw [if_pos (by kernel_rfl)]
          refine oq_call2 40 c40 _ _ _ rfl (eV y) (eV x) (by kernel_rfl) (by kernel_rfl) (.int .i64 q) (fun V hV => HC3.out V hV) ?_
          with_reducible refine hK _ ?_; clear hK K
          try simp only [Act.put, List.setIfInBounds_toArray, List.set_cons_zero, List.set_cons_succ]
          with_reducible refine wpQuiet_step (fun K hK => ?_)
          rw [if_pos (by kernel_rfl)]
          refine oq_neqI _ _ _ rfl (q) (by kernel_rfl) (by kernel_rfl) ?_
          with_reducible refine hK _ ?_; clear hK K
          try simp only [Act.put, List.setIfInBounds_toArray, List.set_cons_zero, List.set_cons_succ]
          with_reducible refine wpQuiet_step (fun K hK => ?_)
          rw [if_pos (by kernel_rfl)]
          refine oq_mv _ rfl (.bool false) (by kernel_rfl) ?_
          with_reducible refine hK _ ?_; clear hK K
          try simp only [Act.put, List.setIfInBounds_toArray, List.set_cons_zero, List.set_cons_succ]
          with_reducible refine wpQuiet_step (fun K hK => ?_)
          rw [if_pos (by kernel_rfl)]
          refine oq_mv _ rfl (.slice (some ⟨b, off, none⟩) k c) (by kernel_rfl) ?_
          with_reducible refine hK _ ?_; clear hK K
          try simp only [Act.put, List.setIfInBounds_toArray, List.set_cons_zero, List.set_cons_succ]
          with_reducible refine wpQuiet_step (fun K hK => ?_)
          rw [if_pos (by kernel_rfl)]
          refine oq_mv _ rfl (.int .i64 (i : Int)) (by kernel_rfl) ?_
          with_reducible refine hK _ ?_; clear hK K
          try simp only [Act.put, List.setIfInBounds_toArray, List.set_cons_zero, List.set_cons_succ]
          with_reducible refine wpQuiet_step (fun K hK => ?_)
          rw [if_pos (by kernel_rfl)]
          refine oq_ix 39 _ _ rfl (.slice (some ⟨b, off, none⟩) k c) (.int .i64 (i : Int)) (.pointer (some ⟨b, off + i * 22, none⟩)) (by kernel_rfl) (by kernel_rfl) (fun w => run_ixe b off k c i _ rfl (HI.out.1) w) ?_
          with_reducible refine hK _ ?_; clear hK K
          try simp only [Act.put, List.setIfInBounds_toArray, List.set_cons_zero, List.set_cons_succ]
          with_reducible refine wpQuiet_step (fun K hK => ?_)
          rw [if_pos (by kernel_rfl)]
          refine oq_load 79 _ rfl ⟨b, off + i * 22, none⟩ (by kernel_rfl) (eV x) (fun V hV => HQ2.out V hV) ?_
          with_reducible refine hK _ ?_; clear hK K
          try simp only [Act.put, List.setIfInBounds_toArray, List.set_cons_zero, List.set_cons_succ]
          with_reducible refine wpQuiet_step (fun K hK => ?_)
          rw [if_pos (by kernel_rfl)]
          refine oq_mv _ rfl (.slice (some ⟨b, off, none⟩) k c) (by kernel_rfl) ?_
          with_reducible refine hK _ ?_; clear hK K
          try simp only [Act.put, List.setIfInBounds_toArray, List.set_cons_zero, List.set_cons_succ]
          with_reducible refine wpQuiet_step (fun K hK => ?_)
          rw [if_pos (by kernel_rfl)]
          refine oq_mv _ rfl (.int .i64 (i : Int)) (by kernel_rfl) ?_
          with_reducible refine hK _ ?_; clear hK K
          try simp only [Act.put, List.setIfInBounds_toArray, List.set_cons_zero, List.set_cons_succ]
          with_reducible refine wpQuiet_step (fun K hK => ?_)
          rw [if_pos (by kernel_rfl)]
          refine oq_subI _ _ _ rfl ((i : Int)) (1) ((i1 : Int)) (by kernel_rfl) (by kernel_rfl) (by rw [y1, y2]) ?_
          with_reducible refine hK _ ?_; clear hK K
          try simp only [Act.put, List.setIfInBounds_toArray, List.set_cons_zero, List.set_cons_succ]
          with_reducible refine wpQuiet_step (fun K hK => ?_)
          rw [if_pos (by kernel_rfl)]
          refine oq_ix 39 _ _ rfl (.slice (some ⟨b, off, none⟩) k c) (.int .i64 (i1 : Int)) (.pointer (some ⟨b, off + i1 * 22, none⟩)) (by kernel_rfl) (by kernel_rfl) (fun w => run_ixe b off k c i1 _ rfl (HI.out.2) w) ?_
          with_reducible refine hK _ ?_; clear hK K
          try simp only [Act.put, List.setIfInBounds_toArray, List.set_cons_zero, List.set_cons_succ]
          with_reducible refine wpQuiet_step (fun K hK => ?_)
          rw [if_pos (by kernel_rfl)]
          refine oq_load 79 _ rfl ⟨b, off + i1 * 22, none⟩ (by kernel_rfl) (eV y) (fun V hV => HQ1.out V hV) ?_
          with_reducible refine hK _ ?_; clear hK K
          try simp only [Act.put, List.setIfInBounds_toArray, List.set_cons_zero, List.set_cons_succ]
          with_reducible refine wpQuiet_step (fun K hK => ?_)
          rw [if_pos (by kernel_rfl)]
          refine oq_call2 39 c39 _ _ _ rfl (eV x) (eV y) (by kernel_rfl) (by kernel_rfl) (.int .i64 p) (fun V hV => HC2.out V hV) ?_
          with_reducible refine hK _ ?_; clear hK K
          try simp only [Act.put, List.setIfInBounds_toArray, List.set_cons_zero, List.set_cons_succ]
          with_reducible refine wpQuiet_step (fun K hK => ?_)
          rw [if_pos (by kernel_rfl)]
          refine oq_mv _ rfl (.slice (some ⟨b, off, none⟩) k c) (by kernel_rfl) ?_
          with_reducible refine hK _ ?_; clear hK K
          try simp only [Act.put, List.setIfInBounds_toArray, List.set_cons_zero, List.set_cons_succ]
          with_reducible refine wpQuiet_step (fun K hK => ?_)
          rw [if_pos (by kernel_rfl)]
          refine oq_mv _ rfl (.int .i64 (i : Int)) (by kernel_rfl) ?_
          with_reducible refine hK _ ?_; clear hK K
          try simp only [Act.put, List.setIfInBounds_toArray, List.set_cons_zero, List.set_cons_succ]
          with_reducible refine wpQuiet_step (fun K hK => ?_)
          rw [if_pos (by kernel_rfl)]
          refine oq_subI _ _ _ rfl ((i : Int)) (1) ((i1 : Int)) (by kernel_rfl) (by kernel_rfl) (by rw [y1, y2]) ?_
          with_reducible refine hK _ ?_; clear hK K
          try simp only [Act.put, List.setIfInBounds_toArray, List.set_cons_zero, List.set_cons_succ]
          with_reducible refine wpQuiet_step (fun K hK => ?_)
          rw [if_pos (by kernel_rfl)]
          refine oq_ix 39 _ _ rfl (.slice (some ⟨b, off, none⟩) k c) (.int .i64 (i1 : Int)) (.pointer (some ⟨b, off + i1 * 22, none⟩)) (by kernel_rfl) (by kernel_rfl) (fun w => run_ixe b off k c i1 _ rfl (HI.out.2) w) ?_
          with_reducible refine hK _ ?_; clear hK K
          try simp only [Act.put, List.setIfInBounds_toArray, List.set_cons_zero, List.set_cons_succ]
          with_reducible refine wpQuiet_step (fun K hK => ?_)
          rw [if_pos (by kernel_rfl)]
          refine oq_load 79 _ rfl ⟨b, off + i1 * 22, none⟩ (by kernel_rfl) (eV y) (fun V hV => HQ1.out V hV) ?_
          with_reducible refine hK _ ?_; clear hK K
          try simp only [Act.put, List.setIfInBounds_toArray, List.set_cons_zero, List.set_cons_succ]
          with_reducible refine wpQuiet_step (fun K hK => ?_)
          rw [if_pos (by kernel_rfl)]
          refine oq_mv _ rfl (.slice (some ⟨b, off, none⟩) k c) (by kernel_rfl) ?_
          with_reducible refine hK _ ?_; clear hK K
          try simp only [Act.put, List.setIfInBounds_toArray, List.set_cons_zero, List.set_cons_succ]
          with_reducible refine wpQuiet_step (fun K hK => ?_)
          rw [if_pos (by kernel_rfl)]
          refine oq_mv _ rfl (.int .i64 (i : Int)) (by kernel_rfl) ?_
          with_reducible refine hK _ ?_; clear hK K
          try simp only [Act.put, List.setIfInBounds_toArray, List.set_cons_zero, List.set_cons_succ]
          with_reducible refine wpQuiet_step (fun K hK => ?_)
          rw [if_pos (by kernel_rfl)]
          refine oq_ix 39 _ _ rfl (.slice (some ⟨b, off, none⟩) k c) (.int .i64 (i : Int)) (.pointer (some ⟨b, off + i * 22, none⟩)) (by kernel_rfl) (by kernel_rfl) (fun w => run_ixe b off k c i _ rfl (HI.out.1) w) ?_
          with_reducible refine hK _ ?_; clear hK K
          try simp only [Act.put, List.setIfInBounds_toArray, List.set_cons_zero, List.set_cons_succ]
          with_reducible refine wpQuiet_step (fun K hK => ?_)
          rw [if_pos (by kernel_rfl)]
          refine oq_load 79 _ rfl ⟨b, off + i * 22, none⟩ (by kernel_rfl) (eV x) (fun V hV => HQ2.out V hV) ?_
          with_reducible refine hK _ ?_; clear hK K
          try simp only [Act.put, List.setIfInBounds_toArray, List.set_cons_zero, List.set_cons_succ]
          with_reducible refine wpQuiet_step (fun K hK => ?_)
          rw [if_pos (by kernel_rfl)]
          refine oq_call2 39 c39 _ _ _ rfl (eV y) (eV x) (by kernel_rfl) (by kernel_rfl) (.int .i64 q) (fun V hV => HC1.out V hV) ?_
          with_reducible refine hK _ ?_; clear hK K
          try simp only [Act.put, List.setIfInBounds_toArray, List.set_cons_zero, List.set_cons_succ]
          with_reducible refine wpQuiet_step (fun K hK => ?_)
          rw [if_pos (by kernel_rfl)]
          refine oq_subI _ _ _ rfl (0) (q) (p) (by kernel_rfl) (by kernel_rfl) hw1 ?_
          with_reducible refine hK _ ?_; clear hK K
          try simp only [Act.put, List.setIfInBounds_toArray, List.set_cons_zero, List.set_cons_succ]
          with_reducible refine wpQuiet_step (fun K hK => ?_)
          rw [if_pos (by kernel_rfl)]
          refine oq_neqI _ _ _ rfl (p) (by kernel_rfl) (by kernel_rfl) ?_
          with_reducible refine hK _ ?_; clear hK K
          try simp only [Act.put, List.setIfInBounds_toArray, List.set_cons_zero, List.set_cons_succ]
          with_reducible refine wpQuiet_step (fun K hK => ?_)
          rw [if_pos (by kernel_rfl)]
          refine oq_pickF _ _ _ rfl (by kernel_rfl) (.bool false) (by kernel_rfl) ?_
          with_reducible refine hK _ ?_; clear hK K
          try simp only [Act.put, List.setIfInBounds_toArray, List.set_cons_zero, List.set_cons_succ]
          refine wpQuiet_nil ?_
          intro w5 hB5
          have HB5 : Hid (Below w4.heap.size w4 w5) := HBs.out.trans (hB5.mono HBs.out.size)
          clear hB5
          go_wp2_with fail
          exact ⟨⟨i + 1, by simp, by omega, HB5⟩, by simp [intOf]; have := HI.out; omega⟩
        · have hqi : ¬ (i : Int) < (k : Int) := by omega
          have d4 : decide ((i : Int) < (k : Int)) = false := by simp; omega
          have HBW : Hid (Below w.heap.size w wr) := HB4.out.trans (HBs.out.mono HB4.out.size)
          have HRW : Hid (Rd wr o3 n3 q3 X) := HR4.out.keep HBs.out
          clear hik hi1
          by_cases hE0 : E = 0
          · have HE0 : Hid (tE d = 0) := by show _ = _; rw [← HEX.out.1]; exact hE0
            subst hE0
            have HDT : Hid (Calls Tryz.prog 21 #[.slice o3 n3 q3] wr fun ex w' => ∃ v, ex = .returned (.tuple #[v, .int .i64 0]) ∧ De (wr.heap.size + 1) w' v d ∧ Below wr.heap.size wr w') := decTree_enc o3 n3 q3 d wr (HT.out wr HBW.out) (HES.out wr HBW.out).ok HE0.out (by have := HRW.out; rwa [HEX.out.2] at this)
            go_wp2_with fail
            refine HDT.out.mono ?_
            rintro e w6 ⟨v6, rfl, de6, b6⟩
            have HB6 : Hid (Below w.heap.size w w6) := HBW.out.trans (b6.mono HBW.out.size)
            have HD6 : Hid (Es w6 v6 d) := de6.es
            obtain ⟨a6, c6, hv6⟩ := de6.shape
            rw [← HN.out.1] at hv6
            subst hv6
            clear de6 b6
            go_wp2_with fail
            have HP6 : Hid (0 < k → ∃ b6 off6, a6 = some ⟨b6, off6, none⟩ ∧ ∀ V : World, Below w6.heap.size w6 V → ∀ i, i < k → ∀ j, j < 22 → V.cell? ⟨b6, off6 + i * 22 + j, none⟩ = some (ecl d[i]! j)) := fun h0 => by
              obtain ⟨b, off, h1, hb, h2⟩ := HD6.out.cells (by have := HN.out; omega)
              exact ⟨b, off, h1, fun V hV i hi j hj => h2 V (fun k hk => by subst hk; exact hV.block _ hb) i (by have := HN.out; omega) j hj⟩
            go_loopw [12] (fun s12 ws => ∃ i : Nat, s12 = .int .i64 (i : Int) ∧ i ≤ k ∧ Hid (Below w6.heap.size w6 ws)) (fun s12 _ => k - (intOf s12).toNat)
            case atStart => exact ⟨0, rfl, Nat.zero_le _, Below.refl _ _⟩
            case round =>
              obtain ⟨i, rfl, hi1, HBs⟩ := hrel
              by_cases hik : i < k
              · have hqi : (i : Int) < (k : Int) := by omega
                have d5 : decide ((i : Int) < (k : Int)) = true := by simp; omega
                have hwi : IntKind.i64.wrap ((i : Int) + 1) = (i : Int) + 1 := by have := HN.out; rw [IntKind.wrap_i64]; omega
                obtain ⟨b, off, rfl, hc0⟩ := HP.out (by omega)
                obtain ⟨b6, off6, rfl, hc6⟩ := HP6.out (by omega)
                have HI : Hid (i < k) := hik
                obtain ⟨x, hx⟩ : ∃ x, d[i]! = x := ⟨_, rfl⟩
                have hxi : IsId x.id := by rw [← hx]; exact HOK.out i hik
                have HQ1 : Hid (∀ V, Below wr.heap.size wr V → (loadVar 79 ⟨b, off + i * 22, none⟩).run Tryz.prog V = .ok (eV x) V) := fun V hV => ld_ent 79 Tryz.underlying79 rfl size79 (fun j hj => by
                  rw [← hx]
                  have h6 := HBs.out.trans (hV.mono HBs.out.size)
                  exact hc0 V (HB6.out.trans (h6.mono HB6.out.size)) i HI.out j hj) hxi
                have HQ2 : Hid (∀ V, Below wr.heap.size wr V → (loadVar 79 ⟨b6, off6 + i * 22, none⟩).run Tryz.prog V = .ok (eV x) V) := fun V hV => ld_ent 79 Tryz.underlying79 rfl size79 (fun j hj => by
                  rw [← hx]
                  exact hc6 V (HBs.out.trans (hV.mono HBs.out.size)) i HI.out j hj) hxi
                clear hc0 hc6 hx hxi hik hi1
                go_wp2_with fail
                refine wp_region_quiet (C := fun V => Below wr.heap.size wr V) (by kernel_rfl) (by kernel_rfl) (Below.refl _ _).drew ?_
                with_reducible refine wpQuiet_step (fun K hK => ?_)
                rw [if_pos (by kernel_rfl)]
                refine oq_mv _ rfl (.slice (some ⟨b6, off6, none⟩) k c6) (by kernel_rfl) ?_
                with_reducible refine hK _ ?_; clear hK K
                try simp only [Act.put, List.setIfInBounds_toArray, List.set_cons_zero, List.set_cons_succ]
                with_reducible refine wpQuiet_step (fun K hK => ?_)
                rw [if_pos (by kernel_rfl)]
                refine oq_mv _ rfl (.int .i64 (i : Int)) (by kernel_rfl) ?_
                with_reducible refine hK _ ?_; clear hK K
                try simp only [Act.put, List.setIfInBounds_toArray, List.set_cons_zero, List.set_cons_succ]
                with_reducible refine wpQuiet_step (fun K hK => ?_)
                rw [if_pos (by kernel_rfl)]
                refine oq_ix 39 _ _ rfl (.slice (some ⟨b6, off6, none⟩) k c6) (.int .i64 (i : Int)) (.pointer (some ⟨b6, off6 + i * 22, none⟩)) (by kernel_rfl) (by kernel_rfl) (fun w => run_ixe b6 off6 k c6 i _ rfl (HI.out) w) ?_
                with_reducible refine hK _ ?_; clear hK K
                try simp only [Act.put, List.setIfInBounds_toArray, List.set_cons_zero, List.set_cons_succ]
                with_reducible refine wpQuiet_step (fun K hK => ?_)
                rw [if_pos (by kernel_rfl)]
                refine oq_load 79 _ rfl ⟨b6, off6 + i * 22, none⟩ (by kernel_rfl) (eV x) (fun V hV => HQ2.out V hV) ?_
                with_reducible refine hK _ ?_; clear hK K
                try simp only [Act.put, List.setIfInBounds_toArray, List.set_cons_zero, List.set_cons_succ]
                with_reducible refine wpQuiet_step (fun K hK => ?_)
                rw [if_pos (by kernel_rfl)]
                refine oq_mv _ rfl (.slice (some ⟨b, off, none⟩) k c) (by kernel_rfl) ?_
                with_reducible refine hK _ ?_; clear hK K
                try simp only [Act.put, List.setIfInBounds_toArray, List.set_cons_zero, List.set_cons_succ]
                with_reducible refine wpQuiet_step (fun K hK => ?_)
                rw [if_pos (by kernel_rfl)]
                refine oq_mv _ rfl (.int .i64 (i : Int)) (by kernel_rfl) ?_
                with_reducible refine hK _ ?_; clear hK K
                try simp only [Act.put, List.setIfInBounds_toArray, List.set_cons_zero, List.set_cons_succ]
                with_reducible refine wpQuiet_step (fun K hK => ?_)
                rw [if_pos (by kernel_rfl)]
                refine oq_ix 39 _ _ rfl (.slice (some ⟨b, off, none⟩) k c) (.int .i64 (i : Int)) (.pointer (some ⟨b, off + i * 22, none⟩)) (by kernel_rfl) (by kernel_rfl) (fun w => run_ixe b off k c i _ rfl (HI.out) w) ?_
                with_reducible refine hK _ ?_; clear hK K
                try simp only [Act.put, List.setIfInBounds_toArray, List.set_cons_zero, List.set_cons_succ]
                with_reducible refine wpQuiet_step (fun K hK => ?_)
                rw [if_pos (by kernel_rfl)]
                refine oq_load 79 _ rfl ⟨b, off + i * 22, none⟩ (by kernel_rfl) (eV x) (fun V hV => HQ1.out V hV) ?_
                with_reducible refine hK _ ?_; clear hK K
                try simp only [Act.put, List.setIfInBounds_toArray, List.set_cons_zero, List.set_cons_succ]
                with_reducible refine wpQuiet_step (fun K hK => ?_)
                rw [if_pos (by kernel_rfl)]
                refine oq_bin .neq 79 _ _ _ rfl (vals (ecl x) 22).toArray (vals (ecl x) 22).toArray (by kernel_rfl) (by kernel_rfl) (.bool false) (by kernel_rfl) (fun V _ => neq_en x V) ?_
                with_reducible refine hK _ ?_; clear hK K
                try simp only [Act.put, List.setIfInBounds_toArray, List.set_cons_zero, List.set_cons_succ]
                refine wpQuiet_nil ?_
                intro w7 hB7
                have HB7 : Hid (Below w6.heap.size w6 w7) := HBs.out.trans (hB7.mono HBs.out.size)
                clear hB7
                go_wp2_with fail
                exact ⟨⟨i + 1, by simp, HI.out, HB7⟩, by simp [intOf]; have := HI.out; omega⟩
              · obtain rfl : i = k := by omega
                have hqi : ¬ (i : Int) < (i : Int) := by omega
                have d5 : decide ((i : Int) < (i : Int)) = false := by simp
                go_wp2_with fail
                go_ret
                exact ⟨rfl, HB6.out.trans (HBs.out.mono HB6.out.size)⟩
          · have f0 : (E == 0) = false := by simpa using hE0
            go_wp2_with fail
            go_ret
            exact ⟨rfl, HBW.out⟩


set_option maxRecDepth 100000 in
theorem trees_skipA (ao : Option Addr) (n c : Nat) (w : World) (hg : Gs w) (hA : 40 < n) (hB : n ≤ 512) :
    Calls Tryz.prog 5 #[.slice ao n c] w fun e w' => e = .returned (.bool true) ∧ Below w.heap.size w w' := by
  have z1 : decide ((40 : Int) < (n : Int)) = true := by simp; omega
  have z2 : decide (40 < n) = true := by simp; omega
  have z5 : decide ((n : Int) ≤ (512 : Int)) = true := by simp; omega
  have z6 : decide (n ≤ 512) = true := by simp; omega
  have hkn := known_yes w hg
  clear hA hB hg
  go_enter Tryz.func5, Tryz.ntmps5
  go_wp2_with fail
  refine hkn.mono ?_
  rintro e w1 ⟨rfl, b1⟩
  have HB1 : Hid (Below w.heap.size w w1) := b1
  clear hkn b1
  go_wp2_with fail
  go_ret
  exact ⟨rfl, HB1.out⟩

set_option maxRecDepth 100000 in
theorem trees_skipB (ao : Option Addr) (n c : Nat) (w : World) (hg : Gs w) (hA : 600 < n) :
    Calls Tryz.prog 5 #[.slice ao n c] w fun e w' => e = .returned (.bool true) ∧ Below w.heap.size w w' := by
  have z1 : decide ((40 : Int) < (n : Int)) = true := by simp; omega
  have z2 : decide (40 < n) = true := by simp; omega
  have z5 : decide ((n : Int) ≤ (512 : Int)) = false := by simp; omega
  have z6 : decide (n ≤ 512) = false := by simp; omega
  have z3 : decide ((600 : Int) < (n : Int)) = true := by simp; omega
  have z4 : decide (600 < n) = true := by simp; omega
  have hkn := known_yes w hg
  clear hA hg
  go_enter Tryz.func5, Tryz.ntmps5
  go_wp2_with fail
  refine hkn.mono ?_
  rintro e w1 ⟨rfl, b1⟩
  have HB1 : Hid (Below w.heap.size w w1) := b1
  clear hkn b1
  go_wp2_with fail
  go_ret
  exact ⟨rfl, HB1.out⟩

theorem trees_any (ao : Option Addr) (n c : Nat) (d : Array En) (w : World) (h : Ew w (.slice ao n c) d) (ht : Ts w) (hn : n = d.size) :
    Calls Tryz.prog 5 #[.slice ao n c] w fun e w' => e = .returned (.bool true) ∧ Below w.heap.size w w' := by
  by_cases h1 : n ≤ 40
  · exact trees_few ao n c d w h ht hn h1
  by_cases h2 : n ≤ 512
  · exact trees_skipA ao n c w ht.gs (by omega) h2
  by_cases h3 : n ≤ 600
  · exact trees_mid ao n c d w h ht hn (by omega) h3
  exact trees_skipB ao n c w ht.gs (by omega)


end Go.Proofs.YtojgablpjdlegaaGreatDoor
