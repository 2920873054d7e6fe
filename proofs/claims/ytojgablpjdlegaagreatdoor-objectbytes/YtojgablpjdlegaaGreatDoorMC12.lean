/- Rcn, Rtg, Rth, Cma. -/
import Derived.Test.YtojgablpjdlegaaGreatDoorMC11
import Derived.Test.YtojgablpjdlegaaGreatDoorMC10
/- The document's EncodeCommit, of a right commit. -/
namespace Go.Proofs.YtojgablpjdlegaaGreatDoor
open Go.RowKit Go.Shelf

set_option maxRecDepth 100000 in
set_option maxHeartbeats 16000000 in
theorem rencCommit_any (T : List Int) (v : Value) (A C M : List UInt8) (d : Array (List Int)) (B : Nat) (w : World) (hT : IsId T) (hv : Dn B w v d) (hM : M.length ≤ 100000) (hm : mb A C d.toList = true) :
    Calls Tryz.prog 42 #[cmv T v A C M] w fun e w' => ∃ ao n c, e = .returned (.tuple #[.slice ao n c, .int .i64 (if (enc T d.toList A C M).length ≤ 16384 then 0 else 5)]) ∧ Rd w' ao n c (if (enc T d.toList A C M).length ≤ 16384 then tn (enc T d.toList A C M) else []) ∧ Below w.heap.size w w' := by
  obtain ⟨E, hE⟩ : ∃ E : Int, E = if (enc T d.toList A C M).length ≤ 16384 then 0 else 5 := ⟨_, rfl⟩
  obtain ⟨X, hX⟩ : ∃ X : List Int, X = if (enc T d.toList A C M).length ≤ 16384 then tn (enc T d.toList A C M) else [] := ⟨_, rfl⟩
  rw [← hE, ← hX]
  have HEX : Hid ((E = if (enc T d.toList A C M).length ≤ 16384 then 0 else 5) ∧ X = if (enc T d.toList A C M).length ≤ 16384 then tn (enc T d.toList A C M) else []) := ⟨hE, hX⟩
  clear hE hX
  obtain ⟨hta, htc, hd5, hnd⟩ := mb_parts hm
  rw [Array.length_toList] at hd5
  have hA := txt_len A hta
  have hC := txt_len C htc
  have hz := zero52
  obtain ⟨ao, cap, hve⟩ := hv.shape
  obtain ⟨n, hn⟩ : ∃ n, n = d.size := ⟨_, rfl⟩
  rw [← hn] at hve hd5
  subst hve
  obtain ⟨W, hW⟩ : ∃ W, W = w.alloc (Obj.cells (vals (cf T (.slice ao n cap) A C M) 24).toArray 52) := ⟨_, rfl⟩
  have bW : Below w.heap.size w W := by rw [hW]; exact new_below _ _
  have rW : W.rowIs w.heap.size 52 24 (cf T (.slice ao n cap) A C M) := by rw [hW]; exact rowIs_vals _ _ _ _
  have HB : Hid (Below w.heap.size w W) := bW
  have hv20 : (vals (cf T (.slice ao n cap) A C M) 24)[20]? = some (.slice ao n cap) := vals_get (cf T (.slice ao n cap) A C M) 24 20 (by omega)
  have HR : Hid (∀ V, Below W.heap.size W V → V.cell? ⟨w.heap.size, 20, none⟩ = some (.slice ao n cap) ∧ V.cell? ⟨w.heap.size, 21, none⟩ = some (sv A) ∧ V.cell? ⟨w.heap.size, 22, none⟩ = some (sv C) ∧ V.cell? ⟨w.heap.size, 23, none⟩ = some (sv M)) := fun V hV => by
    have h := rowIs_fr (P := fun _ => False) rW (Fr.ofBelow hV) (fun h => h)
    exact ⟨h.cell (i := 20) (by omega), h.cell (i := 21) (by omega), h.cell (i := 22) (by omega), h.cell (i := 23) (by omega)⟩
  have HLT : Hid (∀ V, Below W.heap.size W V → (loadVar 26 ⟨w.heap.size, 0, none⟩).run Tryz.prog V = .ok (idv T) V) := fun V hV => by
    have h0 := rowIs_fr (P := fun _ => False) rW (Fr.ofBelow hV) (fun h => h)
    have h := load_mid (P := Tryz.prog) (o := 0) 26 _ h0 20 (by omega) Tryz.underlying26 rfl (by kernel_rfl)
    rw [row_congr (fun j => cf T (.slice ao n cap) A C M (0 + j)) (cl T) 20 (fun j hj => by unfold cf; rw [Nat.zero_add, if_pos hj])] at h
    exact h
  have HP : Hid (0 < n → ∃ b, ao = some ⟨b, 0, none⟩ ∧ ∀ V, Below W.heap.size W V → ∀ i, i < n → (loadVar 26 ⟨b, i * 20, none⟩).run Tryz.prog V = .ok (idv d[i]!) V) := fun h0 => by
    obtain ⟨b, c2, e, _, _, hx⟩ := hv.row (by omega)
    injection e with e1 e2 e3
    exact ⟨b, e1, fun V hV i hi => ((hx.keep bW).keep hV).load i (by omega)⟩
  have HID : Hid (∀ i, i < n → IsId d[i]!) := fun i hi => hv.ids i (by omega)
  have HN : Hid (n = d.size ∧ n ≤ 512) := ⟨hn, hd5⟩
  have HBD : Hid (A.length ≤ 200 ∧ C.length ≤ 200 ∧ M.length ≤ 100000 ∧ IsId T) := ⟨hA, hC, hM, hT⟩
  have htw := twice_any B (.slice ao n cap) d W (hv.keep bW) (by omega)
  rw [decide_eq_false (not_not_intro hnd)] at htw
  have htA := fun V => rtext_any A 200 V (by omega)
  have htC := fun V => rtext_any C 200 V (by omega)
  rw [hta] at htA
  rw [htc] at htC
  have d1 : decide ((512 : Int) < n) = false := by simp; omega
  have d2 : decide (512 < n) = false := by simp; omega
  have hhx0 := fun V => rhex_any T hT V
  obtain ⟨y, hy⟩ : ∃ y, y = tb (hx T) := ⟨_, rfl⟩
  have HY : Hid (y = tb (hx T)) := hy
  have HHX : Hid (∀ V, Calls Tryz.prog 78 #[idv T] V fun e w' => e = .returned (sv y) ∧ Below V.heap.size V w') := fun V => by
    have h := hhx0 V
    rw [tb_sv, ← hy] at h
    exact h
  have hyl : y.length = 40 := by rw [hy]; exact hex_len T hT
  clear bW hA hC rW hv hm hM hT hta htc hnd hd5 hn hhx0 hy
  go_enter Tryz.func42, Tryz.ntmps42
  go_wp2_with (first
    | (go_at_call 79; refine (nl_any w2).mono ?_; rintro e w3 ⟨rfl, b3⟩; have HB3 : Hid (Below W.heap.size W w3) := HB2.out.trans (b3.mono HB2.out.size); obtain ⟨g20, _⟩ := HR.out w3 HB3.out; clear b3)
    | (refine wpList_add2 rfl _ _ _ rfl _ _ rfl rfl _ (by first | assumption | exact rfl) (by simp only [List.length_append, List.length_cons, List.length_nil]; omega) ?_; intro z hz)
    | (go_at_call 78; refine (HHX.out w1).mono ?_; rintro e w2 ⟨rfl, b2⟩; have HB2 : Hid (Below W.heap.size W w2) := HB1.out.trans (b2.mono HB1.out.size); clear b2)
    | (refine wpList_ldv rfl 26 _ rfl ⟨w.heap.size, 0, none⟩ rfl (idv T) (HLT.out w1 HB1.out) ?_)
    | (go_at_call 77; refine (htA w1).mono ?_; rintro e w3 ⟨rfl, hw3⟩; subst w3; clear htA)
    | (go_at_call 77; refine (htC w1).mono ?_; rintro e w3 ⟨rfl, hw3⟩; subst w3; clear htC)
    | (go_at_call 76; rw [← hW]; refine htw.mono ?_; rintro e w1 ⟨rfl, b1⟩; have HB1 : Hid (Below W.heap.size W w1) := b1; obtain ⟨c20, c21, c22, c23⟩ := HR.out w1 b1; clear b1 hW htw))
  have HZ0 : Hid (wls ((tre, y) :: (d.toList.take 0).map pl) = z) := by
    show _ = z
    rw [hz.out]
    simp [wls, wln]
  clear hz
  have HYL : Hid (y.length = 40) := hyl
  clear hyl
  go_loopw [4, 5] (fun s4 s5 wr => ∃ (i : Nat) (z : List UInt8), s5 = .int .i64 (i : Int) ∧ i ≤ n ∧ s4 = sv z ∧ Hid (wls ((tre, y) :: (d.toList.take i).map pl) = z) ∧ Hid (Below W.heap.size W wr)) (fun _ s5 _ => n - (intOf s5).toNat)
  case atStart => exact ⟨0, z, rfl, Nat.zero_le _, rfl, HZ0, HB3⟩
  case round =>
    clear HZ0
    rename_i z0
    obtain ⟨i, z, rfl, hin, rfl, HZ, HBW⟩ := hrel
    obtain ⟨r20, r21, r22, r23⟩ := HR.out wr HBW.out
    have hids : ∀ x ∈ d.toList.take i, IsId x := fun x hx => by
      have hx2 := List.mem_of_mem_take hx
      obtain ⟨j, hj, rfl⟩ := List.mem_iff_getElem.1 hx2
      have hj2 : j < d.size := by simpa using hj
      have := HID.out j (by rw [HN.out.1]; exact hj2)
      rwa [getElem!_pos d j hj2, ← Array.getElem_toList] at this
    have hzl : z.length ≤ 100000 := by
      rw [← HZ.out, wls, List.length_append, wls_pl _ hids]
      have h1 := HYL.out
      have h2 := HN.out
      have h3 : (d.toList.take i).length ≤ i := by rw [List.length_take]; omega
      simp only [wln, List.length_append, List.length_cons, List.length_nil, h1]
      omega
    have HZZ : Hid (z = z) := rfl
    clear hids
    by_cases hlt : i < n
    · have hq : (i : Int) < (n : Int) := by omega
      have d3 : decide ((i : Int) < (n : Int)) = true := by simp; omega
      have hwk : IntKind.i64.wrap ((i : Int) + 1) = (i : Int) + 1 := by have := HN.out; rw [IntKind.wrap_i64]; omega
      obtain ⟨b, rfl, hld⟩ := HP.out (by omega)
      have hl := hld wr HBW.out i hlt
      have HXI := HID.out i hlt
      obtain ⟨x, hx⟩ : ∃ x, d[i]! = x := ⟨_, rfl⟩
      rw [hx] at hl HXI
      have HX : Hid (IsId x ∧ d[i]! = x) := ⟨HXI, hx⟩
      have hhx0 := fun V => rhex_any x HXI V
      obtain ⟨yx, hyx⟩ : ∃ yx, yx = tb (Go.Proofs.YtojgablpjdlegaaGreatDoor.hx x) := ⟨_, rfl⟩
      have HYX : Hid (yx = tb (Go.Proofs.YtojgablpjdlegaaGreatDoor.hx x)) := hyx
      have HHX2 : Hid (∀ V, Calls Tryz.prog 78 #[idv x] V fun e w' => e = .returned (sv yx) ∧ Below V.heap.size V w') := fun V => by
        have h := hhx0 V
        rw [tb_sv, ← hyx] at h
        exact h
      have hyl : yx.length = 40 := by rw [hyx]; exact hex_len x HXI
      have HLT2 : Hid (i < n) := hlt
      clear hld hx HXI hhx0 hyx hlt hin
      go_wp2_with (first
        | (go_at_call 79; refine (nl_any w5).mono ?_; rintro e w6 ⟨rfl, b6⟩; have HB6 : Hid (Below W.heap.size W w6) := HB5.out.trans (b6.mono HB5.out.size); clear b6)
        | (refine wpList_add2 rfl _ _ _ rfl _ _ rfl rfl _ (by first | assumption | exact rfl) (by simp only [List.length_append, List.length_cons, List.length_nil]; omega) ?_; intro z9 hz9)
        | (go_at_call 78; refine (HHX2.out wr).mono ?_; rintro e w5 ⟨rfl, b5⟩; have HB5 : Hid (Below W.heap.size W w5) := HBW.out.trans (b5.mono HBW.out.size); clear b5)
        | (refine wpList_ldv rfl 26 _ rfl ⟨b, i * 20, none⟩ rfl (idv x) hl ?_))
      have hdl : (d.toList.take (i + 1)).map pl = (d.toList.take i).map pl ++ [(pnt, yx)] := by
        have hi2 : i < d.toList.length := by have h1 := HLT2.out; have h2 := HN.out.1; rw [Array.length_toList]; omega
        have hi3 : i < d.size := by simpa using hi2
        rw [List.take_succ_eq_append_getElem hi2, List.map_append, List.map_cons, List.map_nil]
        have e1 : d.toList[i] = x := by
          rw [← HX.out.2, getElem!_pos d i hi3, Array.getElem_toList]
        rw [e1]
        unfold pl
        rw [HYX.out]
      refine ⟨⟨i + 1, z9, by simp, HLT2.out, rfl, ?_, HB6⟩, by simp [intOf]; have := HLT2.out; omega⟩
      show _ = z9
      rw [hz9.out, hdl, ← HZ.out]
      simp [wls, wls_app, wln, List.append_assoc]
    · obtain rfl : i = n := by omega
      have hq : ¬ (i : Int) < (i : Int) := by omega
      have d3 : decide ((i : Int) < (i : Int)) = false := by simp
      have hfe : d.toList.take i = d.toList := List.take_of_length_le (by have := HN.out; rw [Array.length_toList]; omega)
      rw [hfe] at HZ
      clear hfe hlt hin
      go_wp2_with fail
      have HZ9 : Hid (z = z) := rfl
      obtain ⟨hbA, hbC, hbM, _⟩ := HBD.out
      have c79 : Hid (∀ vs w, (callFunc 79 vs).run Tryz.prog w = .ok (.enter 79 vs) w) := fun vs w => by simp [go_sem]
      have HR2 : Hid (∀ V, Below wr.heap.size wr V → V.cell? ⟨w.heap.size, 21, none⟩ = some (sv A) ∧ V.cell? ⟨w.heap.size, 22, none⟩ = some (sv C) ∧ V.cell? ⟨w.heap.size, 23, none⟩ = some (sv M)) := fun V hV => (HR.out V (HBW.out.trans (hV.mono HBW.out.size))).2
      refine wp_region_quiet (C := fun V => Below wr.heap.size wr V) (by kernel_rfl) (by kernel_rfl) (Below.refl _ _).drew ?_
      repeat
        refine wpQuiet_step (fun K hK => ?_)
        first
          | (refine q_add2 (by rfl) _ _ _ rfl _ _ rfl rfl _ (by first | assumption | exact rfl) (by simp only [List.length_append, List.length_cons, List.length_nil]; omega) (fun z8 hz8 => hK _ ?_); clear hK K)
          | (refine q_call0 (by rfl) 79 c79.out _ rfl (sv [10]) (fun V hV => (nl_any V).mono (fun e w' ⟨h1, h2⟩ => ⟨h1, hV.trans (h2.mono hV.size)⟩)) (hK _ ?_); clear hK K)
          | (refine q_load (by rfl) 9 _ rfl ⟨w.heap.size, 21, none⟩ rfl (sv A) (fun V hV => ld9 V _ _ (HR2.out V hV).1) (hK _ ?_); clear hK K)
          | (refine q_load (by rfl) 9 _ rfl ⟨w.heap.size, 22, none⟩ rfl (sv C) (fun V hV => ld9 V _ _ (HR2.out V hV).2.1) (hK _ ?_); clear hK K)
          | (refine q_load (by rfl) 9 _ rfl ⟨w.heap.size, 23, none⟩ rfl (sv M) (fun V hV => ld9 V _ _ (HR2.out V hV).2.2) (hK _ ?_); clear hK K)
          | (go_simp; refine ⟨_, fun wq hs => rfl, hK _ ?_⟩; clear hK K)
      refine wpQuiet_nil ?_
      intro w2 hB2
      have HB2' : Hid (Below w.heap.size w w2) := HB.out.trans ((HBW.out.trans (hB2.mono HBW.out.size)).mono HB.out.size)
      clear hB2 hbA hbC hbM
      have HZE : Hid (z8 = enc T d.toList A C M) := by
        show z8 = _
        rw [hz8.out, ← HZ.out, HY.out]
        simp [enc, wls, wls_app, wln, List.append_assoc]
      by_cases hle : z8.length ≤ 16384
      · have d4 : decide ((16384 : Int) < (z8.length : Int)) = false := by simp; omega
        have d5 : decide (16384 < z8.length) = false := by simp; omega
        obtain ⟨e1, e2⟩ := HEX.out
        rw [← HZE.out, if_pos hle] at e1 e2
        subst e1
        have HE2 : Hid (X = tn z8) := e2
        clear hle e2
        go_wp2_with ((refine wpList_cv rfl _ rfl z8 rfl ?_; intro W1 hW1'; have hW1 : Hid (W1 = Lib.bytesWorld w2 5 ⟨z8.toArray⟩) := hW1'; clear hW1'))
        go_ret2
        rw [HE2.out, hW1.out]
        exact ⟨_, _, _, rfl, bw_rd w2 z8, HB2'.out.trans ((bytes_b w2 5 ⟨z8.toArray⟩).mono HB2'.out.size)⟩
      · have d4 : decide ((16384 : Int) < (z8.length : Int)) = true := by simp; omega
        have d5 : decide (16384 < z8.length) = true := by simp; omega
        obtain ⟨e1, e2⟩ := HEX.out
        rw [← HZE.out, if_neg hle] at e1 e2
        subst e1
        have HE2 : Hid (X = []) := e2
        clear hle e2
        go_wp2_with fail
        go_ret2
        rw [HE2.out]
        exact ⟨_, _, _, rfl, Rd.nil _, HB2'.out⟩

end Go.Proofs.YtojgablpjdlegaaGreatDoor

/- The document's EncodeTag. -/
namespace Go.Proofs.YtojgablpjdlegaaGreatDoor
open Go.RowKit Go.Shelf

theorem zero60 (w : World) : (zeroValue 60).run Tryz.prog w = .ok (row (tf z20 0 [] [] []) 24) w := by kernel_rfl

set_option maxRecDepth 100000 in
set_option maxHeartbeats 4000000 in
theorem rencTag_no (x : List Int) (k : Int) (N G M : List UInt8) (w : World) (hN : N.length ≤ 1000000) (hG : G.length ≤ 1000000) (hm : mbT k N G = false) :
    Calls Tryz.prog 45 #[tmv x k N G M] w fun e w' => e = .returned (.tuple #[nlv, .int .i64 1]) ∧ Below w.heap.size w w' := by
  have hz := zero60
  obtain ⟨W, hW⟩ : ∃ W, W = w.alloc (Obj.cells (vals (tf x k N G M) 24).toArray 60) := ⟨_, rfl⟩
  have bW : Below w.heap.size w W := by rw [hW]; exact new_below _ _
  have rW : W.rowIs w.heap.size 60 24 (tf x k N G M) := by rw [hW]; exact rowIs_vals _ _ _ _
  have HB : Hid (Below w.heap.size w W) := bW
  have hv20 : (vals (tf x k N G M) 24)[20]? = some (.int .i64 k) := vals_get (tf x k N G M) 24 20 (by omega)
  have c21 : W.cell? ⟨w.heap.size, 21, none⟩ = some (sv N) := rW.cell (i := 21) (by omega)
  have c22 : W.cell? ⟨w.heap.size, 22, none⟩ = some (sv G) := rW.cell (i := 22) (by omega)
  have hwd := rword_any k W
  have htN := rtext_any N 100 W hN
  have htG := rtext_any G 200 W hG
  have hem := wl_emp k
  obtain ⟨wk, hwk⟩ : ∃ wk, wk = wl k := ⟨_, rfl⟩
  rw [← hwk] at hwd hem
  unfold mbT at hm
  clear bW hN hG rW hwk
  generalize isK k = bk at *
  generalize txtB N 100 = bn at *
  generalize txtB G 200 = bg at *
  cases bk with
  | false =>
    have hem' : wk.isEmpty = true := hem
    clear hm hem
    go_enter Tryz.func45, Tryz.ntmps45
    go_wp2_with (first
      | (go_at_call 16; rw [← hW]; refine hwd.mono ?_; rintro e w2 ⟨rfl, hw2⟩; subst w2; clear hW))
    go_ret2
    exact ⟨rfl, HB.out⟩
  | true =>
    have hem' : wk.isEmpty = false := hem
    cases bn with
    | false =>
      clear hm hem
      go_enter Tryz.func45, Tryz.ntmps45
      go_wp2_with (first
        | (go_at_call 77; refine htN.mono ?_; rintro e w3 ⟨rfl, hw3⟩; subst w3)
        | (go_at_call 16; rw [← hW]; refine hwd.mono ?_; rintro e w2 ⟨rfl, hw2⟩; subst w2; clear hW))
      go_ret2
      exact ⟨rfl, HB.out⟩
    | true =>
      cases bg with
      | false =>
        clear hm hem
        go_enter Tryz.func45, Tryz.ntmps45
        go_wp2_with (first
          | (go_at_call 77; refine htN.mono ?_; rintro e w3 ⟨rfl, hw3⟩; subst w3; clear htN)
          | (go_at_call 77; refine htG.mono ?_; rintro e w3 ⟨rfl, hw3⟩; subst w3)
          | (go_at_call 16; rw [← hW]; refine hwd.mono ?_; rintro e w2 ⟨rfl, hw2⟩; subst w2; clear hW))
        go_ret2
        exact ⟨rfl, HB.out⟩
      | true => exact absurd hm (by simp)

set_option maxRecDepth 100000 in
set_option maxHeartbeats 16000000 in
theorem rencTag_any (x : List Int) (k : Int) (N G M : List UInt8) (w : World) (hx : IsId x) (hM : M.length ≤ 100000) (hm : mbT k N G = true) :
    Calls Tryz.prog 45 #[tmv x k N G M] w fun e w' => ∃ ao n c, e = .returned (.tuple #[.slice ao n c, .int .i64 (if (encT x k N G M).length ≤ 16384 then 0 else 5)]) ∧ Rd w' ao n c (if (encT x k N G M).length ≤ 16384 then tn (encT x k N G M) else []) ∧ Below w.heap.size w w' := by
  obtain ⟨E, hE⟩ : ∃ E : Int, E = if (encT x k N G M).length ≤ 16384 then 0 else 5 := ⟨_, rfl⟩
  obtain ⟨X, hX⟩ : ∃ X : List Int, X = if (encT x k N G M).length ≤ 16384 then tn (encT x k N G M) else [] := ⟨_, rfl⟩
  rw [← hE, ← hX]
  have HEX : Hid ((E = if (encT x k N G M).length ≤ 16384 then 0 else 5) ∧ X = if (encT x k N G M).length ≤ 16384 then tn (encT x k N G M) else []) := ⟨hE, hX⟩
  clear hE hX
  have hparts : isK k = true ∧ txtB N 100 = true ∧ txtB G 200 = true := by
    unfold mbT at hm
    simp at hm
    exact ⟨hm.1, hm.2.1, hm.2.2⟩
  have hNl : N.length ≤ 100 := by
    have := hparts.2.1
    unfold txtB at this
    simp at this
    omega
  have hGl := txt_len G hparts.2.2
  have hz := zero60
  obtain ⟨W, hW⟩ : ∃ W, W = w.alloc (Obj.cells (vals (tf x k N G M) 24).toArray 60) := ⟨_, rfl⟩
  have rW : W.rowIs w.heap.size 60 24 (tf x k N G M) := by rw [hW]; exact rowIs_vals _ _ _ _
  have bW : Below w.heap.size w W := by rw [hW]; exact new_below _ _
  have HR : Hid (∀ V, Below W.heap.size W V → V.rowIs w.heap.size 60 24 (tf x k N G M)) := fun V hV => rowIs_fr (P := fun _ => False) rW (Fr.ofBelow hV) (fun h => h)
  have HRA : Hid (∀ V, Below W.heap.size W V → V.rangeAt w.heap.size 0 (vals (cl x) 20) ∧ V.cell? ⟨w.heap.size, 20, none⟩ = some (.int .i64 k) ∧ V.cell? ⟨w.heap.size, 21, none⟩ = some (sv N) ∧ V.cell? ⟨w.heap.size, 22, none⟩ = some (sv G) ∧ V.cell? ⟨w.heap.size, 23, none⟩ = some (sv M)) := fun V hV => by
    have h := HR.out V hV
    refine ⟨?_, h.cell (i := 20) (by omega), h.cell (i := 21) (by omega), h.cell (i := 22) (by omega), h.cell (i := 23) (by omega)⟩
    have h0 := rangeAt_row h 0 20 (by omega)
    rwa [vals_congr (fun j => tf x k N G M (0 + j)) (cl x) 20 (fun j hj => by unfold tf; rw [Nat.zero_add, if_pos hj])] at h0
  have HB : Hid (Below w.heap.size w W) := bW
  have hv20 : (vals (tf x k N G M) 24)[20]? = some (.int .i64 k) := vals_get (tf x k N G M) 24 20 (by omega)
  have c21 : W.cell? ⟨w.heap.size, 21, none⟩ = some (sv N) := rW.cell (i := 21) (by omega)
  have c22 : W.cell? ⟨w.heap.size, 22, none⟩ = some (sv G) := rW.cell (i := 22) (by omega)
  have htN := rtext_any N 100 W (by omega)
  have htG := rtext_any G 200 W (by omega)
  rw [hparts.2.1] at htN
  rw [hparts.2.2] at htG
  have hem : (wl k).isEmpty = false := by rw [wl_emp, hparts.1]; rfl
  have hwl : (wl k).length ≤ 10 := wl_short k
  have hyl := hex_len x hx
  have hwd0 : ∀ V, Calls Tryz.prog 16 #[.int .i64 k] V fun e w' => e = .returned (sv (wl k)) ∧ w' = V := fun V => rword_any k V
  have hhx0 : ∀ V, Calls Tryz.prog 78 #[idv x] V fun e w' => e = .returned (sv (tb (Go.Proofs.YtojgablpjdlegaaGreatDoor.hx x))) ∧ Below V.heap.size V w' := fun V => by
    have h := rhex_any x hx V
    rw [tb_sv] at h
    exact h
  have HENC : Hid (encT x k N G M = [111, 98, 106, 101, 99, 116, 32] ++ tb (Go.Proofs.YtojgablpjdlegaaGreatDoor.hx x) ++ [10] ++ [116, 121, 112, 101, 32] ++ wl k ++ [10] ++ [116, 97, 103, 32] ++ N ++ [10] ++ [116, 97, 103, 103, 101, 114, 32] ++ G ++ [10] ++ [10] ++ M) := by
    show _ = _
    simp [encT, tls, wls, wln, List.append_assoc]
  obtain ⟨wk, hwk⟩ : ∃ wk, wk = wl k := ⟨_, rfl⟩
  obtain ⟨y, hy⟩ : ∃ y, y = tb (Go.Proofs.YtojgablpjdlegaaGreatDoor.hx x) := ⟨_, rfl⟩
  rw [← hwk] at hwd0 hem hwl HENC
  rw [← hy] at hhx0 hyl HENC
  have HHX : Hid (∀ V, Calls Tryz.prog 78 #[idv x] V fun e w' => e = .returned (sv y) ∧ Below V.heap.size V w') := hhx0
  have HWD : Hid (∀ V, Calls Tryz.prog 16 #[.int .i64 k] V fun e w' => e = .returned (sv wk) ∧ w' = V) := hwd0
  have HLEN : Hid (y.length = 40 ∧ wk.length ≤ 10 ∧ N.length ≤ 100 ∧ G.length ≤ 200 ∧ M.length ≤ 100000) := ⟨hyl, hwl, hNl, hGl, hM⟩
  clear bW hx hm hNl hGl hM hparts rW hhx0 hwd0 hyl hwl hwk hy
  go_enter Tryz.func45, Tryz.ntmps45
  go_wp2_with (first
    | (go_at_call 77; refine htN.mono ?_; rintro e w3 ⟨rfl, hw3⟩; subst w3; clear htN)
    | (go_at_call 77; refine htG.mono ?_; rintro e w3 ⟨rfl, hw3⟩; subst w3; clear htG)
    | (go_at_call 16; rw [← hW]; refine (HWD.out W).mono ?_; rintro e w2 ⟨rfl, hw2⟩; subst w2; clear hW))
  have c78 : Hid (∀ vs w, (callFunc 78 vs).run Tryz.prog w = .ok (.enter 78 vs) w) := fun vs w => by simp [go_sem]
  have c79 : Hid (∀ vs w, (callFunc 79 vs).run Tryz.prog w = .ok (.enter 79 vs) w) := fun vs w => by simp [go_sem]
  have c16 : Hid (∀ vs w, (callFunc 16 vs).run Tryz.prog w = .ok (.enter 16 vs) w) := fun vs w => by simp [go_sem]
  have HL26 : Hid (∀ V, Below W.heap.size W V → (loadVar 26 ⟨w.heap.size, 0, none⟩).run Tryz.prog V = .ok (idv x) V) := fun V hV => by
    have h := load_mid (P := Tryz.prog) (o := 0) 26 _ (HR.out V hV) 20 (by omega) Tryz.underlying26 rfl (by kernel_rfl)
    rw [row_congr (fun j => tf x k N G M (0 + j)) (cl x) 20 (fun j hj => by unfold tf; rw [Nat.zero_add, if_pos hj])] at h
    exact h
  have HL3 : Hid (∀ V, Below W.heap.size W V → (loadVar 3 ⟨w.heap.size, 20, none⟩).run Tryz.prog V = .ok (.int .i64 k) V) := fun V hV => by
    have h := (HRA.out V hV).2.1
    simp [go_sem, h]
  obtain ⟨hl1, hl2, hl3, hl4, hl5⟩ := HLEN.out
  clear c21 c22
  refine wp_region_quiet (C := fun V => Below W.heap.size W V) (by kernel_rfl) (by kernel_rfl) (Below.refl _ _).drew ?_
  repeat
    refine wpQuiet_step (fun K hK => ?_)
    first
      | (refine q_add2 (by rfl) _ _ _ rfl _ _ rfl rfl _ (by first | assumption | exact rfl) (by simp only [List.length_append, List.length_cons, List.length_nil]; omega) (fun z hz => hK _ ?_); clear hK K)
      | (refine q_call0 (by rfl) 79 c79.out _ rfl (sv [10]) (fun V hV => (nl_any V).mono (fun e w' ⟨h1, h2⟩ => ⟨h1, hV.trans (h2.mono hV.size)⟩)) (hK _ ?_); clear hK K)
      | (refine q_call1 (by rfl) 78 c78.out _ _ rfl (idv x) rfl (sv y) (fun V hV => (HHX.out V).mono (fun e w' ⟨h1, h2⟩ => ⟨h1, hV.trans (h2.mono hV.size)⟩)) (hK _ ?_); clear hK K)
      | (refine q_call1 (by rfl) 16 c16.out _ _ rfl (.int .i64 k) rfl (sv wk) (fun V hV => (HWD.out V).mono (fun e w' ⟨h1, h2⟩ => ⟨h1, by rw [h2]; exact hV⟩)) (hK _ ?_); clear hK K)
      | (refine q_load (by rfl) 26 _ rfl ⟨w.heap.size, 0, none⟩ rfl (idv x) (fun V hV => HL26.out V hV) (hK _ ?_); clear hK K)
      | (refine q_load (by rfl) 3 _ rfl ⟨w.heap.size, 20, none⟩ rfl (.int .i64 k) (fun V hV => HL3.out V hV) (hK _ ?_); clear hK K)
      | (refine q_load (by rfl) 9 _ rfl ⟨w.heap.size, 21, none⟩ rfl (sv N) (fun V hV => ld9 V _ _ (HRA.out V hV).2.2.1) (hK _ ?_); clear hK K)
      | (refine q_load (by rfl) 9 _ rfl ⟨w.heap.size, 22, none⟩ rfl (sv G) (fun V hV => ld9 V _ _ (HRA.out V hV).2.2.2.1) (hK _ ?_); clear hK K)
      | (refine q_load (by rfl) 9 _ rfl ⟨w.heap.size, 23, none⟩ rfl (sv M) (fun V hV => ld9 V _ _ (HRA.out V hV).2.2.2.2) (hK _ ?_); clear hK K)
      | (go_simp; refine ⟨_, fun wq hs => rfl, hK _ ?_⟩; clear hK K)
  refine wpQuiet_nil ?_
  intro w2 hB2
  have HB2 : Hid (Below w.heap.size w w2) := HB.out.trans (hB2.mono HB.out.size)
  clear hB2 hl1 hl2 hl3 hl4 hl5 hem
  have HZ : Hid (z = encT x k N G M) := by
    show z = _
    rw [hz.out, HENC.out]
  by_cases hle : z.length ≤ 16384
  · have d1 : decide ((16384 : Int) < (z.length : Int)) = false := by simp; omega
    have d2 : decide (16384 < z.length) = false := by simp; omega
    obtain ⟨e1, e2⟩ := HEX.out
    rw [← HZ.out, if_pos hle] at e1 e2
    subst e1
    have HE2 : Hid (X = tn z) := e2
    clear hle e2
    go_wp2_with ((refine wpList_cv rfl _ rfl z rfl ?_; intro W1 hW1'; have hW1 : Hid (W1 = Lib.bytesWorld w2 5 ⟨z.toArray⟩) := hW1'; clear hW1'))
    go_ret2
    rw [HE2.out, hW1.out]
    exact ⟨_, _, _, rfl, bw_rd w2 z, HB2.out.trans ((bytes_b w2 5 ⟨z.toArray⟩).mono HB2.out.size)⟩
  · have d1 : decide ((16384 : Int) < (z.length : Int)) = true := by simp; omega
    have d2 : decide (16384 < z.length) = true := by simp; omega
    obtain ⟨e1, e2⟩ := HEX.out
    rw [← HZ.out, if_neg hle] at e1 e2
    subst e1
    have HE2 : Hid (X = []) := e2
    clear hle e2
    go_wp2_with fail
    go_ret2
    rw [HE2.out]
    exact ⟨_, _, _, rfl, Rd.nil _, HB2.out⟩

end Go.Proofs.YtojgablpjdlegaaGreatDoor

/- The law's tag: a tag as the document's. -/
namespace Go.Proofs.YtojgablpjdlegaaGreatDoor
open Go.RowKit Go.Shelf

theorem run_b60 (T : List Int) (k : Int) (N G M : List UInt8) (w : World) : (Instr.build 60 #[(0, idv T), (1, .int .i64 k), (2, sv N), (3, sv G), (4, sv M)]).run Tryz.prog w = .ok (tmv T k N G M) w := by kernel_rfl

theorem wpList_b60 {ops : Array Oper} {rest : List Oper} {op : Oper} {a : Act} {w : World} {Q : Exit → Act → World → Prop} (hgd : op.guard = none) (x0 x1 x2 x3 x4 : Operand) (ho : op.op = .build 60 #[(0, x0), (1, x1), (2, x2), (3, x3), (4, x4)]) (T : List Int) (k : Int) (N G M : List UInt8) (h0 : a.eval x0 = idv T) (h1 : a.eval x1 = .int .i64 k) (h2 : a.eval x2 = sv N) (h3 : a.eval x3 = sv G) (h4 : a.eval x4 = sv M)
    (hk : wpList Tryz.prog ops Q rest (a.put op.dst (tmv T k N G M)) w) : wpList Tryz.prog ops Q (op :: rest) a w := by
  refine wpList_plain hgd fun K hK => ?_
  have h := run_b60 T k N G M w
  unfold Oper.wp
  simp only [execOp, ho, List.map_toArray, List.map_cons, List.map_nil, h0, h1, h2, h3, h4, Sem.run_bind, h, Result.andThen_ok, Sem.run_pure]
  exact hK _ _ hk

set_option maxRecDepth 100000 in
set_option maxHeartbeats 4000000 in
theorem tag_any (T : List Int) (k : Int) (N G M : List UInt8) (w : World) : Calls Tryz.prog 28 #[tmv T k N G M] w fun e w' => e = .returned (tmv T k N G M) ∧ Below w.heap.size w w' := by
  have hz := zero56
  have hz2 := zero60
  obtain ⟨W, hW⟩ : ∃ W, W = (w.alloc (Obj.cells (vals (tf T k N G M) 24).toArray 56)).alloc (Obj.cells (vals (tf z20 0 [] [] []) 24).toArray 60) := ⟨_, rfl⟩
  have b0 := new_below w (Obj.cells (vals (tf T k N G M) 24).toArray 56)
  have bW : Below w.heap.size w W := by rw [hW]; exact b0.alloc b0.size _
  have rW : W.rowIs w.heap.size 56 24 (tf T k N G M) := by rw [hW]; exact rowIs_fr (P := fun _ => False) (rowIs_vals w _ 24 56) (Fr.ofBelow (new_below _ _)) (fun h => h)
  have r2 : W.rowIs (w.heap.size + 1) 60 24 (tf z20 0 [] [] []) := by rw [hW]; have := rowIs_vals (w.alloc (Obj.cells (vals (tf T k N G M) 24).toArray 56)) (tf z20 0 [] [] []) 24 60; simpa using this
  have l27 : (loadVar 27 ⟨w.heap.size, 0, none⟩).run Tryz.prog W = .ok (idv T) W := by
    have h := load_mid (P := Tryz.prog) (o := 0) 27 _ rW 20 (by omega) Tryz.underlying27 rfl (by kernel_rfl)
    rw [row_congr (fun j => tf T k N G M (0 + j)) (cl T) 20 (fun j hj => by unfold tf; rw [Nat.zero_add, if_pos hj])] at h
    exact h
  have c20 : W.cell? ⟨w.heap.size, 20, none⟩ = some (.int .i64 k) := rW.cell (i := 20) (by omega)
  have c21 : W.cell? ⟨w.heap.size, 21, none⟩ = some (sv N) := rW.cell (i := 21) (by omega)
  have c22 : W.cell? ⟨w.heap.size, 22, none⟩ = some (sv G) := rW.cell (i := 22) (by omega)
  have c23 : W.cell? ⟨w.heap.size, 23, none⟩ = some (sv M) := rW.cell (i := 23) (by omega)
  have HB : Hid (Below w.heap.size w W) := bW
  clear bW b0 rW
  go_enter Tryz.func28, Tryz.ntmps28
  go_wp2_with (first
    | (refine wpList_ldv rfl 27 _ rfl ⟨w.heap.size, 0, none⟩ rfl (idv T) (by rw [← hW]; exact l27) ?_; rw [← hW]; clear hW)
    | (refine wpList_b60 rfl _ _ _ _ _ rfl T k N G M rfl rfl rfl rfl rfl ?_)
    | (refine wpList_st rfl 60 _ _ rfl (w.heap.size + 1) rfl (tf T k N G M) rfl r2 (by kernel_rfl) (tf_one _ _ _ _ _) ?_; intro w3 r3 f3))
  refine bodyPost_ret (results_row (fn := Tryz.f28) (p := 2) (ty := 60) (by kernel_rfl) _ (by rfl) r3 Tryz.underlying60 rfl (by kernel_rfl)) rfl ⟨rfl, ?_⟩
  exact HB.out.trans (f3.below _ HB.out.size (fun i hi e => by omega))

end Go.Proofs.YtojgablpjdlegaaGreatDoor

/- Tags are equal; both encoders in one contract each. -/
namespace Go.Proofs.YtojgablpjdlegaaGreatDoor
open Go.RowKit Go.Shelf

theorem part56 (x : List Int) (k : Int) (N G M : List UInt8) (w : World) : (part 27 (vals (tf x k N G M) 24).toArray 0).run Tryz.prog w = .ok (idv x) w := by kernel_rfl
theorem part56k (x : List Int) (k : Int) (N G M : List UInt8) (w : World) : (part 3 (vals (tf x k N G M) 24).toArray 20).run Tryz.prog w = .ok (.int .i64 k) w := by kernel_rfl
theorem part56a (x : List Int) (k : Int) (N G M : List UInt8) (w : World) : (part 9 (vals (tf x k N G M) 24).toArray 21).run Tryz.prog w = .ok (sv N) w := by kernel_rfl
theorem part56b (x : List Int) (k : Int) (N G M : List UInt8) (w : World) : (part 9 (vals (tf x k N G M) 24).toArray 22).run Tryz.prog w = .ok (sv G) w := by kernel_rfl
theorem part56c (x : List Int) (k : Int) (N G M : List UInt8) (w : World) : (part 9 (vals (tf x k N G M) 24).toArray 23).run Tryz.prog w = .ok (sv M) w := by kernel_rfl

theorem eql_tmv (x : List Int) (k : Int) (N G M : List UInt8) (w : World) : (Op.equalIn 10000 56 (tmv x k N G M) (tmv x k N G M)).run Tryz.prog w = .ok true w := by
  have hf : Tryz.prog.fieldsOf 56 = #[{ name := "Object", type := 27, offset := 0, embedded := false, tag := "", pkgPath := "", byteOffset := 0 }, { name := "Kind", type := 3, offset := 20, embedded := false, tag := "", pkgPath := "", byteOffset := 24 }, { name := "Name", type := 9, offset := 21, embedded := false, tag := "", pkgPath := "", byteOffset := 32 }, { name := "Tagger", type := 9, offset := 22, embedded := false, tag := "", pkgPath := "", byteOffset := 48 }, { name := "Message", type := 9, offset := 23, embedded := false, tag := "", pkgPath := "", byteOffset := 64 }] := by kernel_rfl
  have h1 : (Op.equalIn 9999 27 (idv x) (idv x)).run Tryz.prog w = .ok true w := by
    have := eq_loop 27 Tryz.underlying27 9997 x x w
    rw [this]
    simp
  rw [run_equalIn_struct w 9999 56 _ _ (by rw [hf]; kernel_rfl) (by kernel_rfl), hf]
  simp [Op.eqFields, part56, part56k, part56a, part56b, part56c, h1, run_equalIn_int w 9998 3 .i64 .i64 k k Tryz.underlying3, run_equalIn_string w 9998 9 _ _ Tryz.underlying9]

theorem wpList_ldW {ops : Array Oper} {rest : List Oper} {op : Oper} {a : Act} {w : World} {Q : Exit → Act → World → Prop} (hw : Region.wanted op (yielded ops a.tmps) = true) (ty : TypeId) (x : Operand) (ho : op.op = .load ty x)
    (b : Nat) (hx : a.eval x = .pointer (some ⟨b, 0, none⟩)) (d : TypeDesc) {t n : Nat} {f : Nat → Value} (h : w.rowIs b t n f) (m : Nat) (hm : m ≤ n)
    (hu : Tryz.prog.underlying ty = some d) (hd : d.isRow = true) (hi : (Tryz.prog.info? ty).map (·.size) = some m)
    (hk : wpList Tryz.prog ops Q rest (a.put op.dst (row f m)) w) : wpList Tryz.prog ops Q (op :: rest) a w :=
  wpList_step fun K hK => by
    rw [if_pos hw]
    have hr := rangeAt_row h 0 m (by omega)
    simp only [Nat.zero_add] at hr
    exact wp_load_mid ty x ho b 0 hx _ d hr hu hd (by rw [vals_len]; exact hi) (hK _ _ hk)

theorem wpList_neq56 {ops : Array Oper} {rest : List Oper} {op : Oper} {a : Act} {w : World} {Q : Exit → Act → World → Prop} (hw : Region.wanted op (yielded ops a.tmps) = true) (x y : Operand) (t : TypeId) (ho : op.op = .binOp .neq 56 x y t) (X : List Int) (k : Int) (N G M : List UInt8) (hx : a.eval x = tmv X k N G M) (hy : a.eval y = tmv X k N G M)
    (hk : wpList Tryz.prog ops Q rest (a.put op.dst (.bool false)) w) : wpList Tryz.prog ops Q (op :: rest) a w :=
  wpList_step fun K hK => by
    rw [if_pos hw]
    have he := eql_tmv X k N G M w
    have hm : Tryz.prog.eqGuardType Tryz.prog.depth 56 = false := by kernel_rfl
    obtain ⟨A, hA⟩ : ∃ A, (vals (tf X k N G M) 24).toArray = A := ⟨_, rfl⟩
    unfold tmv row at he hx hy
    rw [hA] at he hx hy
    have hb : (binOp .neq 56 (.agg A) (.agg A)).run Tryz.prog w = .ok (.bool false) w := by
      rw [run_neq_struct, he]
      rfl
    have hg := run_eqGuard_agg (P := Tryz.prog) w .neq 56 x y A A hm
    unfold Oper.wp
    simp only [execOp, ho, hx, hy, Sem.run_bind, hg, hb, Result.andThen_ok, Sem.run_pure]
    exact hK _ _ hk

/-- Which fault a commit's bytes have. -/
def ec (A C M : List UInt8) (T : List Int) (ds : List (List Int)) : Int := if mb A C ds = true then (if (enc T ds A C M).length ≤ 16384 then 0 else 5) else 1

/-- A commit's bytes. -/
def xc (A C M : List UInt8) (T : List Int) (ds : List (List Int)) : List Int := if ec A C M T ds = 0 then tn (enc T ds A C M) else []

theorem ec_zero {A C M : List UInt8} {T : List Int} {ds : List (List Int)} (h : ec A C M T ds = 0) : mb A C ds = true ∧ (enc T ds A C M).length ≤ 16384 ∧ xc A C M T ds = tn (enc T ds A C M) := by
  refine ⟨?_, ?_, by unfold xc; rw [if_pos h]⟩
  · unfold ec at h
    by_cases hm : mb A C ds = true
    · exact hm
    · rw [if_neg hm] at h
      cases h
  · unfold ec at h
    by_cases hm : mb A C ds = true
    · rw [if_pos hm] at h
      by_cases hl : (enc T ds A C M).length ≤ 16384
      · exact hl
      · rw [if_neg hl] at h
        cases h
    · rw [if_neg hm] at h
      cases h

theorem encC (T : List Int) (v : Value) (A C M : List UInt8) (d : Array (List Int)) (w : World) (hT : IsId T) (hv : Is w v d) (hA : A.length ≤ 1000) (hC : C.length ≤ 1000) (hM : M.length ≤ 100000) (hd : d.size < 1000) :
    Calls Tryz.prog 41 #[cmv T v A C M] w fun e w' => ∃ ao n c, e = .returned (.tuple #[.slice ao n c, .int .i64 (ec A C M T d.toList)]) ∧ Rd w' ao n c (xc A C M T d.toList) ∧ Below w.heap.size w w' := by
  unfold xc ec
  by_cases hm : mb A C d.toList = true
  · rw [if_pos hm]
    refine (encodeCommit_any T v A C M d w hT hv hM hm).mono ?_
    rintro e w' ⟨ao, n, c, h1, h2, h3⟩
    refine ⟨ao, n, c, h1, ?_, h3⟩
    by_cases hl : (enc T d.toList A C M).length ≤ 16384
    · rw [if_pos hl, if_pos rfl]; rw [if_pos hl] at h2; exact h2
    · rw [if_neg hl, if_neg (by decide)]; rw [if_neg hl] at h2; exact h2
  · rw [if_neg hm]
    refine (encodeCommit_no T v A C M d w hv (by omega) (by omega) (by omega) (by simpa using hm)).mono ?_
    rintro e w' ⟨h1, h2⟩
    exact ⟨none, 0, 0, h1, by rw [if_neg (by decide)]; exact Rd.nil _, h2⟩

theorem rencC (T : List Int) (v : Value) (A C M : List UInt8) (d : Array (List Int)) (B : Nat) (w : World) (hT : IsId T) (hv : Dn B w v d) (hA : A.length ≤ 1000) (hC : C.length ≤ 1000) (hM : M.length ≤ 100000) (hd : d.size < 1000) :
    Calls Tryz.prog 42 #[cmv T v A C M] w fun e w' => ∃ ao n c, e = .returned (.tuple #[.slice ao n c, .int .i64 (ec A C M T d.toList)]) ∧ Rd w' ao n c (xc A C M T d.toList) ∧ Below w.heap.size w w' := by
  unfold xc ec
  by_cases hm : mb A C d.toList = true
  · rw [if_pos hm]
    refine (rencCommit_any T v A C M d B w hT hv hM hm).mono ?_
    rintro e w' ⟨ao, n, c, h1, h2, h3⟩
    refine ⟨ao, n, c, h1, ?_, h3⟩
    by_cases hl : (enc T d.toList A C M).length ≤ 16384
    · rw [if_pos hl, if_pos rfl]; rw [if_pos hl] at h2; exact h2
    · rw [if_neg hl, if_neg (by decide)]; rw [if_neg hl] at h2; exact h2
  · rw [if_neg hm]
    refine (rencCommit_no T v A C M d B w hv (by omega) (by omega) (by omega) (by simpa using hm)).mono ?_
    rintro e w' ⟨h1, h2⟩
    exact ⟨none, 0, 0, h1, by rw [if_neg (by decide)]; exact Rd.nil _, h2⟩

/-- Which fault a tag's bytes have. -/
def et (x : List Int) (k : Int) (N G M : List UInt8) : Int := if mbT k N G = true then (if (encT x k N G M).length ≤ 16384 then 0 else 5) else 1

/-- A tag's bytes. -/
def xt (x : List Int) (k : Int) (N G M : List UInt8) : List Int := if et x k N G M = 0 then tn (encT x k N G M) else []

theorem et_zero {x : List Int} {k : Int} {N G M : List UInt8} (h : et x k N G M = 0) : mbT k N G = true ∧ (encT x k N G M).length ≤ 16384 ∧ xt x k N G M = tn (encT x k N G M) := by
  refine ⟨?_, ?_, by unfold xt; rw [if_pos h]⟩
  · unfold et at h
    by_cases hm : mbT k N G = true
    · exact hm
    · rw [if_neg hm] at h
      cases h
  · unfold et at h
    by_cases hm : mbT k N G = true
    · rw [if_pos hm] at h
      by_cases hl : (encT x k N G M).length ≤ 16384
      · exact hl
      · rw [if_neg hl] at h
        cases h
    · rw [if_neg hm] at h
      cases h

theorem encG (x : List Int) (k : Int) (N G M : List UInt8) (w : World) (hx : IsId x) (hg : Gs w) (hN : N.length ≤ 1000) (hG : G.length ≤ 1000) (hM : M.length ≤ 100000) :
    Calls Tryz.prog 44 #[tmv x k N G M] w fun e w' => ∃ ao n c, e = .returned (.tuple #[.slice ao n c, .int .i64 (et x k N G M)]) ∧ Rd w' ao n c (xt x k N G M) ∧ Below w.heap.size w w' := by
  unfold xt et
  by_cases hm : mbT k N G = true
  · rw [if_pos hm]
    refine (encodeTag_any x k N G M w hx hg hM hm).mono ?_
    rintro e w' ⟨ao, n, c, h1, h2, h3⟩
    refine ⟨ao, n, c, h1, ?_, h3⟩
    by_cases hl : (encT x k N G M).length ≤ 16384
    · rw [if_pos hl, if_pos rfl]; rw [if_pos hl] at h2; exact h2
    · rw [if_neg hl, if_neg (by decide)]; rw [if_neg hl] at h2; exact h2
  · rw [if_neg hm]
    refine (encodeTag_no x k N G M w hg (by omega) (by omega) (by simpa using hm)).mono ?_
    rintro e w' ⟨h1, h2⟩
    exact ⟨none, 0, 0, h1, by rw [if_neg (by decide)]; exact Rd.nil _, h2⟩

theorem rencG (x : List Int) (k : Int) (N G M : List UInt8) (w : World) (hx : IsId x) (hN : N.length ≤ 1000) (hG : G.length ≤ 1000) (hM : M.length ≤ 100000) :
    Calls Tryz.prog 45 #[tmv x k N G M] w fun e w' => ∃ ao n c, e = .returned (.tuple #[.slice ao n c, .int .i64 (et x k N G M)]) ∧ Rd w' ao n c (xt x k N G M) ∧ Below w.heap.size w w' := by
  unfold xt et
  by_cases hm : mbT k N G = true
  · rw [if_pos hm]
    refine (rencTag_any x k N G M w hx hM hm).mono ?_
    rintro e w' ⟨ao, n, c, h1, h2, h3⟩
    refine ⟨ao, n, c, h1, ?_, h3⟩
    by_cases hl : (encT x k N G M).length ≤ 16384
    · rw [if_pos hl, if_pos rfl]; rw [if_pos hl] at h2; exact h2
    · rw [if_neg hl, if_neg (by decide)]; rw [if_neg hl] at h2; exact h2
  · rw [if_neg hm]
    refine (rencTag_no x k N G M w (by omega) (by omega) (by simpa using hm)).mono ?_
    rintro e w' ⟨h1, h2⟩
    exact ⟨none, 0, 0, h1, by rw [if_neg (by decide)]; exact Rd.nil _, h2⟩

end Go.Proofs.YtojgablpjdlegaaGreatDoor
