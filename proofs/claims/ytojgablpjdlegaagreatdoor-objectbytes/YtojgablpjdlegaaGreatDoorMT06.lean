/- TrK, TrL, Ra. -/
import Derived.Test.YtojgablpjdlegaaGreatDoorMT05
import Derived.Test.YtojgablpjdlegaaGreatDoorMC08
import Derived.Test.YtojgablpjdlegaaGreatDoorMC10
import Derived.Test.YtojgablpjdlegaaGreatDoorMC07
/- A tree's bytes parsed, decoded, checked; what it leads to. -/
namespace Go.Proofs.YtojgablpjdlegaaGreatDoor
open Go.RowKit Go.Shelf

/-- A tree parsed, out of its two slices. -/
def two3 (x : Value) : Nat → Value := match x with | .tuple cs => psf (cs.getD 0 nlv) (cf z20 nlv [] [] []) (tf z20 0 [] [] []) (cs.getD 1 nlv) | _ => ps0

/-- What a tree's parsing leaves. -/
structure Pe (B : Nat) (e : Int) (ES : List En) (f : Nat → Value) (w : World) : Prop where
  ok : e = 0 → ∃ ev edv, f = psf ev (cf z20 nlv [] [] []) (tf z20 0 [] [] []) edv ∧ De B w ev ES.toArray ∧ Dp B w edv (eds ES).toArray
  no : e ≠ 0 → f = ps0

theorem De.low {B B' : Nat} {w : World} {v : Value} {d : Array En} (h : De B w v d) (hB : B' ≤ B) : De B' w v d := by
  refine ⟨⟨h.own.1, ?_⟩, h.ok⟩
  rcases h.own.2 with h0 | ⟨g, cap, cur, e, hg, h1⟩
  · exact .inl h0
  · exact .inr ⟨g, cap, cur, e, by omega, h1⟩

theorem Pe.keep {B : Nat} {e : Int} {ES : List En} {f : Nat → Value} {w w' : World} (h : Pe B e ES f w) (hb : Below w.heap.size w w') : Pe B e ES f w' :=
  ⟨fun he => by obtain ⟨ev, edv, h1, h2, h3⟩ := h.ok he; exact ⟨ev, edv, h1, h2.keep hb, h3.keep hb⟩, h.no⟩

theorem parse_tree (ao : Option Addr) (n c : Nat) (xs : List Int) (ES : List En) (e1 : Int) (w : World) (ht : Ts w) (hr : Rd w ao n c xs) (hn : n ≤ 16384) (hm : Ens (tb xs) 0 ES e1) :
    Calls Tryz.prog 56 #[.int .i64 2, .slice ao n c] w fun ex w' => ∃ f, ex = .returned (.tuple #[row f 50, .int .i64 (tef ES.toArray e1)]) ∧ (∀ j, (f j).oneCell' = true) ∧ Pe (w.heap.size + 1) (tef ES.toArray e1) ES f w' ∧ Below w.heap.size w w' := by
  refine (parse_g2 ao n c xs w ht.gs hr hn two3 [] (tef ES.toArray e1) (fun x w' => ∃ v ve, x = .tuple #[v, ve] ∧ v.oneCell' = true ∧ ve.oneCell' = true ∧ De (w.heap.size + 1) w' v ES.toArray ∧ Dp (w.heap.size + 1) w' ve (eds ES).toArray) ?_ ?_).mono ?_
  · intro R W hgW hR hrW hbW hs
    refine (tree_any R (tb xs) 0 ES e1 W (ht.keep hbW) hR hrW (by rw [tb_len, hr.len]; omega) hm).mono ?_
    rintro ex w' ⟨v, ve, rfl, h1, h2, h3, h4⟩
    have hv : v.oneCell' = true := by obtain ⟨_, _, rfl⟩ := h1.shape; rfl
    have hve : ve.oneCell' = true := by obtain ⟨_, _, rfl⟩ := h2.shape; rfl
    exact ⟨.tuple #[v, ve], rfl, fun j => psf_one _ _ _ _ hv (cf_one _ _ _ _ _ rfl) (tf_one _ _ _ _ _) hve j, h3, h4, v, ve, rfl, hv, hve, h1.low (by omega), h2.low (by omega)⟩
  · rintro x w1 w2 ⟨v, ve, rfl, hv, hve, h1, h2⟩ hf
    exact ⟨v, ve, rfl, hv, hve, h1.fr hf (fun k hk e => by omega), h2.fr hf (fun k hk e => by omega)⟩
  · rintro ex w' ⟨x, rfl, ⟨v, ve, rfl, hv, hve, h1, h2⟩, hb⟩
    by_cases he : tef ES.toArray e1 = 0
    · refine ⟨psf v (cf z20 nlv [] [] []) (tf z20 0 [] [] []) ve, by rw [if_pos he]; rfl, psf_one _ _ _ _ hv (cf_one _ _ _ _ _ rfl) (tf_one _ _ _ _ _) hve, ⟨fun _ => ⟨v, ve, rfl, h1, h2⟩, fun h => absurd he h⟩, hb⟩
    · exact ⟨ps0, by rw [if_neg he], ps0_one, ⟨fun h => absurd h he, fun _ => rfl⟩, hb⟩

set_option maxRecDepth 100000 in
set_option maxHeartbeats 2000000 in
theorem decTree_any (ao : Option Addr) (n c : Nat) (xs : List Int) (ES : List En) (e1 : Int) (w : World) (ht : Ts w) (hr : Rd w ao n c xs) (hn : n ≤ 16384) (hm : Ens (tb xs) 0 ES e1) :
    Calls Tryz.prog 21 #[.slice ao n c] w fun ex w' => ∃ v, ex = .returned (.tuple #[v, .int .i64 (tef ES.toArray e1)]) ∧ (tef ES.toArray e1 = 0 → De (w.heap.size + 1) w' v ES.toArray) ∧ (tef ES.toArray e1 ≠ 0 → v = nlv) ∧ Below w.heap.size w w' := by
  have hz := zero107
  have hpa := parse_tree ao n c xs ES e1 w ht hr hn hm
  obtain ⟨e, he⟩ : ∃ e, e = tef ES.toArray e1 := ⟨_, rfl⟩
  rw [← he] at hpa ⊢
  clear he ht hr hn hm
  go_enter Tryz.func21, Tryz.ntmps21
  go_wp2_with fail
  refine hpa.mono ?_
  rintro ex w1 ⟨f, rfl, hone, hq, b1⟩
  have z1 := rowIs_vals w1 ps0 50 107
  have HB1 : Hid (Below w.heap.size w w1) := b1
  have HQ : Hid (Pe (w.heap.size + 1) e ES f w1) := hq
  obtain ⟨pa, pm, pb, hpp⟩ : ∃ a m b, f 0 = .slice a m b := by
    by_cases he : e = 0
    · obtain ⟨ev, edv, h1, h2, _⟩ := hq.ok he
      obtain ⟨a, b, hev⟩ := h2.shape
      exact ⟨a, _, b, by rw [h1, ← hev]; rfl⟩
    · exact ⟨none, 0, 0, by rw [hq.no he]; rfl⟩
  have HP : Hid (f 0 = .slice pa pm pb) := hpp
  clear hpa b1 hq hpp
  go_wp2_with ((refine wpList_st rfl 107 _ _ rfl w1.heap.size rfl f rfl z1 (by kernel_rfl) hone ?_; intro w2 r2 f2; have HB2 : Hid (Below w.heap.size w w2) := HB1.out.trans ((new_fr f2).mono HB1.out.size); have HK2 : Hid (Below w1.heap.size w1 w2) := new_fr f2; have k2 : w2.cell? ⟨w1.heap.size, 0, none⟩ = some (.slice pa pm pb) := (by rw [r2.cell (i := 0) (by omega), HP.out]); clear r2 f2))
  go_ret2
  refine ⟨.slice pa pm pb, rfl, fun he => ?_, fun he => ?_, HB2.out⟩
  · obtain ⟨ev, edv, h1, h2, _⟩ := HQ.out.ok he
    have h3 := HP.out
    rw [h1] at h3
    have h4 : ev = .slice pa pm pb := h3
    rw [← h4]
    exact h2.keep HK2.out
  · have h3 := HP.out
    rw [HQ.out.no he] at h3
    exact h3.symm

theorem edgesTree_any (ao : Option Addr) (n c : Nat) (xs : List Int) (ES : List En) (e1 : Int) (w : World) (ht : Ts w) (hr : Rd w ao n c xs) (hn : n ≤ 16384) (hl : ES.length < 90000) (hm : Ens (tb xs) 0 ES e1) (h0 : tef ES.toArray e1 = 0) :
    Calls Tryz.prog 30 #[.int .i64 2, .slice ao n c] w fun ex w' => ∃ v r, ex = .returned (.tuple #[v, .int .i64 0]) ∧ Srt (eds ES).toArray r ∧ Nw w.heap.size w' v r ∧ Below w.heap.size w w' := by
  refine edges_gen 2 ao n c w (fun f w' => Is w' (f 49) (eds ES).toArray) (eds ES).toArray (by have := eds_len ES; simp; omega) (fun f w' h => h) ?_
  refine (parse_tree ao n c xs ES e1 w ht hr hn hm).mono ?_
  rintro ex w' ⟨f, rfl, h1, h2, h3⟩
  obtain ⟨v, ve, rfl, g2, g3⟩ := h2.ok h0
  exact ⟨_, by rw [h0], h1, g3.is, h3⟩

end Go.Proofs.YtojgablpjdlegaaGreatDoor

/- What is written of entries is read as it was. -/
namespace Go.Proofs.YtojgablpjdlegaaGreatDoor
open Go.RowKit Go.Shelf

theorem tn_tb' (x : List Int) (h : ∀ b ∈ x, 0 ≤ b ∧ b < 256) : tn (tb x) = x := by
  unfold tn tb
  rw [List.map_map]
  conv => rhs; rw [← List.map_id x]
  refine List.map_congr_left (fun b hb => ?_)
  have := h b hb
  show (((UInt8.ofNat b.toNat).toNat : Nat) : Int) = b
  rw [UInt8.toNat_ofNat']
  omega

theorem tb_app' (a b : List Int) : tb (a ++ b) = tb a ++ tb b := by simp [tb]

theorem oct_no (m : Int) (h : m.natAbs < 8 ^ 23) (s : UInt8) (hs : s.toNat < 45) : ∀ b ∈ oct m, b ≠ s := by
  intro b hb e
  subst e
  have h1 := ocf_no45 22 m.natAbs h
  unfold oct at hb
  split at hb
  · rcases List.mem_cons.1 hb with rfl | hb
    · exact absurd hs (by decide)
    · have := (h1 b hb).1
      omega
  · have := (h1 b hb).1
    omega

theorem isM_range (m : Int) (h : isM m = true) : -9223372036854775808 ≤ m ∧ m ≤ 9223372036854775807 ∧ m.natAbs < 8 ^ 23 := by
  unfold isM at h
  simp only [Bool.or_eq_true, beq_iff_eq] at h
  omega

theorem nm_no0 (l : List UInt8) (h : nmB l = true) : ∀ b ∈ l, b ≠ 0 := by
  unfold nmB at h
  simp only [Bool.and_eq_true, Bool.not_eq_true'] at h
  exact any_no 0 47 l h.2.2

theorem ent1_sd (e : En) (r : List UInt8) (f : Int) (hb : eB e = true) (hi : IsId e.id) : ent1 (hd e ++ (tb e.id ++ r)) f = (e, r, f) := by
  unfold eB at hb
  rw [Bool.and_eq_true] at hb
  obtain ⟨h1, h2, h3⟩ := isM_range e.m hb.1
  have hl : (tb e.id).length = 20 := by rw [tb_len, hi.1]
  have c1 : Lib.cut (hd e ++ (tb e.id ++ r)) [32] = (oct e.m, e.nm ++ [0] ++ (tb e.id ++ r), true) := by
    have := cut_first 32 (oct e.m) (e.nm ++ [0] ++ (tb e.id ++ r)) (oct_no e.m h3 32 (by decide))
    unfold hd
    rw [← this]
    simp [List.append_assoc]
  have c2 : Lib.cut (e.nm ++ [0] ++ (tb e.id ++ r)) [0] = (e.nm, tb e.id ++ r, true) := by
    have := cut_first 0 e.nm (tb e.id ++ r) (nm_no0 e.nm hb.2)
    rw [← this]
    simp [List.append_assoc]
  have c3 : szd 20 (tb e.id ++ r) = (tb e.id, r, true) := by
    unfold szd
    rw [if_neg (by rw [List.length_append]; omega)]
    rw [List.take_left' hl, List.drop_left' hl]
  have cut (a b : List UInt8) : cu (a, b, true) = (a, b) := rfl
  unfold ent1
  rw [c1, cut]
  simp only
  rw [c2, cut]
  simp only
  rw [c3, cut]
  simp only
  rw [mdo_oct e.m h1 h2, if_pos hb.1]
  have hid : idO (tb e.id) = e.id := by
    unfold idO
    rw [if_pos hl, tn_tb' _ hi.2]
  rw [hid, nd_true, nd_true, nd_true]

theorem ens_sd : ∀ (l : List En), (∀ e ∈ l, eB e = true ∧ IsId e.id) → Ens (tb (sdL l)) 0 l 0
  | [], _ => .stop 0
  | e :: l, h => by
    have he := h e (by simp)
    have ih := ens_sd l (fun x hx => h x (by simp [hx]))
    have hs : tb (sdL (e :: l)) = hd e ++ (tb e.id ++ tb (sdL l)) := by
      have : sdL (e :: l) = tn (hd e) ++ (e.id ++ sdL l) := by simp [sdL, sd1]
      rw [this, tb_app', tb_app', tb_tn]
    rw [hs]
    have h1 := ent1_sd e (tb (sdL l)) 0 he.1 he.2
    have hne : hd e ++ (tb e.id ++ tb (sdL l)) ≠ [] := by
      intro h
      have := congrArg List.length h
      unfold hd at this
      simp at this
    have := Ens.more (hd e ++ (tb e.id ++ tb (sdL l))) 0 l 0 hne (by rw [h1]; exact ih)
    rw [h1] at this
    exact this

/-- What entries' fault says. -/
theorem tE_zero {d : Array En} (h : tE d = 0) : d.size ≤ 512 ∧ d.toList.all eB = true ∧ riB d = true ∧ (sdL d.toList).length ≤ 16384 ∧ tX d = sdL d.toList := by
  have hx : tX d = sdL d.toList := by unfold tX; rw [if_pos h]
  unfold tE at h
  by_cases h1 : d.size ≤ 512 ∧ d.toList.all eB = true
  · rw [if_pos h1] at h
    by_cases h2 : riB d = true
    · rw [if_pos h2] at h
      by_cases h3 : (sdL d.toList).length ≤ 16384
      · exact ⟨h1.1, h1.2, h2, h3, hx⟩
      · rw [if_neg h3] at h; cases h
    · rw [if_neg h2] at h; cases h
  · rw [if_neg h1] at h; cases h

theorem tef_zero {d : Array En} (h : tE d = 0) : tef d 0 = 0 := by
  obtain ⟨h1, h2, h3, _, _⟩ := tE_zero h
  unfold tef
  rw [h2, h3, decide_eq_true h1]
  rfl

/-- What EncodeTree wrote, DecodeTree reads. -/
theorem decTree_enc (ao : Option Addr) (n c : Nat) (d : Array En) (w : World) (ht : Ts w) (hok : ∀ i, i < d.size → okE d[i]!) (h0 : tE d = 0) (hr : Rd w ao n c (tX d)) :
    Calls Tryz.prog 21 #[.slice ao n c] w fun ex w' => ∃ v, ex = .returned (.tuple #[v, .int .i64 0]) ∧ De (w.heap.size + 1) w' v d ∧ Below w.heap.size w w' := by
  obtain ⟨h1, h2, h3, h4, h5⟩ := tE_zero h0
  have hall : ∀ e ∈ d.toList, eB e = true ∧ IsId e.id := fun e he => by
    refine ⟨List.all_eq_true.1 h2 e he, ?_⟩
    obtain ⟨i, hi, rfl⟩ := List.mem_iff_getElem.1 he
    have hi2 : i < d.size := by simpa using hi
    have := (hok i hi2).id
    rw [getElem!_pos d i hi2] at this
    exact this
  rw [h5] at hr
  have hd := decTree_any ao n c (sdL d.toList) d.toList 0 w ht hr (by rw [← hr.len]; exact h4) (ens_sd d.toList hall)
  have ha : d.toList.toArray = d := by simp
  rw [ha, tef_zero h0] at hd
  refine hd.mono ?_
  rintro ex w' ⟨v, g1, g2, _, g4⟩
  exact ⟨v, g1, g2 rfl, g4⟩

/-- What EncodeTree wrote leads to what its entries name, but links. -/
theorem edgesTree_enc (ao : Option Addr) (n c : Nat) (d : Array En) (w : World) (ht : Ts w) (hok : ∀ i, i < d.size → okE d[i]!) (h0 : tE d = 0) (hr : Rd w ao n c (tX d)) :
    Calls Tryz.prog 30 #[.int .i64 2, .slice ao n c] w fun ex w' => ∃ v r, ex = .returned (.tuple #[v, .int .i64 0]) ∧ Srt (eds d.toList).toArray r ∧ Nw w.heap.size w' v r ∧ Below w.heap.size w w' := by
  obtain ⟨h1, h2, h3, h4, h5⟩ := tE_zero h0
  have hall : ∀ e ∈ d.toList, eB e = true ∧ IsId e.id := fun e he => by
    refine ⟨List.all_eq_true.1 h2 e he, ?_⟩
    obtain ⟨i, hi, rfl⟩ := List.mem_iff_getElem.1 he
    have hi2 : i < d.size := by simpa using hi
    have := (hok i hi2).id
    rw [getElem!_pos d i hi2] at this
    exact this
  rw [h5] at hr
  have ha : d.toList.toArray = d := by simp
  exact edgesTree_any ao n c (sdL d.toList) d.toList 0 w ht hr (by rw [← hr.len]; exact h4) (by simp; omega) (ens_sd d.toList hall) (by rw [ha]; exact tef_zero h0)

end Go.Proofs.YtojgablpjdlegaaGreatDoor

/- The document's modes, names, keys. -/
namespace Go.Proofs.YtojgablpjdlegaaGreatDoor
open Go.RowKit Go.Shelf

/-- A mode's digits; none: it is no mode. -/
def mdt (m : Int) : List UInt8 := if isM m = true then oct m else []

theorem oct_16384 : oct 16384 = [52, 48, 48, 48, 48] := by decide +kernel
theorem oct_33188 : oct 33188 = [49, 48, 48, 54, 52, 52] := by decide +kernel
theorem oct_33261 : oct 33261 = [49, 48, 48, 55, 53, 53] := by decide +kernel
theorem oct_40960 : oct 40960 = [49, 50, 48, 48, 48, 48] := by decide +kernel
theorem oct_57344 : oct 57344 = [49, 54, 48, 48, 48, 48] := by decide +kernel

set_option maxRecDepth 100000 in
set_option maxHeartbeats 2000000 in
theorem rmode_any (m : Int) (w : World) : Calls Tryz.prog 67 #[.int .i64 m] w fun e w' => e = .returned (sv (mdt m)) ∧ w' = w := by
  by_cases h0 : m = 16384
  · subst h0
    rw [show mdt 16384 = [52, 48, 48, 48, 48] from oct_16384]
    go_enter Tryz.func67, Tryz.ntmps67
    go_wp2
    go_ret
    exact ⟨rfl, rfl⟩
  have e0 : (m == 16384) = false := by simp [h0]
  by_cases h1 : m = 33188
  · subst h1
    rw [show mdt 33188 = [49, 48, 48, 54, 52, 52] from oct_33188]
    clear h0
    go_enter Tryz.func67, Tryz.ntmps67
    go_wp2
    go_ret
    exact ⟨rfl, rfl⟩
  have e1 : (m == 33188) = false := by simp [h1]
  by_cases h2 : m = 33261
  · subst h2
    rw [show mdt 33261 = [49, 48, 48, 55, 53, 53] from oct_33261]
    clear h0 h1
    go_enter Tryz.func67, Tryz.ntmps67
    go_wp2
    go_ret
    exact ⟨rfl, rfl⟩
  have e2 : (m == 33261) = false := by simp [h2]
  by_cases h3 : m = 40960
  · subst h3
    rw [show mdt 40960 = [49, 50, 48, 48, 48, 48] from oct_40960]
    clear h0 h1 h2
    go_enter Tryz.func67, Tryz.ntmps67
    go_wp2
    go_ret
    exact ⟨rfl, rfl⟩
  have e3 : (m == 40960) = false := by simp [h3]
  by_cases h4 : m = 57344
  · subst h4
    rw [show mdt 57344 = [49, 54, 48, 48, 48, 48] from oct_57344]
    clear h0 h1 h2 h3
    go_enter Tryz.func67, Tryz.ntmps67
    go_wp2
    go_ret
    exact ⟨rfl, rfl⟩
  have e4 : (m == 57344) = false := by simp [h4]
  have hm : mdt m = [] := by
    unfold mdt isM
    rw [e0, e1, e2, e3, e4]
    rfl
  rw [hm]
  clear h0 h1 h2 h3 h4 hm
  go_enter Tryz.func67, Tryz.ntmps67
  go_wp2
  go_ret
  exact ⟨rfl, rfl⟩

set_option maxRecDepth 100000 in
set_option maxHeartbeats 4000000 in
theorem rname_any (l : List UInt8) (w : World) (hl : l.length ≤ 1000000) : Calls Tryz.prog 68 #[sv l] w fun e w' => e = .returned (.bool (nmB l)) ∧ w' = w := by
  by_cases a0 : l.isEmpty = true
  · have hr : nmB l = false := by unfold nmB nmO; rw [a0]; rfl
    rw [hr]
    go_enter Tryz.func68, Tryz.ntmps68
    go_wp2_with fail
    go_ret
    exact ⟨rfl, rfl⟩
  have a0' : l.isEmpty = false := by simpa using a0
  by_cases hn : 100 < l.length
  · have d1 : decide ((100 : Int) < (l.length : Int)) = true := by simp; omega
    have d2 : decide (100 < l.length) = true := by simp; omega
    have hr : nmB l = false := by
      unfold nmB
      rw [decide_eq_false (show ¬ l.length ≤ 100 by omega)]
      simp
    rw [hr]
    clear hr hn hl a0
    go_enter Tryz.func68, Tryz.ntmps68
    go_wp2_with fail
    go_ret
    exact ⟨rfl, rfl⟩
  have d1 : decide ((100 : Int) < (l.length : Int)) = false := by simp; omega
  have d2 : decide (100 < l.length) = false := by simp; omega
  have hle : decide (l.length ≤ 100) = true := by simp; omega
  by_cases a1 : (l == [46]) = true
  · have hr : nmB l = false := by unfold nmB nmO; rw [a1]; simp
    rw [hr]
    clear hr hn hl a0 hle
    go_enter Tryz.func68, Tryz.ntmps68
    go_wp2_with fail
    go_ret
    exact ⟨rfl, rfl⟩
  have a1' : (l == [46]) = false := by simpa using a1
  by_cases a2 : (l == [46, 46]) = true
  · have hr : nmB l = false := by unfold nmB nmO; rw [a2]; simp
    rw [hr]
    clear hr hn hl a0 a1 hle
    go_enter Tryz.func68, Tryz.ntmps68
    go_wp2_with fail
    go_ret
    exact ⟨rfl, rfl⟩
  have a2' : (l == [46, 46]) = false := by simpa using a2
  by_cases a3 : (l == [46, 103, 105, 116]) = true
  · have hr : nmB l = false := by unfold nmB nmO; rw [a3]; simp
    rw [hr]
    clear hr hn hl a0 a1 a2 hle
    go_enter Tryz.func68, Tryz.ntmps68
    go_wp2_with fail
    go_ret
    exact ⟨rfl, rfl⟩
  have a3' : (l == [46, 103, 105, 116]) = false := by simpa using a3
  have hr : nmB l = !Lib.containsAny l [47, 0] := by
    unfold nmB nmO
    rw [a0', a1', a2', a3', hle]
    rfl
  rw [hr]
  have HL : Hid (l.length ≤ 1000000) := hl
  clear hr hn hl a0 a1 a2 a3 hle
  go_enter Tryz.func68, Tryz.ntmps68
  go_wp2_with fail
  go_loopw [3] (fun s3 wr => wr = w ∧ ∃ i : Nat, s3 = .int .i64 (i : Int) ∧ i ≤ l.length ∧ Hid (Lib.NoAny l [47, 0] i)) (fun s3 _ => l.length - (intOf s3).toNat)
  case atStart => exact ⟨rfl, 0, rfl, Nat.zero_le _, Lib.NoAny.zero _ _⟩
  case round =>
    obtain ⟨hwr, i, rfl, hin, HNA⟩ := hrel
    subst hwr
    by_cases hlt : i < l.length
    · have d3 : decide ((i : Int) < (l.length : Int)) = true := by simp; omega
      have hq : (i : Int) < (l.length : Int) := by omega
      have hat := fun W => sv_at l i hlt W
      have hwk : IntKind.i64.wrap ((i : Int) + 1) = (i : Int) + 1 := by have := HL.out; rw [IntKind.wrap_i64]; omega
      have hget : l[i]? = some l[i] := List.getElem?_eq_getElem hlt
      obtain ⟨b, hb⟩ : ∃ b, b = l[i] := ⟨_, rfl⟩
      rw [← hb] at hat hget
      have HG : Hid (l[i]? = some b) := hget
      have HLT : Hid (i < l.length) := hlt
      clear hb hget hlt hin
      by_cases hc : b = 47 ∨ b = 0
      · have HC : Hid (Lib.containsAny l [47, 0] = true) := by
          show Lib.containsAny l [47, 0] = true
          unfold Lib.containsAny
          rw [Lib.indexAny_hit HNA.out HG.out (by rcases hc with rfl | rfl <;> rfl)]
          simp
        rcases hc with rfl | rfl
        · go_wp2_with fail
          go_ret
          exact ⟨by rw [HC.out]; rfl, rfl⟩
        · go_wp2_with fail
          go_ret
          exact ⟨by rw [HC.out]; rfl, rfl⟩
      · have f1 : ((b.toNat : Int) == 47) = false := by
          simp only [beq_eq_false_iff_ne, ne_eq]
          intro e
          exact hc (.inl (UInt8.toNat_inj.1 (by show b.toNat = 47; omega)))
        have f2 : ((b.toNat : Int) == 0) = false := by
          simp only [beq_eq_false_iff_ne, ne_eq]
          intro e
          exact hc (.inr (UInt8.toNat_inj.1 (by show b.toNat = 0; omega)))
        have HN1 : Hid (Lib.NoAny l [47, 0] (i + 1)) := HNA.out.succ HG.out (by simp only [not_or] at hc; simp [hc.1, hc.2])
        clear hc
        go_wp2_with fail
        exact ⟨⟨trivial, i + 1, by simp, HLT.out, HN1⟩, by simp [intOf]; have := HLT.out; omega⟩
    · have d3 : decide ((i : Int) < (l.length : Int)) = false := by simp; omega
      have hq : ¬ (i : Int) < (l.length : Int) := by omega
      have HC : Hid (Lib.containsAny l [47, 0] = false) := by
        show Lib.containsAny l [47, 0] = false
        have h := HNA.out
        rw [show i = l.length by omega] at h
        unfold Lib.containsAny
        rw [Lib.indexAny_none h]
        rfl
      go_wp2_with fail
      go_ret
      exact ⟨by rw [HC.out]; rfl, rfl⟩

end Go.Proofs.YtojgablpjdlegaaGreatDoor
