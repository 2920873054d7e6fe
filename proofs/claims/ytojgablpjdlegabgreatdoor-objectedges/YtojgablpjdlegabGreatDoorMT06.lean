/- TrK, TrL. -/
import Derived.Test.YtojgablpjdlegabGreatDoorMT05
import Derived.Test.YtojgablpjdlegabGreatDoorMC08
import Derived.Test.YtojgablpjdlegabGreatDoorMC10
import Derived.Test.YtojgablpjdlegabGreatDoorMC07
/- A tree's bytes parsed, decoded, checked; what it leads to. -/
namespace Go.Proofs.YtojgablpjdlegabGreatDoor
open Go.RowKit Go.Shelf

/-- A tree parsed, out of its two slices. -/
def two3 (x : Value) : Nat → Value := match x with | .tuple cs => psf (cs.getD 0 nlv) (cf z20 nlv [] [] []) (tf z20 0 [] [] []) (cs.getD 1 nlv) | _ => ps0

/-- What a tree's parsing leaves. -/
structure Pe (B : Nat) (e : Int) (ES : List En) (f : Nat → Value) (w : World) : Prop where
  ok : e = 0 → ∃ ev edv, f = psf ev (cf z20 nlv [] [] []) (tf z20 0 [] [] []) edv ∧ De B w ev ES.toArray ∧ Dp B w edv (eds ES).toArray
  no : e ≠ 0 → f = ps0

theorem De.low {B B' : Nat} {w : World} {v : Value} {d : Array En} (h : De B w v d) (hB : B' ≤ B) : De B' w v d := by
  refine ⟨⟨h.own.1, ?_⟩, h.ok⟩
  rcases h.own.2 with h0 | ⟨g, cap, cur, e, hg, h1⟩
  · exact .inl h0
  · exact .inr ⟨g, cap, cur, e, by omega, h1⟩

theorem Pe.keep {B : Nat} {e : Int} {ES : List En} {f : Nat → Value} {w w' : World} (h : Pe B e ES f w) (hb : Below w.heap.size w w') : Pe B e ES f w' :=
  ⟨fun he => by obtain ⟨ev, edv, h1, h2, h3⟩ := h.ok he; exact ⟨ev, edv, h1, h2.keep hb, h3.keep hb⟩, h.no⟩

theorem parse_tree (ao : Option Addr) (n c : Nat) (xs : List Int) (ES : List En) (e1 : Int) (w : World) (ht : Ts w) (hr : Rd w ao n c xs) (hn : n ≤ 16384) (hm : Ens (tb xs) 0 ES e1) :
    Calls Tryz.prog 21 #[.int .i64 2, .slice ao n c] w fun ex w' => ∃ f, ex = .returned (.tuple #[row f 50, .int .i64 (tef ES.toArray e1)]) ∧ (∀ j, (f j).oneCell' = true) ∧ Pe (w.heap.size + 1) (tef ES.toArray e1) ES f w' ∧ Below w.heap.size w w' := by
  refine (parse_g2 ao n c xs w ht.gs hr hn two3 [] (tef ES.toArray e1) (fun x w' => ∃ v ve, x = .tuple #[v, ve] ∧ v.oneCell' = true ∧ ve.oneCell' = true ∧ De (w.heap.size + 1) w' v ES.toArray ∧ Dp (w.heap.size + 1) w' ve (eds ES).toArray) ?_ ?_).mono ?_
  · intro R W hgW hR hrW hbW hs
    refine (tree_any R (tb xs) 0 ES e1 W (ht.keep hbW) hR hrW (by rw [tb_len, hr.len]; omega) hm).mono ?_
    rintro ex w' ⟨v, ve, rfl, h1, h2, h3, h4⟩
    have hv : v.oneCell' = true := by obtain ⟨_, _, rfl⟩ := h1.shape; rfl
    have hve : ve.oneCell' = true := by obtain ⟨_, _, rfl⟩ := h2.shape; rfl
    exact ⟨.tuple #[v, ve], rfl, fun j => psf_one _ _ _ _ hv (cf_one _ _ _ _ _ rfl) (tf_one _ _ _ _ _) hve j, h3, h4, v, ve, rfl, hv, hve, h1.low (by omega), h2.low (by omega)⟩
  · rintro x w1 w2 ⟨v, ve, rfl, hv, hve, h1, h2⟩ hf
    exact ⟨v, ve, rfl, hv, hve, h1.fr hf (fun k hk e => by omega), h2.fr hf (fun k hk e => by omega)⟩
  · rintro ex w' ⟨x, rfl, ⟨v, ve, rfl, hv, hve, h1, h2⟩, hb⟩
    by_cases he : tef ES.toArray e1 = 0
    · refine ⟨psf v (cf z20 nlv [] [] []) (tf z20 0 [] [] []) ve, by rw [if_pos he]; rfl, psf_one _ _ _ _ hv (cf_one _ _ _ _ _ rfl) (tf_one _ _ _ _ _) hve, ⟨fun _ => ⟨v, ve, rfl, h1, h2⟩, fun h => absurd he h⟩, hb⟩
    · exact ⟨ps0, by rw [if_neg he], ps0_one, ⟨fun h => absurd h he, fun _ => rfl⟩, hb⟩

theorem edgesTree_any (ao : Option Addr) (n c : Nat) (xs : List Int) (ES : List En) (e1 : Int) (w : World) (ht : Ts w) (hr : Rd w ao n c xs) (hn : n ≤ 16384) (hl : ES.length < 90000) (hm : Ens (tb xs) 0 ES e1) (h0 : tef ES.toArray e1 = 0) :
    Calls Tryz.prog 7 #[.int .i64 2, .slice ao n c] w fun ex w' => ∃ v r, ex = .returned (.tuple #[v, .int .i64 0]) ∧ Srt (eds ES).toArray r ∧ Nw w.heap.size w' v r ∧ Below w.heap.size w w' := by
  refine edges_gen 2 ao n c w (fun f w' => Is w' (f 49) (eds ES).toArray) (eds ES).toArray (by have := eds_len ES; simp; omega) (fun f w' h => h) ?_
  refine (parse_tree ao n c xs ES e1 w ht hr hn hm).mono ?_
  rintro ex w' ⟨f, rfl, h1, h2, h3⟩
  obtain ⟨v, ve, rfl, g2, g3⟩ := h2.ok h0
  exact ⟨_, by rw [h0], h1, g3.is, h3⟩

end Go.Proofs.YtojgablpjdlegabGreatDoor

/- What is written of entries is read as it was. -/
namespace Go.Proofs.YtojgablpjdlegabGreatDoor
open Go.RowKit Go.Shelf

theorem tn_tb' (x : List Int) (h : ∀ b ∈ x, 0 ≤ b ∧ b < 256) : tn (tb x) = x := by
  unfold tn tb
  rw [List.map_map]
  conv => rhs; rw [← List.map_id x]
  refine List.map_congr_left (fun b hb => ?_)
  have := h b hb
  show (((UInt8.ofNat b.toNat).toNat : Nat) : Int) = b
  rw [UInt8.toNat_ofNat']
  omega

theorem tb_app' (a b : List Int) : tb (a ++ b) = tb a ++ tb b := by simp [tb]

theorem oct_no (m : Int) (h : m.natAbs < 8 ^ 23) (s : UInt8) (hs : s.toNat < 45) : ∀ b ∈ oct m, b ≠ s := by
  intro b hb e
  subst e
  have h1 := ocf_no45 22 m.natAbs h
  unfold oct at hb
  split at hb
  · rcases List.mem_cons.1 hb with rfl | hb
    · exact absurd hs (by decide)
    · have := (h1 b hb).1
      omega
  · have := (h1 b hb).1
    omega

theorem isM_range (m : Int) (h : isM m = true) : -9223372036854775808 ≤ m ∧ m ≤ 9223372036854775807 ∧ m.natAbs < 8 ^ 23 := by
  unfold isM at h
  simp only [Bool.or_eq_true, beq_iff_eq] at h
  omega

theorem nm_no0 (l : List UInt8) (h : nmB l = true) : ∀ b ∈ l, b ≠ 0 := by
  unfold nmB at h
  simp only [Bool.and_eq_true, Bool.not_eq_true'] at h
  exact any_no 0 47 l h.2.2

theorem ent1_sd (e : En) (r : List UInt8) (f : Int) (hb : eB e = true) (hi : IsId e.id) : ent1 (hd e ++ (tb e.id ++ r)) f = (e, r, f) := by
  unfold eB at hb
  rw [Bool.and_eq_true] at hb
  obtain ⟨h1, h2, h3⟩ := isM_range e.m hb.1
  have hl : (tb e.id).length = 20 := by rw [tb_len, hi.1]
  have c1 : Lib.cut (hd e ++ (tb e.id ++ r)) [32] = (oct e.m, e.nm ++ [0] ++ (tb e.id ++ r), true) := by
    have := cut_first 32 (oct e.m) (e.nm ++ [0] ++ (tb e.id ++ r)) (oct_no e.m h3 32 (by decide))
    unfold hd
    rw [← this]
    simp [List.append_assoc]
  have c2 : Lib.cut (e.nm ++ [0] ++ (tb e.id ++ r)) [0] = (e.nm, tb e.id ++ r, true) := by
    have := cut_first 0 e.nm (tb e.id ++ r) (nm_no0 e.nm hb.2)
    rw [← this]
    simp [List.append_assoc]
  have c3 : szd 20 (tb e.id ++ r) = (tb e.id, r, true) := by
    unfold szd
    rw [if_neg (by rw [List.length_append]; omega)]
    rw [List.take_left' hl, List.drop_left' hl]
  have cut (a b : List UInt8) : cu (a, b, true) = (a, b) := rfl
  unfold ent1
  rw [c1, cut]
  simp only
  rw [c2, cut]
  simp only
  rw [c3, cut]
  simp only
  rw [mdo_oct e.m h1 h2, if_pos hb.1]
  have hid : idO (tb e.id) = e.id := by
    unfold idO
    rw [if_pos hl, tn_tb' _ hi.2]
  rw [hid, nd_true, nd_true, nd_true]

theorem ens_sd : ∀ (l : List En), (∀ e ∈ l, eB e = true ∧ IsId e.id) → Ens (tb (sdL l)) 0 l 0
  | [], _ => .stop 0
  | e :: l, h => by
    have he := h e (by simp)
    have ih := ens_sd l (fun x hx => h x (by simp [hx]))
    have hs : tb (sdL (e :: l)) = hd e ++ (tb e.id ++ tb (sdL l)) := by
      have : sdL (e :: l) = tn (hd e) ++ (e.id ++ sdL l) := by simp [sdL, sd1]
      rw [this, tb_app', tb_app', tb_tn]
    rw [hs]
    have h1 := ent1_sd e (tb (sdL l)) 0 he.1 he.2
    have hne : hd e ++ (tb e.id ++ tb (sdL l)) ≠ [] := by
      intro h
      have := congrArg List.length h
      unfold hd at this
      simp at this
    have := Ens.more (hd e ++ (tb e.id ++ tb (sdL l))) 0 l 0 hne (by rw [h1]; exact ih)
    rw [h1] at this
    exact this

/-- What entries' fault says. -/
theorem tE_zero {d : Array En} (h : tE d = 0) : d.size ≤ 512 ∧ d.toList.all eB = true ∧ riB d = true ∧ (sdL d.toList).length ≤ 16384 ∧ tX d = sdL d.toList := by
  have hx : tX d = sdL d.toList := by unfold tX; rw [if_pos h]
  unfold tE at h
  by_cases h1 : d.size ≤ 512 ∧ d.toList.all eB = true
  · rw [if_pos h1] at h
    by_cases h2 : riB d = true
    · rw [if_pos h2] at h
      by_cases h3 : (sdL d.toList).length ≤ 16384
      · exact ⟨h1.1, h1.2, h2, h3, hx⟩
      · rw [if_neg h3] at h; cases h
    · rw [if_neg h2] at h; cases h
  · rw [if_neg h1] at h; cases h

theorem tef_zero {d : Array En} (h : tE d = 0) : tef d 0 = 0 := by
  obtain ⟨h1, h2, h3, _, _⟩ := tE_zero h
  unfold tef
  rw [h2, h3, decide_eq_true h1]
  rfl

/-- What EncodeTree wrote leads to what its entries name, but links. -/
theorem edgesTree_enc (ao : Option Addr) (n c : Nat) (d : Array En) (w : World) (ht : Ts w) (hok : ∀ i, i < d.size → okE d[i]!) (h0 : tE d = 0) (hr : Rd w ao n c (tX d)) :
    Calls Tryz.prog 7 #[.int .i64 2, .slice ao n c] w fun ex w' => ∃ v r, ex = .returned (.tuple #[v, .int .i64 0]) ∧ Srt (eds d.toList).toArray r ∧ Nw w.heap.size w' v r ∧ Below w.heap.size w w' := by
  obtain ⟨h1, h2, h3, h4, h5⟩ := tE_zero h0
  have hall : ∀ e ∈ d.toList, eB e = true ∧ IsId e.id := fun e he => by
    refine ⟨List.all_eq_true.1 h2 e he, ?_⟩
    obtain ⟨i, hi, rfl⟩ := List.mem_iff_getElem.1 he
    have hi2 : i < d.size := by simpa using hi
    have := (hok i hi2).id
    rw [getElem!_pos d i hi2] at this
    exact this
  rw [h5] at hr
  have ha : d.toList.toArray = d := by simp
  exact edgesTree_any ao n c (sdL d.toList) d.toList 0 w ht hr (by rw [← hr.len]; exact h4) (by simp; omega) (ens_sd d.toList hall) (by rw [ha]; exact tef_zero h0)

end Go.Proofs.YtojgablpjdlegabGreatDoor
