/- TrC, TrD. -/
import Derived.Test.YtojgablpjdlegaaGreatDoorMT01
import Derived.Test.YtojgablpjdlegaaGreatDoorM10
import Derived.Maps.OwnSet
import Derived.Maps.Views
import Derived.StringKeys
/- Entries in memory; may they all be? -/
namespace Go.Proofs.YtojgablpjdlegaaGreatDoor
open Go.RowKit Go.Shelf

/-- An entry. -/
structure En where
  m : Int
  nm : List UInt8
  id : List Int
  deriving Inhabited

/-- An entry's cells. -/
abbrev ecl (e : En) : Nat → Value := ef e.m ⟨e.nm.toArray⟩ e.id

/-- An entry, by value. -/
abbrev eV (e : En) : Value := row (ecl e) 22

/-- Is it one that memory can hold? -/
structure okE (e : En) : Prop where
  lo : -9223372036854775808 ≤ e.m
  hi : e.m ≤ 9223372036854775807
  nm : e.nm.length ≤ 100000
  id : IsId e.id

/-- May it be? -/
def eB (e : En) : Bool := isM e.m && nmB e.nm

theorem ecl_one (e : En) (j : Nat) : (ecl e j).oneCell' = true := by
  unfold ecl ef
  repeat' split
  all_goals first | rfl | (unfold cl; rfl)

theorem size79 : (Tryz.prog.info? 79).map (·.size) = some 22 := by kernel_rfl

/-- The slice v reads as the entries d. -/
structure Es (w : World) (v : Value) (d : Array En) : Prop where
  sh : ∃ ao c, v = .slice ao d.size c ∧ d.size ≤ c ∧ (ao = none → d.size = 0 ∧ c = 0) ∧ ∀ ad, ao = some ad → ∀ i, i < d.size → ∀ j, j < 22 → w.cell? (ad.add (i * 22 + j)) = some (ecl d[i]! j)
  ok : ∀ i, i < d.size → okE d[i]!

theorem Es.keep {w w' : World} {v : Value} {d : Array En} (h : Es w v d) (hb : Below w.heap.size w w') : Es w' v d := by
  obtain ⟨ao, c, e, h1, h2, h3⟩ := h.sh
  exact ⟨⟨ao, c, e, h1, h2, fun ad had i hi j hj => by
    have := h3 ad had i hi j hj
    rw [hb.cell (World.block_lt_of_cell? w _ this)]
    exact this⟩, h.ok⟩

theorem Es.plain {w : World} {ao : Option Addr} {n c : Nat} {d : Array En} (h : Es w (.slice ao n c) d) (h0 : 0 < d.size) : ∃ b off, ao = some ⟨b, off, none⟩ ∧ ∀ W, Below w.heap.size w W → ∀ i, i < d.size → (loadVar 79 ⟨b, off + i * 22, none⟩).run Tryz.prog W = .ok (eV d[i]!) W := by
  obtain ⟨ao', c', e, h1, h2, h3⟩ := h.sh
  injection e with e1 e2 e3
  subst e1
  cases ao with
  | none => have := (h2 rfl).1; omega
  | some ad =>
    obtain ⟨b, off, spot⟩ := ad
    have hc := h3 _ rfl 0 h0 0 (by omega)
    have hspot : spot = none := by simpa [Addr.add] using World.cell?_spot hc
    subst hspot
    refine ⟨b, off, rfl, fun W hW i hi => ?_⟩
    have hr : W.rangeAt b (off + i * 22) (vals (ecl d[i]!) 22) := by
      intro j u hu
      have hj : j < 22 := by
        have := (List.getElem?_eq_some_iff.1 hu).1
        rwa [vals_len] at this
      rw [vals_get _ _ _ hj] at hu
      cases hu
      have := h3 _ rfl i hi j hj
      rw [Addr.add_lit] at this
      rw [hW.cell (World.block_lt_of_cell? w _ (by rw [Nat.add_assoc]; exact this)), Nat.add_assoc]
      exact this
    rw [run_loadVar_mid W b (off + i * 22) 79 _ _ hr Tryz.underlying79 rfl (by rw [vals_len]; exact size79)]

/-- All but those that may not be. -/
theorem all_upto (d : Array En) (h : ∀ i, i < d.size → eB d[i]! = true) : d.toList.all eB = true := by
  rw [List.all_eq_true]
  intro x hx
  obtain ⟨i, hi, rfl⟩ := List.mem_iff_getElem.1 hx
  have hi2 : i < d.size := by simpa using hi
  have := h i hi2
  rwa [getElem!_pos d i hi2] at this

theorem all_one (d : Array En) (i : Nat) (hi : i < d.size) (h : eB d[i]! = false) : d.toList.all eB = false := by
  rw [Bool.eq_false_iff]
  intro ha
  have := List.all_eq_true.1 ha d[i] (by simp)
  rw [getElem!_pos d i hi] at h
  rw [h] at this
  cases this

set_option maxRecDepth 100000 in
set_option maxHeartbeats 4000000 in
theorem areE_any (v : Value) (d : Array En) (w : World) (h : Es w v d) (ht : Ts w) (hsz : d.size < 100000) :
    Calls Tryz.prog 63 #[v] w fun e w' => e = .returned (.bool (d.toList.all eB)) ∧ Below w.heap.size w w' := by
  obtain ⟨ao, c, hv, _⟩ := h.sh
  obtain ⟨n, hn⟩ : ∃ n, n = d.size := ⟨_, rfl⟩
  rw [← hn] at hv
  subst hv
  have hz := zero79
  have HP : Hid (0 < n → ∃ b off, ao = some ⟨b, off, none⟩ ∧ ∀ W, Below w.heap.size w W → ∀ i, i < n → (loadVar 79 ⟨b, off + i * 22, none⟩).run Tryz.prog W = .ok (eV d[i]!) W) := fun h0 => by
    obtain ⟨b, off, h1, h2⟩ := h.plain (by omega)
    exact ⟨b, off, h1, fun W hW i hi => h2 W hW i (by omega)⟩
  have HOK : Hid (∀ i, i < n → okE d[i]!) := fun i hi => h.ok i (by omega)
  have HN : Hid (n = d.size ∧ n < 100000) := ⟨hn, by omega⟩
  have HT : Hid (∀ V, Below w.heap.size w V → Ts V) := fun V hV => ht.keep hV
  obtain ⟨r, hr⟩ : ∃ r, r = d.toList.all eB := ⟨_, rfl⟩
  have HR : Hid (r = d.toList.all eB) := hr
  rw [← hr]
  clear h ht hsz hn hr
  go_enter Tryz.func63, Tryz.ntmps63
  go_wp2_with fail
  go_loopw [7, 4] (fun s7 s4 wr => ∃ k : Nat, s7 = .int .i64 (k : Int) ∧ k ≤ n ∧ Hid (∀ i, i < k → eB d[i]! = true) ∧ Hid (Below w.heap.size w wr)) (fun s7 _ _ => n - (intOf s7).toNat)
  case atStart => exact ⟨0, rfl, Nat.zero_le _, fun i hi => absurd hi (by omega), Below.refl _ _⟩
  case round =>
    obtain ⟨k, rfl, hkn, HK, HB⟩ := hrel
    by_cases hlt : k < n
    · have hq : (k : Int) < (n : Int) := by omega
      have d1 : decide ((k : Int) < (n : Int)) = true := by simp; omega
      have hwk : IntKind.i64.wrap ((k : Int) + 1) = (k : Int) + 1 := by have := HN.out; rw [IntKind.wrap_i64]; omega
      obtain ⟨b, off, rfl, hld0⟩ := HP.out (by omega)
      have hld := hld0 wr HB.out k hlt
      have hok := HOK.out k hlt
      obtain ⟨x, hx⟩ : ∃ x, d[k]! = x := ⟨_, rfl⟩
      rw [hx] at hld hok
      have HX : Hid (d[k]! = x ∧ okE x) := ⟨hx, hok⟩
      have HLT : Hid (k < n) := hlt
      have HNB : Hid (Below wr.heap.size wr (wr.alloc (Obj.cells (vals (ef 0 ⟨#[]⟩ z20) 22).toArray 79))) := new_below _ _
      have HCL : Hid (∀ V, Below wr.heap.size wr V → (Calls Tryz.prog 97 #[.int .i64 x.m] V fun e w' => e = .returned (.bool (isM x.m)) ∧ Below V.heap.size V w') ∧ (Calls Tryz.prog 98 #[sv x.nm] V fun e w' => e = .returned (.bool (nmB x.nm)) ∧ Below V.heap.size V w')) := fun V hV => ⟨isMode_any x.m hok.lo hok.hi V (HT.out V (HB.out.trans (hV.mono HB.out.size))), entryName_any x.nm V (by have := hok.nm; omega)⟩
      clear hld0 hx hok hlt hkn
      go_wp2_with (first
        | (refine wpList_ldv rfl 79 _ rfl ⟨b, off + k * 22, none⟩ rfl (eV x) hld ?_; clear hld)
        | (refine wpList_st rfl 79 _ _ rfl wr.heap.size rfl (ecl x) rfl (rowIs_vals _ _ _ _) size79 (ecl_one x) ?_; intro w2 r2 f2; have R2 : Hid _ := r2; have F2 : Hid (Below wr.heap.size wr w2) := HNB.out.trans (f2.below _ HNB.out.size (fun i hi e => by omega)); have c0 : w2.cell? ⟨wr.heap.size, 0, none⟩ = some (.int .i64 x.m) := r2.cell (i := 0) (by omega); clear r2 f2))
      refine (HCL.out w2 F2.out).1.mono ?_
      rintro e w3 ⟨rfl, b3⟩
      have F3 : Hid (Below wr.heap.size wr w3) := F2.out.trans (b3.mono F2.out.size)
      have R3 : Hid (w3.rowIs wr.heap.size 79 22 (ecl x)) := rowIs_fr (P := fun _ => False) R2.out (Fr.ofBelow b3) (fun h => h)
      have c1 : w3.cell? ⟨wr.heap.size, 1, none⟩ = some (sv x.nm) := R3.out.cell (i := 1) (by omega)
      clear b3 c0
      by_cases hM : isM x.m = true
      · have HM1 : Hid (isM x.m = true) := hM
        go_wp2_with fail
        refine (HCL.out w3 F3.out).2.mono ?_
        rintro e w4 ⟨rfl, b4⟩
        have HB4 : Hid (Below w.heap.size w w4) := HB.out.trans ((F3.out.trans (b4.mono F3.out.size)).mono HB.out.size)
        clear b4
        by_cases hN : nmB x.nm = true
        · have HK1 : Hid (∀ i, i < k + 1 → eB d[i]! = true) := fun i hi => by
            by_cases e : i = k
            · subst e
              rw [HX.out.1]
              unfold eB
              rw [HM1.out, hN]
              rfl
            · exact HK.out i (by omega)
          go_wp2_with fail
          exact ⟨⟨k + 1, by simp, HLT.out, HK1, HB4⟩, by simp [intOf]; have := HLT.out; omega⟩
        · have hN' : nmB x.nm = false := by simpa using hN
          have HR0 : Hid (r = false) := by
            show r = false
            rw [HR.out]
            exact all_one d k (by rw [← HN.out.1]; exact HLT.out) (by rw [HX.out.1]; unfold eB; rw [hN', Bool.and_false])
          clear hN
          go_wp2_with fail
          go_ret
          exact ⟨by rw [HR0.out]; rfl, HB4.out⟩
      · have hM' : isM x.m = false := by simpa using hM
        have HR0 : Hid (r = false) := by
          show r = false
          rw [HR.out]
          exact all_one d k (by rw [← HN.out.1]; exact HLT.out) (by rw [HX.out.1]; unfold eB; rw [hM', Bool.false_and])
        have HB3 : Hid (Below w.heap.size w w3) := HB.out.trans (F3.out.mono HB.out.size)
        clear hM
        go_wp2_with fail
        go_ret
        exact ⟨by rw [HR0.out]; rfl, HB3.out⟩
    · obtain rfl : k = n := by omega
      have hq : ¬ (k : Int) < (k : Int) := by omega
      have d1 : decide ((k : Int) < (k : Int)) = false := by simp
      have HR1 : Hid (r = true) := by
        show r = true
        rw [HR.out]
        exact all_upto d (fun i hi => HK.out i (by rw [HN.out.1]; exact hi))
      go_wp2_with fail
      go_ret
      exact ⟨by rw [HR1.out]; rfl, HB.out⟩

end Go.Proofs.YtojgablpjdlegaaGreatDoor

/- Do entries rise, and is no name there twice? -/
namespace Go.Proofs.YtojgablpjdlegaaGreatDoor
open Go.RowKit Go.Shelf Go.Maps

/-- Names, one behind the other, each once. -/
def ad1 (acc : List (List UInt8)) (x : List UInt8) : List (List UInt8) := if x ∈ acc then acc else acc ++ [x]

theorem ad1_len : ∀ (xs acc : List (List UInt8)), (xs.foldl ad1 acc).length ≤ acc.length + xs.length
  | [], acc => by simp
  | x :: r, acc => by
    have ih := ad1_len r (ad1 acc x)
    rw [List.foldl_cons]
    have : (ad1 acc x).length ≤ acc.length + 1 := by unfold ad1; split <;> simp
    simp
    omega

theorem ad1_full : ∀ (xs acc : List (List UInt8)), (xs.foldl ad1 acc).length = acc.length + xs.length ↔ (xs.Nodup ∧ ∀ x ∈ xs, x ∉ acc)
  | [], acc => by simp
  | x :: r, acc => by
    rw [List.foldl_cons]
    by_cases hx : x ∈ acc
    · have e : ad1 acc x = acc := by unfold ad1; rw [if_pos hx]
      have := ad1_len r acc
      rw [e]
      constructor
      · intro h
        simp at h
        omega
      · rintro ⟨_, h⟩
        exact absurd hx (h x (by simp))
    · have e : ad1 acc x = acc ++ [x] := by unfold ad1; rw [if_neg hx]
      have ih := ad1_full r (acc ++ [x])
      rw [e]
      rw [show (acc ++ [x]).length + r.length = acc.length + (x :: r).length by simp; omega] at ih
      rw [ih]
      constructor
      · rintro ⟨h1, h2⟩
        refine ⟨List.nodup_cons.2 ⟨fun hm => absurd (show x ∈ acc ++ [x] by simp) (h2 x hm), h1⟩, fun y hy => ?_⟩
        rcases List.mem_cons.1 hy with rfl | hy
        · exact hx
        · exact fun hm => h2 y hy (by simp [hm])
      · rintro ⟨h1, h2⟩
        rw [List.nodup_cons] at h1
        refine ⟨h1.2, fun y hy hm => ?_⟩
        rw [List.mem_append, List.mem_singleton] at hm
        rcases hm with hm | rfl
        · exact h2 y (by simp [hy]) hm
        · exact h1.1 hy

/-- A name as a key. -/
abbrev nk (x : List UInt8) : Lit := .string x

theorem nk_key (x : List UInt8) : WideAt.IsKeyLit (nk x) := trivial

/-- The set of some names. -/
def Sx (xs : List (List UInt8)) : DataW Unit := setOf (.agg []) (xs.map nk)

theorem any_nk (acc : List (List UInt8)) (x : List UInt8) : (acc.map nk).any (fun y => y.sameKey (nk x)) = decide (x ∈ acc) := by
  induction acc with
  | nil => rfl
  | cons a l ih =>
    rw [List.map_cons, List.any_cons, ih]
    have : (nk a).sameKey (nk x) = (a == x) := rfl
    rw [this]
    by_cases e : a = x
    · subst e; simp
    · have : (a == x) = false := by simpa using e
      rw [this]
      simp
      intro h; exact absurd h.symm e

theorem fold_nk : ∀ (xs acc : List (List UInt8)), (xs.map nk).foldl addKey (acc.map nk) = (xs.foldl ad1 acc).map nk
  | [], acc => rfl
  | x :: r, acc => by
    rw [List.map_cons, List.foldl_cons, List.foldl_cons]
    have : addKey (acc.map nk) (nk x) = (ad1 acc x).map nk := by
      unfold addKey ad1
      rw [any_nk]
      by_cases hx : x ∈ acc
      · rw [if_pos (by simpa using hx), if_pos hx]
      · rw [if_neg (by simpa using hx), if_neg hx, List.map_append]
        rfl
    rw [this]
    exact fold_nk r _

theorem Sx_size (xs : List (List UInt8)) : Maps.size (Sx xs) = xs.length ↔ xs.Nodup := by
  have h := size_setOf (H := Unit) (.agg []) (xs.map nk) (fun x hx => by
    obtain ⟨y, _, rfl⟩ := List.mem_map.1 hx
    exact nk_key y)
  unfold Sx
  rw [h]
  have e := fold_nk xs []
  rw [List.map_nil] at e
  rw [e, List.length_map]
  have f := ad1_full xs []
  simpa using f

theorem Sx_snoc (xs : List (List UInt8)) (x : List UInt8) : Sx (xs ++ [x]) = (Sx xs).put (nk x) (.agg []) := by
  unfold Sx
  rw [List.map_append, List.map_cons, List.map_nil, setOf_snoc]

theorem law9 : Keyed Tryz.prog 9 := string_keyed Tryz.underlying9

theorem key9 (x : List UInt8) (hs : x.length ≤ 1000000) : keyOf Tryz.prog 9 (sv x) = some (nk x) := Go.WideMaps.keyOf_string_mk Tryz.underlying9 (by rw [size_sv]; unfold maxLen; omega)

/-- The block b is the set of these names. -/
abbrev Om (w : World) (b n : Nat) (xs : List (List UInt8)) : Prop := w.ownsMap Tryz.prog 9 (unitElem (H := Unit)) b n (Sx xs)

theorem Om.fr {P : Nat → Prop} {w w' : World} {b n : Nat} {xs : List (List UInt8)} (h : Om w b n xs) (hf : Fr P w w') (hb : ¬ P b) : Om w' b n xs := by
  have hlt := World.ownsMap.lt h
  obtain ⟨es, clock, e, hh⟩ := h
  exact ⟨es, clock, (hf.block b hlt hb).trans e, hh⟩

/-- The order of two entries. -/
def od (a b : En) : Int := ord a.m ⟨a.nm.toArray⟩ b.m ⟨b.nm.toArray⟩

/-- The first k rise. -/
def Ri (d : Array En) (k : Nat) : Prop := ∀ i, 0 < i → i < k → od d[i - 1]! d[i]! < 0

/-- The names. -/
abbrev nms (d : Array En) : List (List UInt8) := d.toList.map En.nm

theorem nms_take (d : Array En) (k : Nat) (hk : k < d.size) : (nms d).take (k + 1) = (nms d).take k ++ [d[k]!.nm] := by
  unfold nms
  rw [List.take_succ_eq_append_getElem (by simpa using hk)]
  simp [getElem!_pos d k hk]

end Go.Proofs.YtojgablpjdlegaaGreatDoor
