/- List. -/
import Derived.Test.YtmpfbemdljfamaaWCrash
namespace Go.Proofs.Ytmpfbemdljfamaa
open Go.RowKit Go.Maps Go.Sort

theorem Try.info9 : (Try.prog.info? 9).map (fun i => (i.zero, i.size, i.bytes)) = some (some (.string { data := #[] }), 1, 16) := by kernel_rfl

set_option maxRecDepth 100000 in
theorem cutp_yes (s p : ByteArray) (w : World) (h1 : p.size ≤ s.size) (h2 : ((s.extract 0 p.size).toList == p.toList) = true) :
    Calls Try.prog 46 #[.string s, .string p] w fun e w' => e = .returned (.tuple #[.string (s.extract p.size s.size), .bool true]) ∧ w' = w := by
  have q1 : decide ((p.size : Int) ≤ (s.size : Int)) = true := by simp; omega
  go_enter Try.func46, Try.ntmps46
  go_wp2
  go_ret2
  exact ⟨rfl, rfl⟩

/-- A key without what stands ahead of a directory's files. -/
def stripK (n : Nat) : Lit → List UInt8
  | .string l => ((key l).extract n (key l).size).data.toList
  | _ => []

theorem strike_perm (g : Lit → List UInt8) (left : Lit → Bool) (k : Lit) (x : DataW Unit) (hl : left k = true) : ∀ (es : List (Lit × DataW Unit)), es.Pairwise (fun p q => p.1 ≠ q.1) → (∀ p ∈ es, WideAt.IsKeyLit p.1) → (k, x) ∈ es →
    (((es.filter fun p => !left p.1).map fun p => g p.1) ++ [g k]).Perm ((es.filter fun p => !(left p.1 && !p.1.sameKey k)).map fun p => g p.1) := by
  intro es
  induction es with
  | nil => intro _ _ h; cases h
  | cons a es ih =>
    intro hp hk hm
    obtain ⟨h1, h2⟩ := List.pairwise_cons.1 hp
    rcases List.mem_cons.1 hm with e | e
    · subst e
      have kk : k.sameKey k = true := WideAt.sameKey_self (hk _ List.mem_cons_self)
      have e1 : es.filter (fun p => !(left p.1 && !p.1.sameKey k)) = es.filter (fun p => !left p.1) := by
        refine List.filter_congr fun p hp => ?_
        rw [sameKey_ne (show p.1 ≠ k from fun e => h1 p hp e.symm)]
        simp
      have e2 : ((k, x) :: es).filter (fun p => !left p.1) = es.filter (fun p => !left p.1) := by simp [hl]
      have e3 : ((k, x) :: es).filter (fun p => !(left p.1 && !p.1.sameKey k)) = (k, x) :: es.filter (fun p => !left p.1) := by rw [List.filter_cons, if_pos (by simp [kk]), e1]
      rw [e2, e3]
      exact List.perm_append_comm
    · have hne : a.1 ≠ k := h1 (k, x) e
      have ih' := ih h2 (fun p hp => hk p (List.mem_cons_of_mem _ hp)) e
      have hs := sameKey_ne hne
      cases hla : left a.1 with
      | false =>
        rw [List.filter_cons, if_pos (by simp [hla]), List.filter_cons, if_pos (by simp [hla])]
        exact ih'.cons _
      | true =>
        rw [List.filter_cons, if_neg (by simp [hla]), List.filter_cons, if_neg (by simp [hla, hs])]
        exact ih'

theorem str_key {x : ByteArray} {kl : Lit} (h : keyOf Try.prog 9 (.string x) = some kl) : kl = nm x := by
  simp [keyOf, Try.underlying9, mapKey] at h
  obtain ⟨_, h⟩ := h
  exact h.symm

theorem encStr_of (b : ByteArray) : encStr b.data.toList = .string b := by
  simp [encStr]

theorem ranges_kd {w : World} {b r n cnt : Nat} {D : DataW Unit} {left : Lit → Bool} (h : w.ranges Try.prog 9 ptrE b r n D left cnt) : kd w r = none ∧ kd w b = none := by
  obtain ⟨es, clock, since, seen, c0, hb, F, hs, hD, hr, _⟩ := h
  exact ⟨by simp [kd, hr], by simp [kd, hb]⟩

theorem own_up {w : World} {base e s n : Nat} {v : Value} {xs : List Value} (h : w.ownsRow 0 e s v n xs) (hb : ∀ g, v.ownBlock = some g → base ≤ g) : w.ownsRow base e s v n xs :=
  ⟨h.1, h.2.elim .inl fun ⟨g, cap, cur, h1, _, h3⟩ => .inr ⟨g, cap, cur, h1, hb g (by rw [h1]; rfl), h3⟩⟩

/-- Texts of one's own, sorted. -/
theorem sort_any (K : Nat) (v : Value) (ls : List (List UInt8)) (w : World) (h : w.ownsRow K 9 1 v ls.length (ls.map encStr)) (hl : ls.length ≤ 1000000) :
    Calls Try.prog 47 #[v] w fun e w' => e = .returned (.tuple #[]) ∧ w'.ownsRow K 9 1 v ls.length ((ls.mergeSort (fun x y => decide (x ≤ y))).map encStr) ∧ w.grownBy w' v.ownBlock := by
  rcases h.2 with ⟨rfl, hz⟩ | ⟨g, cap, cur, rfl, hbase, hgb, r1, r2, r3, r4⟩
  · have e : ls = [] := List.eq_nil_of_length_eq_zero hz
    subst e
    refine (AnyM.slices_Sort_string_none Try.sort47 none 0 w).mono ?_
    rintro e w' ⟨rfl, rfl⟩
    exact ⟨rfl, by simpa using h, World.grownBy.refl _ _⟩
  · have hH : Holds encStr w g 0 ls.toArray := holds_of_block hgb (by simpa using r4)
    have hgl : g < w.heap.size := (Array.getElem?_eq_some_iff.1 hgb).1
    refine (AnyM.slices_Sort_string Try.sort47 g 0 cap ls w hH hgl (by omega)).mono ?_
    rintro e w' ⟨rfl, n, os, rfl⟩
    exact ⟨rfl, ownsRow_sorted (by simp) hbase hgb r1 r2 r3, grownBy_sorted _⟩

set_option maxRecDepth 100000 in
set_option maxHeartbeats 2000000 in
theorem list_any (d : Nat) (O : Nat → Prop) (S : St) (a : ByteArray) (w : World) (h : Dk w O d S) (ha : Part a) (ho : S.off = false) (hz : Maps.size S.now ≤ 1000000)
    (hall : ∀ p ∈ ents S.now, ∀ x : ByteArray, p.1 = nm x → (a ++ slash).size ≤ x.size ∧ ((x.extract 0 (a ++ slash).size).toList == (a ++ slash).toList) = true) :
    Calls Try.prog 16 #[.pointer (some ⟨d, 0, none⟩), .string a] w fun e w' => ∃ v ls, e = .returned (.tuple #[v, .int .i64 0]) ∧ List.Perm ls ((ents S.now).map fun p => stripK (a ++ slash).size p.1) ∧ w'.ownsRow w.heap.size 9 1 v ls.length ((ls.mergeSort (fun x y => decide (x ≤ y))).map encStr) ∧ RowKit.Below w.heap.size w w' := by
  have c4 := h.row.cell (i := 4) (by omega)
  simp only [dc, ho] at c4
  have hpart := isPart_yes a w ha
  have Hh : Hid (Dk w O d S) := h
  obtain ⟨es, hD, hap, hkeys⟩ := World.ownsMap.entries h.now law9
  rw [hD] at hall hz ⊢
  have hents : ents (.map es) = es := rfl
  rw [hents] at hall ⊢
  clear h hents
  obtain ⟨pre, hpre⟩ : ∃ pre, pre = a ++ slash := ⟨_, rfl⟩
  rw [← hpre] at hall ⊢
  have HPre : Hid (pre = a ++ slash) := hpre
  have HD : Hid (S.now = .map es) := hD
  clear hpre hD
  go_enter Try.func16, Try.ntmps16
  go_wp2_with fail
  refine hpart.mono ?_
  rintro e w1 ⟨rfl, b1⟩
  have D1 := Hh.out.keep b1
  have c1 := D1.row.cell (i := 1) (by omega)
  simp only [dc] at c1
  obtain ⟨n, hown⟩ : ∃ n, w1.ownsMap Try.prog 9 ptrE S.nb n (.map es) := ⟨Maps.size S.now, by have := D1.now; unfold Mp at this; rw [HD.out] at this ⊢; exact this⟩
  clear hpart c4
  go_wp2_with (at_range; refine wpList_range_own _ rfl _ 45 rfl 9 51 law9 Try.underlying45 ptrE S.nb n _ rfl hown ?_; intro w0 hrg0 hg0 hs0)
  go_frame
  have hsz : es.length ≤ 1000000 := hz
  go_loopw [6] (fun s6 wr => ∃ (left : Lit → Bool) (cnt : Nat) (acc : List (List UInt8)), wr.ranges Try.prog 9 ptrE S.nb w1.heap.size n (.map es) left cnt ∧ wr.ownsRow w.heap.size 9 1 s6 acc.length (acc.map encStr) ∧ acc.Perm ((es.filter fun p => !left p.1).map fun p => stripK pre.size p.1) ∧ RowKit.Below w.heap.size w wr ∧ w1.heap.size ≤ wr.heap.size)
    (fun _ wr => wr.rangeLeft S.nb w1.heap.size)
  case atStart =>
    refine ⟨_, _, [], hrg0, World.ownsRow_nil _ _ _ _, ?_, b1.grown hg0 b1.size (fun k e => by cases e), by omega⟩
    have : (es.filter fun p => !(Maps.has (.map es) p.1)) = [] := by
      refine List.filter_eq_nil_iff.2 (fun p hp => ?_)
      have : Maps.has (.map es) p.1 = true := by
        rw [has_eq]
        simp only [List.any_eq_true]
        exact ⟨p, hp, WideAt.sameKey_self (hkeys p hp)⟩
      rw [this]
      simp
    rw [this]
    exact List.Perm.refl _
  case round =>
    obtain ⟨left, cnt, acc, hrg, hown6, hperm, hbl, hzz⟩ := hrel
    have hacl : acc.length ≤ es.length := by
      rw [hperm.length_eq, List.length_map]
      exact List.length_filter_le _ _
    obtain ⟨av, cv, hv6⟩ := own_shape hown6
    subst hv6
    have hk6 := ranges_kd hrg
    go_wp2_with (at_next; refine wpList_next_ranges _ rfl _ rfl 9 law9 ptrE Value.string pv (fun key kl h => str_inv h) (fun v y h => ⟨_, ptrE_inv h⟩) S.nb w1.heap.size n _ _ _ rfl hrg ?_ ?_)
    · intro _ hl0
      have hall0 : (es.filter fun p => !left p.1) = es := List.filter_eq_self.2 (fun p _ => by rw [hl0]; rfl)
      rw [hall0] at hperm
      have hso := sort_any _ _ _ _ hown6 (by omega)
      obtain ⟨N, hN⟩ : ∃ N, N = acc.length := ⟨_, rfl⟩
      rw [← hN] at hso
      have HN : Hid (N = acc.length) := hN
      have HO : Hid (wr.ownsRow w.heap.size 9 1 (.slice av acc.length cv) acc.length (acc.map encStr)) := hown6
      simp only [← hN]
      clear hN hown6
      go_wp2_with (go_at_call 47; refine hso.mono ?_; rintro e w9 ⟨rfl, o9, g9⟩)
      go_ret2
      refine ⟨_, acc, rfl, hperm, ?_, ?_⟩
      · rw [← HN.out]; exact o9
      · exact hbl.grown g9 hbl.size (fun k e => own_ge HO.out (by rw [← HN.out]; exact e))
    · intro x c kl y yp w2 cnt1 hkey hlk hv hat hrg1 hlt hg1 hs1 hen
      have hmem := at_mem hat
      have hkl := str_key hkey
      have hpx := hall _ hmem x hkl
      have hcp := cutp_yes x (a ++ slash) w2 (by rw [← HPre.out]; exact hpx.1) (by rw [← HPre.out]; exact hpx.2)
      have hb2 : RowKit.Below w.heap.size w w2 := hbl.grown hg1 hbl.size (fun k e => by cases e; exact b1.size)
      obtain ⟨z, hz2⟩ : ∃ z, z = x.extract (a ++ slash).size x.size := ⟨_, rfl⟩
      rw [← hz2] at hcp
      have hst : stripK pre.size kl = z.data.toList := by
        rw [hkl, hz2, HPre.out]
        rfl
      have hsp := strike_perm (stripK pre.size) left kl y hlk es hap hkeys hmem
      rw [hst] at hsp
      have hpm := (hperm.append_right [z.data.toList]).trans hsp
      clear hsp
      have hne6 : (Value.slice av acc.length cv).ownBlock = none ∨ (Value.slice av acc.length cv).ownBlock ≠ some w1.heap.size := by
        cases hoo : (Value.slice av acc.length cv).ownBlock with
        | none => exact .inl rfl
        | some g =>
          refine .inr (fun e => ?_)
          cases e
          have := kd_own hown6 hoo
          rw [hk6.1] at this
          cases this
      have o2 := hown6.kept hg1 hne6
      have o3 := own0 (o2.alloc (.cells #[.string z] 9))
      have rg3 := hrg1.alloc (.cells #[.string z] 9)
      have k3 := ranges_kd rg3
      have hlow : ∀ g, (Value.slice av acc.length cv).ownBlock = some g → w.heap.size ≤ g := fun g e => own_ge hown6 e
      obtain ⟨N, hN⟩ : ∃ N, N = acc.length := ⟨_, rfl⟩
      rw [← hN] at o3 hlow hacl
      have HN : Hid (N = acc.length) := hN
      simp only [← hN]
      have HPm : Hid ((acc ++ [z.data.toList]).Perm ((es.filter fun p => !(left p.1 && !p.1.sameKey kl)).map fun p => stripK pre.size p.1)) := hpm
      have hen' : (Instr.entry (.pointer (some ⟨w1.heap.size, 0, none⟩))).run Try.prog w2 = .ok (.tuple #[.string x, pv c]) w2 := hen
      have Hs1 : Hid (w2.heap.size = wr.heap.size) := hs1
      clear hN hpm hst hz2 hkl hpx hmem hat hv hall hperm hown6 o2 hen hs1 hs0
      have hasz : ¬ 9223372036854775807 < a.size + 1 := by have := ha.hi; omega
      go_upto_region 11 with (go_at_call 46; refine hcp.mono ?_; rintro e w3 ⟨rfl, hw3⟩; subst w3)
      go_wp2_with (at_builtin; refine wpList_app rfl _ _ 35 rfl 9 (.string { data := #[] }) 16 Try.underlying35 Try.info9 rfl (.slice av N cv) N _ rfl o3 (some ⟨w2.heap.size, 0, none⟩) 1 1 [.string z] rfl rfl (fun e => by cases e) ?_ ?_ (by unfold maxLen; omega) (by omega) ?_)
      · rintro ad hh j u hj
        cases hh
        match j with
        | 0 =>
          cases hj
          simp [Addr.add]
        | j + 1 => cases hj
      · intro u hu
        cases List.mem_singleton.1 hu
        rfl
      · intro av' cv' w4 o4 g4 l4
        have hb4 : RowKit.Below w.heap.size w w4 := (hb2.alloc hb2.size _).grown g4 (by simp; have := hb2.size; omega) (fun k e => hlow k e)
        have rg4 := rg3.kept g4 (fun e => by
          have := kd_own o3 e.symm
          rw [k3.2] at this; cases this) (fun e => by
          have := kd_own o3 e.symm
          rw [k3.1] at this; cases this)
        go_wp2
        go_roundw
        case rel =>
          refine ⟨_, cnt1, acc ++ [z.data.toList], rg4, ?_, HPm.out, hb4, ?_⟩
          · have e1 : (acc ++ [z.data.toList]).length = N + 1 := by rw [List.length_append, HN.out]; rfl
            rw [e1, List.map_append, List.map_cons, List.map_nil, encStr_of]
            refine own_up o4 (fun g e => ?_)
            rcases l4 g e with e' | e'
            · exact hlow g e'
            · rw [e']; have := hb2.size; simp; omega
          · have := hb4.size
            have h2 := g4.size
            have h3 : w2.heap.size = wr.heap.size := Hs1.out
            simp at h2
            omega
        case measure => rw [rg4.left_eq, hrg.left_eq]; exact hlt

end Go.Proofs.Ytmpfbemdljfamaa
