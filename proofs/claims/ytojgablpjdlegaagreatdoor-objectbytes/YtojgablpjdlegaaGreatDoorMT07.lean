/- Rb, Rc. -/
import Derived.Test.YtojgablpjdlegaaGreatDoorMT06
import Derived.Test.YtojgablpjdlegaaGreatDoorM19
/- The document's keys, its order. -/
namespace Go.Proofs.YtojgablpjdlegaaGreatDoor
open Go.RowKit Go.Shelf

theorem zero66 (w : World) : (zeroValue 66).run Tryz.prog w = .ok (env 0 ⟨#[]⟩ z20) w := by kernel_rfl

set_option maxRecDepth 100000 in
theorem rkey_any (m : Int) (s : ByteArray) (x : List Int) (w : World) (hs : s.size ≤ 1000000) : Calls Tryz.prog 72 #[env m s x] w fun e w' => e = .returned (.string (plc m s)) ∧ Below w.heap.size w w' := by
  have hz := zero66
  have hr := rowIs_vals w (ef m s x) 22 66
  have c0 : (w.alloc (Obj.cells (vals (ef m s x) 22).toArray 66)).cell? ⟨w.heap.size, 0, none⟩ = some (.int .i64 m) := hr.cell (i := 0) (by omega)
  have c1 : (w.alloc (Obj.cells (vals (ef m s x) 22).toArray 66)).cell? ⟨w.heap.size, 1, none⟩ = some (.string s) := hr.cell (i := 1) (by omega)
  have HB : Hid (Below w.heap.size w (w.alloc (Obj.cells (vals (ef m s x) 22).toArray 66))) := new_below _ _
  clear hr
  by_cases hm : m = 16384
  · have e : plc m s = s ++ ⟨#[47]⟩ := if_pos hm
    rw [e]
    subst hm
    have q : (9223372036854775807 < s.size + 1) = False := by simp; omega
    clear e hs
    go_enter Tryz.func72, Tryz.ntmps72
    go_wp2
    go_ret
    exact ⟨rfl, HB.out⟩
  · have e : plc m s = s := if_neg hm
    have d : (m == 16384) = false := by simp; omega
    rw [e]
    clear e
    go_enter Tryz.func72, Tryz.ntmps72
    go_wp2
    go_ret
    exact ⟨rfl, HB.out⟩

theorem less_cmp : ∀ a b : List UInt8, Op.bytesLess a b = (Lib.compareBytes a b == -1)
  | [], [] => rfl
  | [], _ :: _ => rfl
  | _ :: _, [] => rfl
  | a :: x, b :: y => by
    have ih := less_cmp x y
    unfold Op.bytesLess Lib.compareBytes
    by_cases h1 : a < b
    · rw [if_pos h1]
      simp [h1]
    · rw [if_neg h1]
      by_cases h2 : b < a
      · rw [if_pos h2]
        have hne : (a == b) = false := by
          rw [beq_eq_false_iff_ne]
          rintro rfl
          exact h1 h2
        rw [hne]
        simp [h1]
      · rw [if_neg h2]
        have he : a = b := by
          apply UInt8.toNat_inj.1
          have h3 : ¬ a.toNat < b.toNat := h1
          have h4 : ¬ b.toNat < a.toNat := h2
          omega
        subst he
        simp [ih, h1]

theorem cmp_vals : ∀ a b : List UInt8, Lib.compareBytes a b = -1 ∨ Lib.compareBytes a b = 0 ∨ Lib.compareBytes a b = 1
  | [], [] => .inr (.inl rfl)
  | [], _ :: _ => .inl rfl
  | _ :: _, [] => .inr (.inr rfl)
  | a :: x, b :: y => by
    unfold Lib.compareBytes
    by_cases h1 : a < b
    · rw [if_pos h1]; exact .inl rfl
    · rw [if_neg h1]
      by_cases h2 : b < a
      · rw [if_pos h2]; exact .inr (.inr rfl)
      · rw [if_neg h2]; exact cmp_vals x y

theorem c72 (vs : Array Value) (w : World) : (callFunc 72 vs).run Tryz.prog w = .ok (.enter 72 vs) w := by simp [go_sem]

theorem load66 {w : World} {b : Nat} {m : Int} {s : ByteArray} {x : List Int} (h : w.rowIs b 66 22 (ef m s x)) : (loadVar 66 ⟨b, 0, none⟩).run Tryz.prog w = .ok (env m s x) w := load_all 66 _ h Tryz.underlying66 rfl (by kernel_rfl)

set_option maxRecDepth 100000 in
set_option maxHeartbeats 4000000 in
theorem rorder_any (m : Int) (s : ByteArray) (x : List Int) (n : Int) (t : ByteArray) (y : List Int) (w : World) (hs : s.size ≤ 1000000) (ht : t.size ≤ 1000000) : Calls Tryz.prog 40 #[env m s x, env n t y] w fun e w' => e = .returned (.int .i64 (ord m s n t)) ∧ Below w.heap.size w w' := by
  have hz := zero66
  obtain ⟨W, hW⟩ : ∃ W, W = (w.alloc (Obj.cells (vals (ef m s x) 22).toArray 66)).alloc (Obj.cells (vals (ef n t y) 22).toArray 66) := ⟨_, rfl⟩
  have b0 := new_below w (Obj.cells (vals (ef m s x) 22).toArray 66)
  have bW : Below w.heap.size w W := by rw [hW]; exact b0.alloc b0.size _
  have r1 : W.rowIs w.heap.size 66 22 (ef m s x) := by rw [hW]; exact rowIs_fr (P := fun _ => False) (rowIs_vals w _ 22 66) (Fr.ofBelow (new_below _ _)) (fun h => h)
  have r2 : W.rowIs (w.heap.size + 1) 66 22 (ef n t y) := by rw [hW]; have := rowIs_vals (w.alloc (Obj.cells (vals (ef m s x) 22).toArray 66)) (ef n t y) 22 66; simpa using this
  obtain ⟨A, hA⟩ : ∃ A, A = plc m s := ⟨_, rfl⟩
  obtain ⟨C, hC⟩ : ∃ C, C = plc n t := ⟨_, rfl⟩
  have HB : Hid (Below w.heap.size w W) := bW
  have HW : Hid (W = (w.alloc (Obj.cells (vals (ef m s x) 22).toArray 66)).alloc (Obj.cells (vals (ef n t y) 22).toArray 66)) := hW
  have HL : Hid (∀ V, Below W.heap.size W V → (loadVar 66 ⟨w.heap.size, 0, none⟩).run Tryz.prog V = .ok (env m s x) V ∧ (loadVar 66 ⟨w.heap.size + 1, 0, none⟩).run Tryz.prog V = .ok (env n t y) V) := fun V hV => ⟨load66 (rowIs_fr (P := fun _ => False) r1 (Fr.ofBelow hV) (fun h => h)), load66 (rowIs_fr (P := fun _ => False) r2 (Fr.ofBelow hV) (fun h => h))⟩
  have HK : Hid (∀ V : World, (Calls Tryz.prog 72 #[env m s x] V fun e w' => e = .returned (.string A) ∧ Below V.heap.size V w') ∧ (Calls Tryz.prog 72 #[env n t y] V fun e w' => e = .returned (.string C) ∧ Below V.heap.size V w')) := fun V => ⟨by rw [hA]; exact rkey_any m s x V hs, by rw [hC]; exact rkey_any n t y V ht⟩
  have hlt : Op.bytesLess A.toList C.toList = (Lib.compareBytes A.data.toList C.data.toList == -1) := by rw [ByteArray.toList_eq, ByteArray.toList_eq]; exact less_cmp _ _
  have hvals := cmp_vals A.data.toList C.data.toList
  have hzr := cmp_zero A.data.toList C.data.toList
  have HO : Hid (ord m s n t = Lib.compareBytes A.data.toList C.data.toList) := by show _ = _; rw [hA, hC]; rfl
  have HH : Hid (Lib.compareBytes A.data.toList C.data.toList = ord m s n t) := HO.out.symm
  have HZ : Hid (Lib.compareBytes A.data.toList C.data.toList = 0 → (A.toList == C.toList) = true) := fun h => by
    rw [ByteArray.toList_eq, ByteArray.toList_eq, hzr h]
    simp
  have HN : Hid (Lib.compareBytes A.data.toList C.data.toList = 1 → (A.toList == C.toList) = false) := fun h => by
    rw [beq_eq_false_iff_ne]
    intro e
    rw [ByteArray.toList_eq, ByteArray.toList_eq] at e
    rw [e, cmp_refl] at h
    cases h
  clear hA hC hs ht bW b0 r1 r2 hW hzr
  rcases hvals with hv | hv | hv
  · have l1 : Op.bytesLess A.toList C.toList = true := by rw [hlt, hv]; rfl
    have HOV : Hid (ord m s n t = -1) := by show _ = _; rw [← HH.out, hv]
    clear hlt hv
    go_enter Tryz.func40, Tryz.ntmps40
    go_wp2_with fail
    rw [← HW.out]
    refine wp_region_quiet (C := fun V => Below W.heap.size W V) (by kernel_rfl) (by kernel_rfl) (Below.refl _ _).drew ?_
    repeat
      refine wpQuiet_step (fun K hK => ?_)
      first
        | (refine q_load (by rfl) 66 _ rfl ⟨w.heap.size, 0, none⟩ rfl (env m s x) (fun V hV => (HL.out V ((Below.refl W.heap.size W).trans (hV.mono ((Below.refl W.heap.size W)).size))).1) (hK _ ?_); clear hK K)
        | (refine q_load (by rfl) 66 _ rfl ⟨w.heap.size + 1, 0, none⟩ rfl (env n t y) (fun V hV => (HL.out V ((Below.refl W.heap.size W).trans (hV.mono ((Below.refl W.heap.size W)).size))).2) (hK _ ?_); clear hK K)
        | (refine q_call1 (by rfl) 72 c72 _ _ rfl (env m s x) rfl (.string A) (fun V hV => (HK.out V).1.mono (fun e w' ⟨g1, g2⟩ => ⟨g1, hV.trans (g2.mono hV.size)⟩)) (hK _ ?_); clear hK K)
        | (refine q_call1 (by rfl) 72 c72 _ _ rfl (env n t y) rfl (.string C) (fun V hV => (HK.out V).2.mono (fun e w' ⟨g1, g2⟩ => ⟨g1, hV.trans (g2.mono hV.size)⟩)) (hK _ ?_); clear hK K)
        | (go_simp; refine ⟨_, fun wq hs => rfl, hK _ ?_⟩; clear hK K)
    refine wpQuiet_nil ?_
    intro w2 hB2
    have HB2 : Hid (Below W.heap.size W w2) := hB2
    clear hB2
    go_wp2_with fail
    go_ret
    exact ⟨by rw [HOV.out]; rfl, HB.out.trans (HB2.out.mono HB.out.size)⟩
  · have l1 : Op.bytesLess A.toList C.toList = false := by rw [hlt, hv]; rfl
    have l2 : (A.toList == C.toList) = true := HZ.out hv
    have HOV : Hid (ord m s n t = 0) := by show _ = _; rw [← HH.out, hv]
    clear hlt hv
    go_enter Tryz.func40, Tryz.ntmps40
    go_wp2_with fail
    rw [← HW.out]
    refine wp_region_quiet (C := fun V => Below W.heap.size W V) (by kernel_rfl) (by kernel_rfl) (Below.refl _ _).drew ?_
    repeat
      refine wpQuiet_step (fun K hK => ?_)
      first
        | (refine q_load (by rfl) 66 _ rfl ⟨w.heap.size, 0, none⟩ rfl (env m s x) (fun V hV => (HL.out V ((Below.refl W.heap.size W).trans (hV.mono ((Below.refl W.heap.size W)).size))).1) (hK _ ?_); clear hK K)
        | (refine q_load (by rfl) 66 _ rfl ⟨w.heap.size + 1, 0, none⟩ rfl (env n t y) (fun V hV => (HL.out V ((Below.refl W.heap.size W).trans (hV.mono ((Below.refl W.heap.size W)).size))).2) (hK _ ?_); clear hK K)
        | (refine q_call1 (by rfl) 72 c72 _ _ rfl (env m s x) rfl (.string A) (fun V hV => (HK.out V).1.mono (fun e w' ⟨g1, g2⟩ => ⟨g1, hV.trans (g2.mono hV.size)⟩)) (hK _ ?_); clear hK K)
        | (refine q_call1 (by rfl) 72 c72 _ _ rfl (env n t y) rfl (.string C) (fun V hV => (HK.out V).2.mono (fun e w' ⟨g1, g2⟩ => ⟨g1, hV.trans (g2.mono hV.size)⟩)) (hK _ ?_); clear hK K)
        | (go_simp; refine ⟨_, fun wq hs => rfl, hK _ ?_⟩; clear hK K)
    refine wpQuiet_nil ?_
    intro w2 hB2
    have HB2 : Hid (Below W.heap.size W w2) := hB2
    clear hB2
    go_wp2_with fail
    refine wp_region_quiet (C := fun V => Below w2.heap.size w2 V) (by kernel_rfl) (by kernel_rfl) (Below.refl _ _).drew ?_
    repeat
      refine wpQuiet_step (fun K hK => ?_)
      first
        | (refine q_load (by rfl) 66 _ rfl ⟨w.heap.size, 0, none⟩ rfl (env m s x) (fun V hV => (HL.out V (HB2.out.trans (hV.mono (HB2.out).size))).1) (hK _ ?_); clear hK K)
        | (refine q_load (by rfl) 66 _ rfl ⟨w.heap.size + 1, 0, none⟩ rfl (env n t y) (fun V hV => (HL.out V (HB2.out.trans (hV.mono (HB2.out).size))).2) (hK _ ?_); clear hK K)
        | (refine q_call1 (by rfl) 72 c72 _ _ rfl (env m s x) rfl (.string A) (fun V hV => (HK.out V).1.mono (fun e w' ⟨g1, g2⟩ => ⟨g1, hV.trans (g2.mono hV.size)⟩)) (hK _ ?_); clear hK K)
        | (refine q_call1 (by rfl) 72 c72 _ _ rfl (env n t y) rfl (.string C) (fun V hV => (HK.out V).2.mono (fun e w' ⟨g1, g2⟩ => ⟨g1, hV.trans (g2.mono hV.size)⟩)) (hK _ ?_); clear hK K)
        | (go_simp; refine ⟨_, fun wq hs => rfl, hK _ ?_⟩; clear hK K)
    refine wpQuiet_nil ?_
    intro w3 hB3
    have HB3 : Hid (Below W.heap.size W w3) := HB2.out.trans (hB3.mono HB2.out.size)
    clear hB3
    go_wp2_with fail
    go_ret
    exact ⟨by rw [HOV.out]; rfl, HB.out.trans (HB3.out.mono HB.out.size)⟩
  · have l1 : Op.bytesLess A.toList C.toList = false := by rw [hlt, hv]; rfl
    have l2 : (A.toList == C.toList) = false := HN.out hv
    have HOV : Hid (ord m s n t = 1) := by show _ = _; rw [← HH.out, hv]
    clear hlt hv
    go_enter Tryz.func40, Tryz.ntmps40
    go_wp2_with fail
    rw [← HW.out]
    refine wp_region_quiet (C := fun V => Below W.heap.size W V) (by kernel_rfl) (by kernel_rfl) (Below.refl _ _).drew ?_
    repeat
      refine wpQuiet_step (fun K hK => ?_)
      first
        | (refine q_load (by rfl) 66 _ rfl ⟨w.heap.size, 0, none⟩ rfl (env m s x) (fun V hV => (HL.out V ((Below.refl W.heap.size W).trans (hV.mono ((Below.refl W.heap.size W)).size))).1) (hK _ ?_); clear hK K)
        | (refine q_load (by rfl) 66 _ rfl ⟨w.heap.size + 1, 0, none⟩ rfl (env n t y) (fun V hV => (HL.out V ((Below.refl W.heap.size W).trans (hV.mono ((Below.refl W.heap.size W)).size))).2) (hK _ ?_); clear hK K)
        | (refine q_call1 (by rfl) 72 c72 _ _ rfl (env m s x) rfl (.string A) (fun V hV => (HK.out V).1.mono (fun e w' ⟨g1, g2⟩ => ⟨g1, hV.trans (g2.mono hV.size)⟩)) (hK _ ?_); clear hK K)
        | (refine q_call1 (by rfl) 72 c72 _ _ rfl (env n t y) rfl (.string C) (fun V hV => (HK.out V).2.mono (fun e w' ⟨g1, g2⟩ => ⟨g1, hV.trans (g2.mono hV.size)⟩)) (hK _ ?_); clear hK K)
        | (go_simp; refine ⟨_, fun wq hs => rfl, hK _ ?_⟩; clear hK K)
    refine wpQuiet_nil ?_
    intro w2 hB2
    have HB2 : Hid (Below W.heap.size W w2) := hB2
    clear hB2
    go_wp2_with fail
    refine wp_region_quiet (C := fun V => Below w2.heap.size w2 V) (by kernel_rfl) (by kernel_rfl) (Below.refl _ _).drew ?_
    repeat
      refine wpQuiet_step (fun K hK => ?_)
      first
        | (refine q_load (by rfl) 66 _ rfl ⟨w.heap.size, 0, none⟩ rfl (env m s x) (fun V hV => (HL.out V (HB2.out.trans (hV.mono (HB2.out).size))).1) (hK _ ?_); clear hK K)
        | (refine q_load (by rfl) 66 _ rfl ⟨w.heap.size + 1, 0, none⟩ rfl (env n t y) (fun V hV => (HL.out V (HB2.out.trans (hV.mono (HB2.out).size))).2) (hK _ ?_); clear hK K)
        | (refine q_call1 (by rfl) 72 c72 _ _ rfl (env m s x) rfl (.string A) (fun V hV => (HK.out V).1.mono (fun e w' ⟨g1, g2⟩ => ⟨g1, hV.trans (g2.mono hV.size)⟩)) (hK _ ?_); clear hK K)
        | (refine q_call1 (by rfl) 72 c72 _ _ rfl (env n t y) rfl (.string C) (fun V hV => (HK.out V).2.mono (fun e w' ⟨g1, g2⟩ => ⟨g1, hV.trans (g2.mono hV.size)⟩)) (hK _ ?_); clear hK K)
        | (go_simp; refine ⟨_, fun wq hs => rfl, hK _ ?_⟩; clear hK K)
    refine wpQuiet_nil ?_
    intro w3 hB3
    have HB3 : Hid (Below W.heap.size W w3) := HB2.out.trans (hB3.mono HB2.out.size)
    clear hB3
    go_wp2_with fail
    go_ret
    exact ⟨by rw [HOV.out]; rfl, HB.out.trans (HB3.out.mono HB.out.size)⟩

end Go.Proofs.YtojgablpjdlegaaGreatDoor

/- The law's Entries: entries as the document's. -/
namespace Go.Proofs.YtojgablpjdlegaaGreatDoor
open Go.RowKit Go.Shelf

/-- A slice of the document's entries that the call has made. -/
structure Dx (B : Nat) (w : World) (v : Value) (d : Array En) : Prop where
  own : w.ownsRow B 66 22 v d.size (fle d.toList)
  ok : ∀ i, i < d.size → okE d[i]!

theorem Dx.keep {B : Nat} {w w' : World} {v : Value} {d : Array En} (h : Dx B w v d) (hf : Below w.heap.size w w') : Dx B w' v d :=
  ⟨ownsRow_fr (P := fun _ => False) h.own (Fr.ofBelow hf) (fun _ _ h => h), h.ok⟩

theorem Dx.shape {B : Nat} {w : World} {v : Value} {d : Array En} (h : Dx B w v d) : ∃ ao c, v = .slice ao d.size c := by
  rcases h.own.2 with ⟨rfl, e⟩ | ⟨g, cap, cur, e, _⟩
  · exact ⟨none, 0, by rw [e]⟩
  · exact ⟨_, _, e⟩

theorem dx_nil (B : Nat) (w : World) : Dx B w nlv #[] := ⟨World.ownsRow_nil _ _ _ _, fun i hi => absurd hi (by simp)⟩

theorem Dx.cells {B : Nat} {w : World} {v : Value} {d : Array En} (h : Dx B w v d) (h0 : 0 < d.size) : ∃ b c, v = .slice (some ⟨b, 0, none⟩) d.size c ∧ ∀ V : World, Below w.heap.size w V → ∀ i, i < d.size → ∀ j, j < 22 → V.cell? ⟨b, i * 22 + j, none⟩ = some (ecl d[i]! j) := by
  rcases h.own.2 with ⟨rfl, e⟩ | ⟨g, cap, cur, rfl, hb, hh, hle, hmx, hsz, htk⟩
  · omega
  · refine ⟨g, cap, rfl, fun V hV i hi j hj => ?_⟩
    have := (h.keep hV).own.cells (g := g) rfl (i * 22 + j) (ecl d[i]! j) (by rw [fle_get d.toList i j (by simpa using hi) hj, bangE d i hi])
    rwa [Addr.add_lit, Nat.zero_add] at this

/-- What stands at an entry's place. -/
theorem at_entry {V : World} {b p : Nat} {x : En} (h : ∀ j, j < 22 → V.cell? ⟨b, p + j, none⟩ = some (ecl x j)) (hi : IsId x.id) :
    V.cell? ⟨b, p, none⟩ = some (.int .i64 x.m) ∧ V.cell? ⟨b, p + 1, none⟩ = some (sv x.nm) ∧ Rd V (some ⟨b, p + 2, none⟩) 20 20 x.id ∧ V.rangeAt b p (vals (ecl x) 22) ∧ V.rangeAt b (p + 2) (vals (cl x.id) 20) := by
  refine ⟨h 0 (by omega), h 1 (by omega), ⟨hi.1, Nat.le_refl _, (fun e => by cases e), fun ad had j hj => ?_, hi.2⟩, fun j v hv => ?_, fun j v hv => ?_⟩
  · cases had
    rw [Addr.add_lit, Nat.add_assoc, h (2 + j) (by omega)]
    unfold ecl ef
    rw [if_neg (by omega), if_neg (by omega), Nat.add_sub_cancel_left]
    rfl
  · have hj : j < 22 := by
      have := (List.getElem?_eq_some_iff.1 hv).1
      rwa [vals_len] at this
    rw [vals_get _ _ _ hj] at hv
    cases hv
    exact h j hj
  · have hj : j < 20 := by
      have := (List.getElem?_eq_some_iff.1 hv).1
      rwa [vals_len] at this
    rw [vals_get _ _ _ hj] at hv
    cases hv
    rw [Nat.add_assoc, h (2 + j) (by omega)]
    unfold ecl ef
    rw [if_neg (by omega), if_neg (by omega), Nat.add_sub_cancel_left]

theorem Es.cells {w : World} {ao : Option Addr} {n c : Nat} {d : Array En} (h : Es w (.slice ao n c) d) (h0 : 0 < d.size) : ∃ b off, ao = some ⟨b, off, none⟩ ∧ b < w.heap.size ∧ ∀ V : World, (∀ k, k = b → V.heap[k]? = w.heap[k]?) → ∀ i, i < d.size → ∀ j, j < 22 → V.cell? ⟨b, off + i * 22 + j, none⟩ = some (ecl d[i]! j) := by
  obtain ⟨ao', c', e, h1, h2, h3⟩ := h.sh
  injection e with e1 e2 e3
  subst e1
  cases ao with
  | none => have := (h2 rfl).1; omega
  | some ad =>
    obtain ⟨b, off, spot⟩ := ad
    have hc := h3 _ rfl 0 h0 0 (by omega)
    have hspot : spot = none := by simpa [Addr.add] using World.cell?_spot hc
    subst hspot
    refine ⟨b, off, rfl, by have := World.block_lt_of_cell? w _ hc; simpa [Addr.add_lit] using this, fun V hV i hi j hj => ?_⟩
    have := h3 _ rfl i hi j hj
    rw [Addr.add_lit] at this
    rw [Nat.add_assoc]
    have hb : V.heap[(⟨b, off + (i * 22 + j), none⟩ : Addr).block]? = w.heap[(⟨b, off + (i * 22 + j), none⟩ : Addr).block]? := hV b rfl
    rw [World.cell?_of_block hb]
    exact this

theorem run_b66 (x : En) (w : World) : (Instr.build 66 #[(0, .int .i64 x.m), (1, sv x.nm), (2, idv x.id)]).run Tryz.prog w = .ok (eV x) w := by kernel_rfl

theorem yi_ldv {ops : Array Oper} {S : World → Prop} {o : Oper} {a : Act} (hw : Region.wanted o (yielded ops a.tmps) = true) (ty : TypeId) (x : Operand) (ho : o.op = .load ty x) (ad : Addr) (hx : a.eval x = .pointer (some ad)) (v : Value)
    (hr : ∀ V, S V → (loadVar ty ad).run Tryz.prog V = .ok v V) : YieldsIf Tryz.prog ops S o v a := by
  refine Or.inl ⟨hw, fun V hV => ?_⟩
  unfold execOp
  simp only [ho, hx, Instr.loadAt, Instr.sureAddr, Sem.run_bind, Sem.run_pure, Result.andThen_ok, hr V hV]

theorem yi_b66 {ops : Array Oper} {S : World → Prop} {o : Oper} {a : Act} (hw : Region.wanted o (yielded ops a.tmps) = true) (A B C : Operand) (ho : o.op = .build 66 #[(0, A), (1, B), (2, C)]) (x : En) (hA : a.eval A = .int .i64 x.m) (hB : a.eval B = sv x.nm) (hC : a.eval C = idv x.id) : YieldsIf Tryz.prog ops S o (eV x) a := by
  refine Or.inl ⟨hw, fun V hV => ?_⟩
  have h := run_b66 x V
  unfold execOp
  simp only [ho]
  rw [show (#[(0, A), (1, B), (2, C)] : Array (Nat × Operand)).map (fun (i, y) => (i, a.eval y)) = #[(0, .int .i64 x.m), (1, sv x.nm), (2, idv x.id)] by simp [hA, hB, hC]]
  simp only [Sem.run_bind, h, Result.andThen_ok]
  rfl

theorem run_bs42 (x : En) (w : World) : (Instr.buildSlice 42 1 #[(0, eV x)]).run Tryz.prog w = .ok (.slice (some ⟨w.heap.size, 0, none⟩) 1 1) (w.alloc (.cells (vals (ecl x) 22).toArray 66)) := by kernel_rfl

theorem step_bs42 {ops : Array Oper} {op : Oper} {a : Act} {w : World} {K : Act → World → Prop} {Q : Exit → Act → World → Prop} {E : Prop} (hgd : op.guard = none) (y : Operand) (ho : op.op = .buildSlice 42 1 #[(0, y)]) (x : En) (hy : a.eval y = eV x)
    (hk : K (a.put op.dst (.slice (some ⟨w.heap.size, 0, none⟩) 1 1)) (w.alloc (.cells (vals (ecl x) 22).toArray 66))) : if Region.wanted op (yielded ops a.tmps) = true then Oper.wp Tryz.prog op a w K Q else E := by
  have hw : Region.wanted op (yielded ops a.tmps) = true := by simp [Region.wanted, hgd]
  rw [if_pos hw]
  have h := run_bs42 x w
  unfold Oper.wp
  simp only [execOp, ho, List.map_toArray, List.map_cons, List.map_nil, hy, Sem.run_bind, h, Result.andThen_ok, Sem.run_pure]
  exact hk

theorem Tryz.info66e : (Tryz.prog.info? 66).map (fun i => (i.zero, i.size, i.bytes)) = some (some (env 0 ⟨#[]⟩ z20), 22, 48) := by kernel_rfl

theorem step_appX {ops : Array Oper} {o : Oper} {a : Act} {w : World} {K : Act → World → Prop} {Q : Exit → Act → World → Prop} {E : Prop} (hw : Region.wanted o (yielded ops a.tmps) = true) (s y : Operand)
    (ho : o.op = .call { callee := .builtin .append, args := #[s, y], argTypes := #[42, 42] }) (B : Nat) (v : Value) (d : Array En) (x : En) (X : Nat) (hx : okE x) (hs : a.eval s = v) (hy : a.eval y = .slice (some ⟨X, 0, none⟩) 1 1)
    (hX : w.rowIs X 66 22 (ecl x)) (h : Dx B w v d) (hlim : d.size < 100000) (hB : B ≤ w.heap.size)
    (hk : ∀ v' w', Dx B w' v' (d.push x) → w.grownBy w' v.ownBlock → K (a.put o.dst v') w') : if Region.wanted o (yielded ops a.tmps) = true then Oper.wp Tryz.prog o a w K Q else E := by
  rw [if_pos hw]
  obtain ⟨i0, hi, hz0, hz1, hz2⟩ := info_parts Tryz.info66e
  refine wp_append_own w s y 42 ho B 66 i0 (env 0 ⟨#[]⟩ z20) 22 48 Tryz.underlying42 hi hz0 hz1 hz2 rfl (by decide) v d.size (fle d.toList) hs h.own ⟨X, 0, none⟩ 1 1 (vals (ecl x) 22) hy (by rw [vals_len]) (fun j u hu => ?_) (fun u hu => ?_) (by unfold maxLen; omega) (by omega) hB ?_
  · have hj : j < 22 := by
      have := (List.getElem?_eq_some_iff.1 hu).1
      rwa [vals_len] at this
    rw [vals_get _ _ _ hj] at hu
    cases hu
    rw [Addr.add_lit, Nat.zero_add]
    exact hX.cell (i := j) hj
  · unfold vals at hu
    obtain ⟨j, _, rfl⟩ := List.mem_map.1 hu
    exact ecl_one x j
  · intro v' w' g1 g2 _
    refine hk v' w' ⟨by rw [Array.size_push, Array.toList_push, fle_snoc]; exact g1, fun i hi => ?_⟩ g2
    rw [Array.size_push] at hi
    by_cases e : i = d.size
    · subst e
      rw [getElem!_pos _ _ (by simp)]
      simpa using hx
    · have hi2 : i < d.size := by omega
      have := h.ok i hi2
      rw [getElem!_pos d i hi2] at this
      rw [getElem!_pos _ _ (by simp; omega), Array.getElem_push_lt hi2]
      exact this

/-- The first k entries. -/
def fstE (d : Array En) (k : Nat) : Array En := d.extract 0 k

theorem fstE_push (d : Array En) (k : Nat) (hk : k < d.size) : (fstE d k).push d[k]! = fstE d (k + 1) := by
  unfold fstE
  rw [getElem!_pos d k hk]
  exact Array.push_extract_getElem hk

set_option maxRecDepth 100000 in
set_option maxHeartbeats 8000000 in
theorem entries_any (v : Value) (d : Array En) (w : World) (h : Es w v d) (hsz : d.size < 100000) :
    Calls Tryz.prog 29 #[v] w fun e w' => ∃ v', e = .returned v' ∧ Dx w.heap.size w' v' d ∧ Below w.heap.size w w' := by
  obtain ⟨ao, c, hv, _⟩ := h.sh
  obtain ⟨n, hn⟩ : ∃ n, n = d.size := ⟨_, rfl⟩
  rw [← hn] at hv
  subst hv
  have HP : Hid (0 < n → ∃ b off, ao = some ⟨b, off, none⟩ ∧ ∀ V : World, Below w.heap.size w V → ∀ i, i < n → ∀ j, j < 22 → V.cell? ⟨b, off + i * 22 + j, none⟩ = some (ecl d[i]! j)) := fun h0 => by
    obtain ⟨b, off, h1, hb, h2⟩ := h.cells (by omega)
    exact ⟨b, off, h1, fun V hV i hi j hj => h2 V (fun k hk => by subst hk; exact hV.block _ hb) i (by omega) j hj⟩
  have HOK : Hid (∀ i, i < n → okE d[i]!) := fun i hi => h.ok i (by omega)
  have HN : Hid (n = d.size ∧ n < 100000) := ⟨hn, by omega⟩
  clear h hsz hn
  go_enter Tryz.func29, Tryz.ntmps29
  go_wp2_with fail
  go_loopw [3, 4] (fun s3 s4 wr => ∃ k : Nat, s4 = .int .i64 (k : Int) ∧ k ≤ n ∧ Hid (Dx w.heap.size wr s3 (fstE d k)) ∧ Hid (Below w.heap.size w wr)) (fun _ s4 _ => n - (intOf s4).toNat)
  case atStart => exact ⟨0, rfl, Nat.zero_le _, by show Dx _ _ _ (d.extract 0 0); rw [show d.extract 0 0 = #[] by simp]; exact dx_nil _ _, Below.refl _ _⟩
  case round =>
    obtain ⟨k, rfl, hkn, HD, HB⟩ := hrel
    by_cases hlt : k < n
    · have hq : (k : Int) < (n : Int) := by omega
      have d1 : decide ((k : Int) < (n : Int)) = true := by simp; omega
      have hwk : IntKind.i64.wrap ((k : Int) + 1) = (k : Int) + 1 := by have := HN.out; rw [IntKind.wrap_i64]; omega
      obtain ⟨b, off, rfl, hc0⟩ := HP.out (by omega)
      have hok := HOK.out k hlt
      have hps := fstE_push d k (by have := HN.out; omega)
      obtain ⟨x, hx⟩ : ∃ x, d[k]! = x := ⟨_, rfl⟩
      rw [hx] at hok hps
      have HAT : Hid (∀ V : World, Below w.heap.size w V → V.cell? ⟨b, off + k * 22, none⟩ = some (.int .i64 x.m) ∧ V.cell? ⟨b, off + k * 22 + 1, none⟩ = some (sv x.nm) ∧ (loadVar 27 ⟨b, off + k * 22 + 2, none⟩).run Tryz.prog V = .ok (idv x.id) V) := fun V hV => by
        have h2 := hc0 V hV k hlt
        rw [hx] at h2
        obtain ⟨g1, g2, _, _, g5⟩ := at_entry h2 hok.id
        exact ⟨g1, g2, run_loadVar_mid V b (off + k * 22 + 2) 27 _ _ g5 Tryz.underlying27 rfl (by rw [vals_len]; exact size23)⟩
      have HX : Hid (okE x ∧ (fstE d k).push x = fstE d (k + 1)) := ⟨hok, hps⟩
      have HLT : Hid (k < n) := hlt
      have HSZ : Hid ((fstE d k).size < 100000) := by show _ < _; unfold fstE; simp; have := HN.out; omega
      have HIX : Hid (∀ V : World, (Instr.indexAt 39 (.slice (some ⟨b, off, none⟩) n c) (.int .i64 (k : Int))).run Tryz.prog V = .ok (.pointer (some ⟨b, off + k * 22, none⟩)) V) := fun V => run_ixe b off n c k _ rfl hlt V
      clear hc0 hok hps hx hlt hkn
      go_wp2_with fail
      refine wp_region_noPanic ?_
      refine wp_region_held_drew (S := fun V => Below w.heap.size w V) (by kernel_rfl) HB.out.drew (fun hHeld => ?_)
      refine wpAnyH_take (i := 0) (oi := ⟨some 11, _, _, _, _, _⟩) (v := ?_) rfl (by kernel_rfl) (by kernel_rfl) (by kernel_rfl) (fun _ _ _ h => h) (Or.inl ⟨by rfl, ?_⟩) hHeld ?_
      rotate_left
      · (intro w' hSw; go_simp; try with_reducible rfl)
      try simp only [Act.put, List.setIfInBounds_toArray, List.set_cons_zero, List.set_cons_succ]
      refine wpAnyH_take (i := 1) (oi := ⟨some 12, _, _, _, _, _⟩) (v := ?_) rfl (by kernel_rfl) (by kernel_rfl) (by kernel_rfl) (fun _ _ _ h => h) (Or.inl ⟨by rfl, ?_⟩) hHeld ?_
      rotate_left
      · (intro w' hSw; go_simp; try with_reducible rfl)
      try simp only [Act.put, List.setIfInBounds_toArray, List.set_cons_zero, List.set_cons_succ]
      refine wpAnyH_take (i := 2) (oi := ⟨some 13, _, _, _, _, _⟩) (v := ?_) rfl (by kernel_rfl) (by kernel_rfl) (by kernel_rfl) (fun _ _ _ h => h) (Or.inl ⟨by rfl, ?_⟩) hHeld ?_
      rotate_left
      · (intro w' hSw; go_simp; try with_reducible rfl)
      try simp only [Act.put, List.setIfInBounds_toArray, List.set_cons_zero, List.set_cons_succ]
      refine wpAnyH_take (i := 3) (oi := ⟨some 14, _, _, _, _, _⟩) (v := .pointer (some ⟨b, off + k * 22, none⟩)) rfl (by kernel_rfl) (by kernel_rfl) (by kernel_rfl) (fun _ _ _ h => h) (Or.inl ⟨by rfl, ?_⟩) hHeld ?_
      · (intro w' hSw; have qq := HIX.out w'; go_simp; try with_reducible rfl)
      try simp only [Act.put, List.setIfInBounds_toArray, List.set_cons_zero, List.set_cons_succ]
      refine wpAnyH_take (i := 4) (oi := ⟨some 15, _, _, _, _, _⟩) (v := .pointer (some ⟨b, off + k * 22, none⟩)) rfl (by kernel_rfl) (by kernel_rfl) (by kernel_rfl) (fun _ _ _ h => h) (Or.inl ⟨by rfl, ?_⟩) hHeld ?_
      · (intro w' hSw; go_simp; try with_reducible rfl)
      try simp only [Act.put, List.setIfInBounds_toArray, List.set_cons_zero, List.set_cons_succ]
      refine wpAnyH_take (i := 5) (oi := ⟨some 16, _, _, _, _, _⟩) (v := .int .i64 x.m) rfl (by kernel_rfl) (by kernel_rfl) (by kernel_rfl) (fun _ _ _ h => h) (Or.inl ⟨by rfl, ?_⟩) hHeld ?_
      · (intro w' hSw; have qq := (HAT.out w' hSw).1; go_simp; try with_reducible rfl)
      try simp only [Act.put, List.setIfInBounds_toArray, List.set_cons_zero, List.set_cons_succ]
      refine wpAnyH_take (i := 6) (oi := ⟨some 17, _, _, _, _, _⟩) (v := ?_) rfl (by kernel_rfl) (by kernel_rfl) (by kernel_rfl) (fun _ _ _ h => h) (Or.inl ⟨by rfl, ?_⟩) hHeld ?_
      rotate_left
      · (intro w' hSw; go_simp; try with_reducible rfl)
      try simp only [Act.put, List.setIfInBounds_toArray, List.set_cons_zero, List.set_cons_succ]
      refine wpAnyH_take (i := 7) (oi := ⟨some 18, _, _, _, _, _⟩) (v := ?_) rfl (by kernel_rfl) (by kernel_rfl) (by kernel_rfl) (fun _ _ _ h => h) (Or.inl ⟨by rfl, ?_⟩) hHeld ?_
      rotate_left
      · (intro w' hSw; go_simp; try with_reducible rfl)
      try simp only [Act.put, List.setIfInBounds_toArray, List.set_cons_zero, List.set_cons_succ]
      refine wpAnyH_take (i := 8) (oi := ⟨some 19, _, _, _, _, _⟩) (v := .pointer (some ⟨b, off + k * 22, none⟩)) rfl (by kernel_rfl) (by kernel_rfl) (by kernel_rfl) (fun _ _ _ h => h) (Or.inl ⟨by rfl, ?_⟩) hHeld ?_
      · (intro w' hSw; have qq := HIX.out w'; go_simp; try with_reducible rfl)
      try simp only [Act.put, List.setIfInBounds_toArray, List.set_cons_zero, List.set_cons_succ]
      refine wpAnyH_take (i := 9) (oi := ⟨some 20, _, _, _, _, _⟩) (v := .pointer (some ⟨b, off + k * 22 + 1, none⟩)) rfl (by kernel_rfl) (by kernel_rfl) (by kernel_rfl) (fun _ _ _ h => h) (Or.inl ⟨by rfl, ?_⟩) hHeld ?_
      · (intro w' hSw; go_simp; try with_reducible rfl)
      try simp only [Act.put, List.setIfInBounds_toArray, List.set_cons_zero, List.set_cons_succ]
      refine wpAnyH_take (i := 10) (oi := ⟨some 21, _, _, _, _, _⟩) (v := sv x.nm) rfl (by kernel_rfl) (by kernel_rfl) (by kernel_rfl) (fun _ _ _ h => h) (Or.inl ⟨by rfl, ?_⟩) hHeld ?_
      · (intro w' hSw; have qq := (HAT.out w' hSw).2.1; go_simp; try with_reducible rfl)
      try simp only [Act.put, List.setIfInBounds_toArray, List.set_cons_zero, List.set_cons_succ]
      refine wpAnyH_take (i := 11) (oi := ⟨some 22, _, _, _, _, _⟩) (v := ?_) rfl (by kernel_rfl) (by kernel_rfl) (by kernel_rfl) (fun _ _ _ h => h) (Or.inl ⟨by rfl, ?_⟩) hHeld ?_
      rotate_left
      · (intro w' hSw; go_simp; try with_reducible rfl)
      try simp only [Act.put, List.setIfInBounds_toArray, List.set_cons_zero, List.set_cons_succ]
      refine wpAnyH_take (i := 12) (oi := ⟨some 23, _, _, _, _, _⟩) (v := ?_) rfl (by kernel_rfl) (by kernel_rfl) (by kernel_rfl) (fun _ _ _ h => h) (Or.inl ⟨by rfl, ?_⟩) hHeld ?_
      rotate_left
      · (intro w' hSw; go_simp; try with_reducible rfl)
      try simp only [Act.put, List.setIfInBounds_toArray, List.set_cons_zero, List.set_cons_succ]
      refine wpAnyH_take (i := 13) (oi := ⟨some 24, _, _, _, _, _⟩) (v := .pointer (some ⟨b, off + k * 22, none⟩)) rfl (by kernel_rfl) (by kernel_rfl) (by kernel_rfl) (fun _ _ _ h => h) (Or.inl ⟨by rfl, ?_⟩) hHeld ?_
      · (intro w' hSw; have qq := HIX.out w'; go_simp; try with_reducible rfl)
      try simp only [Act.put, List.setIfInBounds_toArray, List.set_cons_zero, List.set_cons_succ]
      refine wpAnyH_take (i := 14) (oi := ⟨some 25, _, _, _, _, _⟩) (v := .pointer (some ⟨b, off + k * 22 + 2, none⟩)) rfl (by kernel_rfl) (by kernel_rfl) (by kernel_rfl) (fun _ _ _ h => h) (Or.inl ⟨by rfl, ?_⟩) hHeld ?_
      · (intro w' hSw; go_simp; try with_reducible rfl)
      try simp only [Act.put, List.setIfInBounds_toArray, List.set_cons_zero, List.set_cons_succ]
      refine wpAnyH_take (i := 15) (oi := ⟨some 26, _, _, _, _, _⟩) (v := idv x.id) rfl (by kernel_rfl) (by kernel_rfl) (by kernel_rfl) (fun _ _ _ h => h) (yi_ldv (by rfl) 27 _ rfl ⟨b, off + k * 22 + 2, none⟩ rfl (idv x.id) (fun V hV => (HAT.out V hV).2.2)) hHeld ?_
      try simp only [Act.put, List.setIfInBounds_toArray, List.set_cons_zero, List.set_cons_succ]
      refine wpAnyH_take (i := 16) (oi := ⟨some 27, _, _, _, _, _⟩) (v := eV x) rfl (by kernel_rfl) (by kernel_rfl) (by kernel_rfl) (fun _ _ _ h => h) (yi_b66 (by rfl) _ _ _ rfl x rfl rfl rfl) hHeld ?_
      try simp only [Act.put, List.setIfInBounds_toArray, List.set_cons_zero, List.set_cons_succ]
      have HDD : Hid (Dx w.heap.size wr.drew u3 (fstE d k)) := HD.out.keep (Below.refl _ _).drew
      refine wpAnyH_ready (rs := [17]) (by kernel_rfl) (by simp) ?_
      refine AllReadyH.cons (o := ⟨some 28, _, _, _, _, _⟩) rfl (fun K hK => ?_) AllReadyH.nil
      refine step_bs42 (by rfl) _ rfl x rfl ?_
      obtain ⟨w5, hw5⟩ : ∃ V, V = wr.drew.alloc (.cells (vals (ecl x) 22).toArray 66) := ⟨_, rfl⟩
      have B5 : Hid (Below wr.drew.heap.size wr.drew w5) := by show Below _ _ _; rw [hw5]; exact new_below _ _
      obtain ⟨X, hX⟩ : ∃ X, X = wr.drew.heap.size := ⟨_, rfl⟩
      have HXR : Hid (w5.rowIs X 66 22 (ecl x)) := by show World.rowIs _ _ _ _ _; rw [hw5, hX]; exact rowIs_vals _ _ _ _
      rw [← hw5, ← hX]
      have HB5 : Hid (Below w.heap.size w w5) := HB.out.drew.trans (B5.out.mono HB.out.drew.size)
      have HD5 : Hid (Dx w.heap.size w5 u3 (fstE d k)) := HDD.out.keep B5.out
      refine hK.out _ _ HB5.out (fun hHeld => ?_)
      clear hK K hw5 hX
      try simp only [Act.put, List.setIfInBounds_toArray, List.set_cons_zero, List.set_cons_succ]
      refine wpAnyH_ready (rs := [18]) (by kernel_rfl) (by simp) ?_
      refine AllReadyH.cons (o := ⟨some 29, _, _, _, _, _⟩) rfl (fun K hK => ?_) AllReadyH.nil
      refine step_appX (by rfl) _ _ rfl w.heap.size u3 (fstE d k) x X HX.out.1 rfl rfl HXR.out HD5.out HSZ.out HB5.out.size ?_
      intro v6 w6 d6 g6
      have HD6 : Hid (Dx w.heap.size w6 v6 (fstE d (k + 1))) := by show Dx _ _ _ _; rw [← HX.out.2]; exact d6
      have HB6 : Hid (Below w.heap.size w w6) := HB5.out.grown g6 HB5.out.size (fun j hj => (HD5.out.own.lt j hj).1)
      refine hK.out _ _ HB6.out (fun hHeld => ?_)
      clear hK K d6 g6
      try simp only [Act.put, List.setIfInBounds_toArray, List.set_cons_zero, List.set_cons_succ]
      refine wpAnyH_take (i := 19) (oi := ⟨some 3, _, _, _, _, _⟩) (v := ?_) rfl (by kernel_rfl) (by kernel_rfl) (by kernel_rfl) (fun _ _ _ h => h) (Or.inl ⟨by rfl, ?_⟩) hHeld ?_
      rotate_left
      · (intro w' hSw; go_simp; try with_reducible rfl)
      try simp only [Act.put, List.setIfInBounds_toArray, List.set_cons_zero, List.set_cons_succ]
      refine wpAnyH_done (by kernel_rfl) ?_ _
      refine NoPanic.normal ?_
      clear hHeld
      go_wp2_with fail
      exact ⟨⟨k + 1, by simp, HLT.out, HD6, HB6⟩, by simp [intOf]; have := HLT.out; omega⟩
    · obtain rfl : k = n := by omega
      have hq : ¬ (k : Int) < (k : Int) := by omega
      have d1 : decide ((k : Int) < (k : Int)) = false := by simp
      have HF : Hid (Dx w.heap.size wr u3 d) := by
        have := HD.out
        rwa [show fstE d k = d by unfold fstE; rw [HN.out.1]; simp] at this
      clear HD
      go_wp2_with fail
      go_ret
      exact ⟨_, rfl, HF.out, HB.out⟩

end Go.Proofs.YtojgablpjdlegaaGreatDoor
