/- The law OidTexts. -/
import Derived.Test.YtmjcikomcnokkaaDoorWKnown
namespace Go.Proofs.YtmjcikomcnokkaaDoor
open Go.RowKit Go.Shelf

theorem par_id (s : List Int) : IsId (par s).1 := by
  unfold par
  split
  · rename_i h; exact pr_id s h.1 h.2
  · exact z20_id

theorem par_hx (x : List Int) (h : IsId x) : par (hx x) = (x, 0) := by
  unfold par
  rw [if_pos ⟨by rw [hx_len, h.1], fun c hc => (hx_byt x h.2 c hc).1⟩, pr_hx x h.2]

theorem hx_ns (x : List Int) (h : IsId x) : ns (strOfNums (hx x)) = hx x := ns_str _ (fun c hc => (hx_byt x h.2 c hc).2)

/-- What region 8 reads. -/
structure T8 (w : World) (A B C D : Nat) (x p : List Int) (W : World) : Prop where
  a : W.rowIs A 23 20 (cl x)
  b : W.rowIs B 23 20 (cl p)
  c : W.rowIs C 22 20 (cl p)
  d : W.rowIs D 23 20 (cl x)
  be : Below w.heap.size w W

theorem T8.keep {w W W' : World} {A B C D : Nat} {x p : List Int} (h : T8 w A B C D x p W) (hb : Below W.heap.size W W') : T8 w A B C D x p W' :=
  ⟨rowIs_fr (P := fun _ => False) h.a (Fr.ofBelow hb) (fun h => h), rowIs_fr (P := fun _ => False) h.b (Fr.ofBelow hb) (fun h => h), rowIs_fr (P := fun _ => False) h.c (Fr.ofBelow hb) (fun h => h), rowIs_fr (P := fun _ => False) h.d (Fr.ofBelow hb) (fun h => h), h.be.trans (hb.mono h.be.size)⟩

theorem row_load22 {w : World} {b : Nat} {x : List Int} (h : w.rowIs b 22 20 (cl x)) : (loadVar 22 ⟨b, 0, none⟩).run Tryd.prog w = .ok (idv x) w := load_all (P := Tryd.prog) 22 _ h Tryd.underlying22 rfl size22

theorem row_keep {w w' : World} {b t : Nat} {f : Nat → Value} (h : w.rowIs b t 20 f) (hb : Below w.heap.size w w') : w'.rowIs b t 20 f := rowIs_fr (P := fun _ => False) h (Fr.ofBelow hb) (fun h => h)

theorem st22 {w w' : World} (hf : Fr (fun k => k = w.heap.size) (w.alloc (Obj.cells zcs 22)) w') : Below w.heap.size w w' := new_fr hf

set_option maxRecDepth 100000 in
set_option maxHeartbeats 2000000 in
theorem texts_any (x : List Int) (hx0 : IsId x) (s : ByteArray) (hs : s.size ≤ 9223372036854775807) (w : World) : Calls Tryd.prog 3 #[idv x, .string s] w fun e w' => e = .returned (.bool true) ∧ Below w.heap.size w w' := by
  have hk := known_yes
  have b0 := rowIs_vals w (cl x) 20 23
  have HB0 : Hid (Below w.heap.size w (w.alloc (.cells (vals (cl x) 20).toArray 23))) := new_below _ _
  by_cases hl : 300 < s.size
  · have hl2 : (300 : Int) < (s.size : Int) := by omega
    clear b0
    go_enter Tryd.func3, Tryd.ntmps3
    go_wp2_with (go_at_call 8; refine (hk _).mono ?_; rintro e w1 ⟨rfl, b1⟩; have B1 : Hid (Below w.heap.size w w1) := HB0.out.trans (b1.mono HB0.out.size))
    go_ret
    exact ⟨rfl, B1.out⟩
  · have hl2 : ¬ (300 : Int) < (s.size : Int) := by omega
    have hp := fun W => parse_any s W hs
    have hrp := fun W => rparse_any s W
    have hpi := par_id (ns s)
    obtain ⟨⟨p, q⟩, hpq⟩ : ∃ pq, par (ns s) = pq := ⟨_, rfl⟩
    rw [hpq] at hp hrp hpi
    have hh := fun W => hex_any x hx0 W
    have hrh := fun W => rhex_any x hx0 W
    have hph := fun W => parse_any (strOfNums (hx x)) W (by rw [strOfNums_size, hx_len, hx0.1]; omega)
    rw [hx_ns x hx0, par_hx x hx0] at hph
    have e1 := fun W => eql_ids 23 Tryd.underlying23 hpi hpi W
    have e2 := fun W => eql_ids 23 Tryd.underlying23 hx0 hx0 W
    rw [decide_eq_true rfl] at e1 e2
    generalize strOfNums (hx x) = t at *
    clear hpq hx0 hpi
    simp only [] at hp hrp hph e1
    have c11 : Hid (∀ vs w, (callFunc 11 vs).run Tryd.prog w = .ok (.enter 11 vs) w) := fun vs w => by simp [go_sem]
    have c12 : Hid (∀ vs w, (callFunc 12 vs).run Tryd.prog w = .ok (.enter 12 vs) w) := fun vs w => by simp [go_sem]
    go_enter Tryd.func3, Tryd.ntmps3
    go_wp2_with (go_at_call 8; refine (hk _).mono ?_; rintro e w1 ⟨rfl, b1⟩; have B1 : Hid (Below w.heap.size w w1) := HB0.out.trans (b1.mono HB0.out.size); have a1 := row_keep b0 b1; clear b1 b0)
    refine (hp _).mono ?_
    rintro e w2 ⟨rfl, b2⟩
    have B2 : Hid (Below w.heap.size w w2) := B1.out.trans (b2.mono B1.out.size)
    have a2 := row_keep a1 b2
    have z2 := z_row w2 23
    have L2 : Hid (w.heap.size < w2.heap.size) := a2.lt
    clear b2 a1
    go_wp2_with (refine wpList_st rfl 23 _ _ rfl w2.heap.size rfl (cl p) rfl z2 size23 (fun j => rfl) ?_; intro w3 r3 f3; have b3 := st_new (w := w2) f3; have a3 := row_keep a2 b3; have B3 : Hid (Below w.heap.size w w3) := B2.out.trans (b3.mono B2.out.size); clear z2 f3 b3 a2)
    refine (hrp _).mono ?_
    rintro e w4 ⟨rfl, b4⟩
    have B4 : Hid (Below w.heap.size w w4) := B3.out.trans (b4.mono B3.out.size)
    have a4 := row_keep a3 b4
    have r4 := row_keep r3 b4
    have z4 := z_row w4 22
    clear b4 a3 r3
    go_wp2_with (first
      | (refine wpList_ldw (by rfl) 23 _ rfl ⟨w.heap.size, 0, none⟩ rfl (idv x) l5.out ?_)
      | (refine wpList_st rfl 22 _ _ rfl w4.heap.size rfl (cl p) rfl z4 size22 (fun j => rfl) ?_; intro w5 r5 f5; have b5 := st22 (w := w4) f5; have a5 := row_keep a4 b5; have q5 := row_keep r4 b5; have B5 : Hid (Below w.heap.size w w5) := B4.out.trans (b5.mono B4.out.size); have l5 : Hid _ := row_load a5; have R5 : Hid _ := r5; have Q5 : Hid _ := q5; have A5 : Hid _ := a5; clear z4 f5 b5 a4 r4 r5 q5 a5))
    refine (hh _).mono ?_
    rintro e w6 ⟨rfl, b6⟩
    have B6 : Hid (Below w.heap.size w w6) := B5.out.trans (b6.mono B5.out.size)
    have a6 := row_keep A5.out b6
    have q6 := row_keep Q5.out b6
    have r6 := row_keep R5.out b6
    clear b6
    go_wp2_with fail
    refine (hph _).mono ?_
    rintro e w7 ⟨rfl, b7⟩
    have B7 : Hid (Below w.heap.size w w7) := B6.out.trans (b7.mono B6.out.size)
    have a7 := row_keep a6 b7
    have q7 := row_keep q6 b7
    have r7 := row_keep r6 b7
    have z7 := z_row w7 23
    clear b7 a6 q6 r6
    go_wp2_with (refine wpList_st rfl 23 _ _ rfl w7.heap.size rfl (cl x) rfl z7 size23 (fun j => rfl) ?_; intro w8 r8 f8; have b8 := st_new (w := w7) f8; have T : Hid (T8 w w.heap.size w2.heap.size w4.heap.size w7.heap.size x p w8) := ⟨row_keep a7 b8, row_keep q7 b8, row_keep r7 b8, r8, B7.out.trans (b8.mono B7.out.size)⟩; clear z7 f8 b8 a7 q7 r7 r8)
    clear hk hp hrp hph
    refine wp_region_quiet (C := fun W => T8 w w.heap.size w2.heap.size w4.heap.size w7.heap.size x p W) (by kernel_rfl) (by kernel_rfl) (T.out.keep (Below.refl _ _).drew) ?_
    repeat
      refine wpQuiet_step (fun K hK => ?_)
      first
        | (refine q_load (by rfl) 23 _ rfl ⟨w.heap.size, 0, none⟩ rfl (idv x) (fun W hW => row_load hW.a) (hK _ ?_); clear hK K)
        | (refine q_load (by rfl) 23 _ rfl ⟨w2.heap.size, 0, none⟩ rfl (idv p) (fun W hW => row_load hW.b) (hK _ ?_); clear hK K)
        | (refine q_load (by rfl) 22 _ rfl ⟨w4.heap.size, 0, none⟩ rfl (idv p) (fun W hW => row_load22 hW.c) (hK _ ?_); clear hK K)
        | (refine q_load (by rfl) 23 _ rfl ⟨w7.heap.size, 0, none⟩ rfl (idv x) (fun W hW => row_load hW.d) (hK _ ?_); clear hK K)
        | (refine q_call1 (by rfl) 11 c11.out _ _ rfl (idv x) rfl (.string t) (fun W hW => (hh W).mono (fun e w' h => ⟨h.1, hW.keep h.2⟩)) (hK _ ?_); clear hK K)
        | (refine q_call1 (by rfl) 12 c12.out _ _ rfl (idv x) rfl (.string t) (fun W hW => (hrh W).mono (fun e w' h => ⟨h.1, hW.keep h.2⟩)) (hK _ ?_); clear hK K)
        | (go_simp; refine ⟨_, fun wq hs => rfl, hK _ ?_⟩; clear hK K)
    refine wpQuiet_nil ?_
    intro w9 h9
    have hb9 := h9.be
    clear T h9
    go_wp2_with fail
    go_ret
    exact ⟨rfl, hb9⟩

end Go.Proofs.YtmjcikomcnokkaaDoor
