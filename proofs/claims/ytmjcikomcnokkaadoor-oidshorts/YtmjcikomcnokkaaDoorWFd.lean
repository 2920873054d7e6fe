/- oid.Find. -/
import Derived.Test.YtmjcikomcnokkaaDoorWFirst
import Derived.Test.YtmjcikomcnokkaaDoorWCompact
namespace Go.Proofs.YtmjcikomcnokkaaDoor
open Go.RowKit

/-- A row of names, rising, each once. -/
def Up (d : Array (List Int)) : Prop := ∀ i j, i < j → j < d.size → ltl d[i]! d[j]! = true

theorem up_mono {d : Array (List Int)} {n : Nat} (hn : d.size = n) (h : Up d) (z : List Int) : ∀ i j, i ≤ j → j < n → (fun i : Nat => !ltl d[i]! z) i = true → (fun i : Nat => !ltl d[i]! z) j = true := by
  intro i j hij hj hi
  by_cases e : i = j
  · subst e; exact hi
  · have h1 := h i j (by omega) (by omega)
    simp only [Bool.not_eq_true'] at hi ⊢
    by_cases h2 : ltl d[j]! z = true
    · rw [ltl_trans _ _ _ h1 h2] at hi
      cases hi
    · simpa using h2

/-- Where z stands in d, or would stand. -/
def wh (d : Array (List Int)) (z : List Int) (k : Nat) : Prop := Fst d.size (fun i : Nat => !ltl d[i]! z) k

theorem q_ixb {ops : Array Oper} {op : Oper} {a : Act} {C : World → Prop} {K : Act → Prop} {E : Prop} (hw : Region.wanted op (yielded ops a.tmps) = true) (t : TypeId) (x y : Operand) (ho : op.op = .indexAddr t x y) (b o n c i p : Nat) (e : Int) (hx : a.eval x = .slice (some ⟨b, o, none⟩) n c) (hy : a.eval y = .int .i64 e)
    (h : ∀ w, (Instr.indexAt t (.slice (some ⟨b, o, none⟩) n c) (.int .i64 e)).run Tryd.prog w = .ok (.pointer (some ⟨b, o + i * 20, none⟩)) w) (hp : p = o + i * 20) (hk : K (a.put op.dst (.pointer (some ⟨b, p, none⟩)))) : if Region.wanted op (yielded ops a.tmps) = true then op.quiet Tryd.prog a C K else E := by
  rw [if_pos hw]
  subst hp
  refine ⟨_, fun w _ => ?_, hk⟩
  unfold Oper.quietAt execOp
  simp only [ho, hx, hy]
  simp [h w, Oper.quietUpon]

theorem run_ixa33 (b o n c i : Nat) (e : Int) (he : e = i) (hi : i < n) (w : World) : (Instr.indexAt 33 (.slice (some ⟨b, o, none⟩) n c) (.int .i64 e)).run Tryd.prog w = .ok (.pointer (some ⟨b, o + i * 20, none⟩)) w := by
  subst he
  have hi2 : (i : Int) < (n : Int) := by omega
  clear hi
  simp [go_sem, hi2]

set_option maxRecDepth 100000 in
set_option maxHeartbeats 2000000 in
/-- Find in a row that is not empty. -/
theorem find_row (b N c n : Nat) (d : Array (List Int)) (z : List Int) (w : World) (h : Rw w b N d) (hn : d.size = n) (hu : Up d) (hz : IsId z) (hsz : n < 100000) :
    Calls Tryd.prog 16 #[.slice (some ⟨b, 0, none⟩) n c, idv z] w fun e w' => ∃ k, e = .returned (.tuple #[.int .i64 (k : Nat), .bool (decide (k < n) && decide (d[k]! = z))]) ∧ wh d z k ∧ Below w.heap.size w w' := by
  have hB : Below w.heap.size w (w.alloc (.cells (vals (cl z) 20).toArray 23)) := new_below _ _
  have hf := first33 b N c n d z _ (h.keep hB) hn hz hsz (up_mono hn hu z)
  have r0 := rowIs_vals w (cl z) 20 23
  have HB : Hid (Below w.heap.size w (w.alloc (.cells (vals (cl z) 20).toArray 23))) := hB
  have HW : Hid (∀ k W, k < n → Below (w.alloc (.cells (vals (cl z) 20).toArray 23)).heap.size (w.alloc (.cells (vals (cl z) 20).toArray 23)) W → (loadVar 23 ⟨b, k * 20, none⟩).run Tryd.prog W = .ok (idv d[k]!) W ∧ (loadVar 23 ⟨w.heap.size, 0, none⟩).run Tryd.prog W = .ok (idv z) W ∧ IsId d[k]!) := fun k W hk hW =>
    ⟨((h.keep hB).keep hW).load k (by omega), box_load w W z hz hW, h.ids k (by omega)⟩
  have HN : Hid (d.size = n) := hn
  clear h hu hB hn
  go_enter Tryd.func16, Tryd.ntmps16
  go_wp2_with (first
    | (refine wpList_ld0 rfl 23 _ rfl w.heap.size rfl _ r0 20 (by omega) Tryd.underlying23 rfl size23 ?_; clear r0)
    | (go_at_call 32; refine hf.mono ?_; rintro e w1 ⟨k, rfl, hk, hB1⟩; clear hf))
  have HK : Hid (Fst n (fun i => !ltl d[i]! z) k) := hk
  have hkn := hk.1
  clear hk
  by_cases hlt : k < n
  · have H : Hid _ := fun W hW => HW.out k W hlt (hB1.trans (show Below (w.alloc (.cells (vals (cl z) 20).toArray 23)).heap.size w1 W from hW))
    have he := fun W => eql_ids 23 Tryd.underlying23 (H.out w1 (Below.refl _ _)).2.2 hz W
    have hq : (k : Int) < (n : Int) := by omega
    obtain ⟨x, hx⟩ : ∃ x, d[k]! = x := ⟨_, rfl⟩
    rw [hx] at H he
    have HX : Hid (d[k]! = x) := hx
    obtain ⟨v, hv⟩ : ∃ v, decide (x = z) = v := ⟨_, rfl⟩
    rw [hv] at he
    have HV : Hid (decide (x = z) = v) := hv
    have HB1 : Hid (Below (w.alloc (Obj.cells (vals (cl z) 20).toArray 23)).heap.size (w.alloc (Obj.cells (vals (cl z) 20).toArray 23)) w1) := hB1
    have HL : Hid (k < n) := hlt
    clear hv hx hB1
    refine wp_region_quiet (C := fun W => Below (w.alloc (.cells (vals (cl z) 20).toArray 23)).heap.size w1 W) (by kernel_rfl) (by kernel_rfl) (Below.refl _ _).drew ?_
    repeat
      refine wpQuiet_step (fun K hK => ?_)
      first
        | (refine q_ixb (by rfl) 33 _ _ rfl b 0 n c k (k * 20) _ rfl rfl (fun w => run_ixa33 b 0 n c k _ rfl HL.out w) (by omega) (hK _ ?_); clear hK K)
        | (refine q_load (by rfl) 23 _ rfl ⟨b, k * 20, none⟩ rfl (idv x) (fun W hW => (H.out W hW).1) (hK _ ?_); clear hK K)
        | (refine q_load (by rfl) 23 _ rfl ⟨w.heap.size, 0, none⟩ rfl (idv z) (fun W hW => (H.out W hW).2.1) (hK _ ?_); clear hK K)
        | (go_simp; refine ⟨_, fun wq hs => rfl, hK _ ?_⟩; clear hK K)
    refine wpQuiet_nil ?_
    intro w2 hB2
    go_wp2_with fail
    go_ret2
    refine ⟨k, ?_, by unfold wh; rw [HN.out]; exact HK.out, HB.out.trans ((HB1.out.trans hB2).mono HB.out.size)⟩
    have e : (decide (k < n) && decide (d[k]! = z)) = v := by rw [HX.out, ← HV.out]; simp [HL.out]
    rw [e]
    rfl
  · have hk2 : ¬ (k : Int) < (n : Int) := by omega
    have HL : Hid (¬ k < n) := hlt
    have HB1 : Hid (Below (w.alloc (Obj.cells (vals (cl z) 20).toArray 23)).heap.size (w.alloc (Obj.cells (vals (cl z) 20).toArray 23)) w1) := hB1
    clear hB1
    refine wp_region_quiet (C := fun W => Below (w.alloc (.cells (vals (cl z) 20).toArray 23)).heap.size w1 W) (by kernel_rfl) (by kernel_rfl) (Below.refl _ _).drew ?_
    repeat
      refine wpQuiet_step (fun K hK => ?_)
      (go_simp; first | (refine ⟨_, fun wq hs => rfl, hK _ ?_⟩; clear hK K) | (refine hK _ ?_; clear hK K))
    refine wpQuiet_nil ?_
    intro w2 hB2
    go_wp2_with fail
    go_ret2
    refine ⟨k, ?_, by unfold wh; rw [HN.out]; exact HK.out, HB.out.trans ((HB1.out.trans hB2).mono HB.out.size)⟩
    have e : (decide (k < n) && decide (d[k]! = z)) = false := by simp [HL.out]
    rw [e]
    rfl

end Go.Proofs.YtmjcikomcnokkaaDoor
