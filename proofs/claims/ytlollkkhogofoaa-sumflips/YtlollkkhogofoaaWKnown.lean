/- Sums that are known. -/
import Derived.Test.YtlollkkhogofoaaWJoin
namespace Go.Proofs.Ytlollkkhogofoaa
open Go.RowKit

theorem q_call1 {ops : Array Oper} {o : Oper} {a : Act} {C : World → Prop} {K : Act → Prop} {E : Prop} (hw : Region.wanted o (yielded ops a.tmps) = true) (f : FuncId) (hf : ∀ vs w, (callFunc f vs).run Try.prog w = .ok (.enter f vs) w) (x : Operand) (ts : Array TypeId) (ho : o.op = .call { callee := .value (.func f), args := #[x], argTypes := ts }) (u : Value) (hx : a.eval x = u) (v : Value)
    (hc : ∀ w, C w → Calls Try.prog f #[u] w (fun e w' => e = .returned v ∧ C w')) (hk : K (a.put o.dst v)) : if Region.wanted o (yielded ops a.tmps) = true then o.quiet Try.prog a C K else E := by
  rw [if_pos hw]
  refine ⟨v, fun w hC => ?_, hk⟩
  have h := hc w hC
  have hr : (resolve a.eval { callee := .value (.func f), args := #[x], argTypes := ts } o.type >>= fun d => invoke d.target d.args).run Try.prog w = .ok (.enter f #[u]) w := by
    rw [← hf #[u] w, ← hx]
    simp [resolve, Act.eval, invoke, Deferred.ofValue]
  unfold Oper.quietAt execOp
  simp only [ho, hr]
  exact ⟨rfl, h⟩

theorem q_call2 {ops : Array Oper} {o : Oper} {a : Act} {C : World → Prop} {K : Act → Prop} {E : Prop} (hw : Region.wanted o (yielded ops a.tmps) = true) (f : FuncId) (hf : ∀ vs w, (callFunc f vs).run Try.prog w = .ok (.enter f vs) w) (x y : Operand) (ts : Array TypeId) (ho : o.op = .call { callee := .value (.func f), args := #[x, y], argTypes := ts }) (u u' : Value) (hx : a.eval x = u) (hy : a.eval y = u') (v : Value)
    (hc : ∀ w, C w → Calls Try.prog f #[u, u'] w (fun e w' => e = .returned v ∧ C w')) (hk : K (a.put o.dst v)) : if Region.wanted o (yielded ops a.tmps) = true then o.quiet Try.prog a C K else E := by
  rw [if_pos hw]
  refine ⟨v, fun w hC => ?_, hk⟩
  have h := hc w hC
  have hr : (resolve a.eval { callee := .value (.func f), args := #[x, y], argTypes := ts } o.type >>= fun d => invoke d.target d.args).run Try.prog w = .ok (.enter f #[u, u']) w := by
    rw [← hf #[u, u'] w, ← hx, ← hy]
    simp [resolve, Act.eval, invoke, Deferred.ofValue]
  unfold Oper.quietAt execOp
  simp only [ho, hr]
  exact ⟨rfl, h⟩

theorem cf9 (vs : Array Value) (w : World) : (callFunc 9 vs).run Try.prog w = .ok (.enter 9 vs) w := by simp [go_sem]
theorem cf10 (vs : Array Value) (w : World) : (callFunc 10 vs).run Try.prog w = .ok (.enter 10 vs) w := by simp [go_sem]
theorem cf13 (vs : Array Value) (w : World) : (callFunc 13 vs).run Try.prog w = .ok (.enter 13 vs) w := by simp [go_sem]

/-- The nine digits. -/
def nine : List Int := [49, 50, 51, 52, 53, 54, 55, 56, 57]

theorem crc9 : cmore 0 (nat nine) = 3421780262 := by decide +kernel
theorem crc4 : cmore 0 (nat (nine.take 4)) = 2615402659 := by decide +kernel
theorem crc49 : cmore 2615402659 (nat (nine.drop 4)) = 3421780262 := by decide +kernel
theorem adl9 : ad ((pl 1 0 nine).1 % MD) ((pl 1 0 nine).2 % MD) = 152961502 := by decide +kernel
theorem adl0 : ad ((pl 1 0 []).1 % MD) ((pl 1 0 []).2 % MD) = 1 := by decide +kernel

theorem nine_rd (w : World) : Rd (w.alloc (Obj.cells #[.int .u8 49, .int .u8 50, .int .u8 51, .int .u8 52, .int .u8 53, .int .u8 54, .int .u8 55, .int .u8 56, .int .u8 57] 5)) (some ⟨w.heap.size, 0, none⟩) 9 9 nine :=
  Rd.ofRow (World.rowIs_alloc w #[.int .u8 49, .int .u8 50, .int .u8 51, .int .u8 52, .int .u8 53, .int .u8 54, .int .u8 55, .int .u8 56, .int .u8 57] 5 _ (fun i hi => by
    simp at hi
    rcases i with _ | _ | _ | _ | _ | _ | _ | _ | _ | i <;> first | rfl | omega)) rfl (by intro x hx; simp [nine] at hx; omega)

/-- What region 2 reads. -/
structure KS (w : World) (B : Nat) (w' : World) : Prop where
  r : Rd w' (some ⟨B, 0, none⟩) 9 9 nine
  bel : Below w.heap.size w w'

theorem KS.keep {w : World} {B : Nat} {w' w'' : World} (h : KS w B w') (hb : Below w'.heap.size w' w'') : KS w B w'' := ⟨h.r.keep hb, h.bel.trans (hb.mono h.bel.size)⟩

theorem KS.hd {w : World} {B : Nat} {w' : World} (h : KS w B w') : Rd w' (some ⟨B, 0, none⟩) 4 9 (nine.take 4) := by
  have := h.r.sub 0 4 (by omega)
  rw [if_neg (by omega), Option.map_some, Addr.add_lit] at this
  exact this

theorem KS.tl {w : World} {B : Nat} {w' : World} (h : KS w B w') : Rd w' (some ⟨B, 4, none⟩) 5 5 (nine.drop 4) := by
  have := h.r.sub 4 5 (by omega)
  rw [if_neg (by omega), Option.map_some, Addr.add_lit] at this
  exact this

theorem kc1 (w : World) (B : Nat) : ∀ wq, KS w B wq → Calls Try.prog 9 #[.slice (some ⟨B, 0, none⟩) 9 9] wq (fun e w' => e = .returned (.int .u32 3421780262) ∧ KS w B w') := fun wq h => (crc_any _ 9 9 nine wq h.r (by omega)).mono (fun e w'' hh => ⟨by rw [hh.1, crc9]; rfl, h.keep hh.2⟩)

theorem kc2 (w : World) (B : Nat) : ∀ wq, KS w B wq → Calls Try.prog 10 #[.slice (some ⟨B, 0, none⟩) 9 9] wq (fun e w' => e = .returned (.int .u32 152961502) ∧ KS w B w') := fun wq h => (adler_any _ 9 9 nine wq h.r (by omega)).mono (fun e w'' hh => ⟨by rw [hh.1, adl9], by rw [hh.2]; exact h⟩)

theorem kc3 (w : World) (B : Nat) : ∀ wq, KS w B wq → Calls Try.prog 9 #[.slice none 0 0] wq (fun e w' => e = .returned (.int .u32 0) ∧ KS w B w') := fun wq h => (crc_any none 0 0 [] wq (Rd.nil wq) (by omega)).mono (fun e w'' hh => ⟨by rw [hh.1]; rfl, h.keep hh.2⟩)

theorem kc4 (w : World) (B : Nat) : ∀ wq, KS w B wq → Calls Try.prog 10 #[.slice none 0 0] wq (fun e w' => e = .returned (.int .u32 1) ∧ KS w B w') := fun wq h => (adler_any none 0 0 [] wq (Rd.nil wq) (by omega)).mono (fun e w'' hh => ⟨by rw [hh.1, adl0], by rw [hh.2]; exact h⟩)

theorem kc5 (w : World) (B : Nat) : ∀ wq, KS w B wq → Calls Try.prog 9 #[.slice (some ⟨B, 0, none⟩) 4 9] wq (fun e w' => e = .returned (.int .u32 2615402659) ∧ KS w B w') := fun wq h => (crc_any _ 4 9 _ wq h.hd (by omega)).mono (fun e w'' hh => ⟨by rw [hh.1, crc4]; rfl, h.keep hh.2⟩)

theorem kc6 (w : World) (B : Nat) : ∀ wq, KS w B wq → Calls Try.prog 13 #[.int .u32 2615402659, .slice (some ⟨B, 4, none⟩) 5 5] wq (fun e w' => e = .returned (.int .u32 3421780262) ∧ KS w B w') := fun wq h => (crcMore_any 2615402659 _ 5 5 _ wq (by omega) h.tl (by omega)).mono (fun e w'' hh => ⟨by rw [hh.1, crc49]; rfl, h.keep hh.2⟩)

set_option maxRecDepth 100000 in
set_option maxHeartbeats 4000000 in
theorem known_any (w : World) : Calls Try.prog 8 #[] w fun e w' => e = .returned (.bool true) ∧ Below w.heap.size w w' := by
  go_enter Try.func8, Try.ntmps8
  go_wp2_with (first | (refine wpList_conv rfl _ rfl ⟨w.heap.size, 0, none⟩ 9 9 rfl ?_; intro w2 fc cc))
  obtain ⟨B, hB⟩ : ∃ B, B = w.heap.size := ⟨_, rfl⟩
  have hk : KS w B w2 := ⟨by rw [hB]; exact (nine_rd w).same cc, (new_fr fc)⟩
  rw [← hB]
  clear fc cc hB
  have c1 := kc1 w B
  have c2 := kc2 w B
  have c3 := kc3 w B
  have c4 := kc4 w B
  have c5 := kc5 w B
  have c6 := kc6 w B
  refine wp_region_quiet (C := fun w' => KS w B w') (by kernel_rfl) (by kernel_rfl) (hk.keep (Below.refl _ _).drew) ?_
  clear hk
  refine wpQuiet_step (fun K hK => ?_)
  (go_simp; refine ⟨_, fun wq hs => rfl, hK _ ?_⟩; clear hK K)
  refine wpQuiet_step (fun K hK => ?_)
  (refine q_call1 (by rfl) 9 cf9 _ _ rfl (.slice (some ⟨B, 0, none⟩) 9 9) rfl _ c1 (hK _ ?_); clear hK K)
  refine wpQuiet_step (fun K hK => ?_)
  (go_simp; refine ⟨_, fun wq hs => rfl, hK _ ?_⟩; clear hK K)
  refine wpQuiet_step (fun K hK => ?_)
  (go_simp; refine ⟨_, fun wq hs => rfl, hK _ ?_⟩; clear hK K)
  refine wpQuiet_step (fun K hK => ?_)
  (go_simp; refine ⟨_, fun wq hs => rfl, hK _ ?_⟩; clear hK K)
  refine wpQuiet_step (fun K hK => ?_)
  (refine q_call1 (by rfl) 10 cf10 _ _ rfl (.slice (some ⟨B, 0, none⟩) 9 9) rfl _ c2 (hK _ ?_); clear hK K)
  refine wpQuiet_step (fun K hK => ?_)
  (go_simp; refine ⟨_, fun wq hs => rfl, hK _ ?_⟩; clear hK K)
  refine wpQuiet_step (fun K hK => ?_)
  (go_simp; refine ⟨_, fun wq hs => rfl, hK _ ?_⟩; clear hK K)
  refine wpQuiet_step (fun K hK => ?_)
  (go_simp; refine ⟨_, fun wq hs => rfl, hK _ ?_⟩; clear hK K)
  refine wpQuiet_step (fun K hK => ?_)
  (refine q_call1 (by rfl) 9 cf9 _ _ rfl (.slice none 0 0) rfl _ c3 (hK _ ?_); clear hK K)
  refine wpQuiet_step (fun K hK => ?_)
  (go_simp; refine ⟨_, fun wq hs => rfl, hK _ ?_⟩; clear hK K)
  refine wpQuiet_step (fun K hK => ?_)
  (go_simp; refine ⟨_, fun wq hs => rfl, hK _ ?_⟩; clear hK K)
  refine wpQuiet_step (fun K hK => ?_)
  (go_simp; refine ⟨_, fun wq hs => rfl, hK _ ?_⟩; clear hK K)
  refine wpQuiet_step (fun K hK => ?_)
  (refine q_call1 (by rfl) 10 cf10 _ _ rfl (.slice none 0 0) rfl _ c4 (hK _ ?_); clear hK K)
  refine wpQuiet_step (fun K hK => ?_)
  (go_simp; refine ⟨_, fun wq hs => rfl, hK _ ?_⟩; clear hK K)
  refine wpQuiet_step (fun K hK => ?_)
  (go_simp; refine ⟨_, fun wq hs => rfl, hK _ ?_⟩; clear hK K)
  refine wpQuiet_step (fun K hK => ?_)
  (go_simp; refine ⟨_, fun wq hs => rfl, hK _ ?_⟩; clear hK K)
  refine wpQuiet_step (fun K hK => ?_)
  (go_simp; refine ⟨_, fun wq hs => rfl, hK _ ?_⟩; clear hK K)
  refine wpQuiet_step (fun K hK => ?_)
  (go_simp; refine ⟨_, fun wq hs => rfl, hK _ ?_⟩; clear hK K)
  refine wpQuiet_step (fun K hK => ?_)
  (refine q_call1 (by rfl) 9 cf9 _ _ rfl (.slice (some ⟨B, 0, none⟩) 4 9) rfl _ c5 (hK _ ?_); clear hK K)
  refine wpQuiet_step (fun K hK => ?_)
  (go_simp; refine ⟨_, fun wq hs => rfl, hK _ ?_⟩; clear hK K)
  refine wpQuiet_step (fun K hK => ?_)
  (go_simp; refine ⟨_, fun wq hs => rfl, hK _ ?_⟩; clear hK K)
  refine wpQuiet_step (fun K hK => ?_)
  (refine q_call2 (by rfl) 13 cf13 _ _ _ rfl (.int .u32 2615402659) (.slice (some ⟨B, 4, none⟩) 5 5) rfl rfl _ c6 (hK _ ?_); clear hK K)
  refine wpQuiet_step (fun K hK => ?_)
  (go_simp; refine ⟨_, fun wq hs => rfl, hK _ ?_⟩; clear hK K)
  refine wpQuiet_step (fun K hK => ?_)
  (refine q_call1 (by rfl) 9 cf9 _ _ rfl (.slice (some ⟨B, 0, none⟩) 9 9) rfl _ c1 (hK _ ?_); clear hK K)
  refine wpQuiet_step (fun K hK => ?_)
  (go_simp; refine ⟨_, fun wq hs => rfl, hK _ ?_⟩; clear hK K)
  refine wpQuiet_step (fun K hK => ?_)
  (go_simp; refine ⟨_, fun wq hs => rfl, hK _ ?_⟩; clear hK K)
  refine wpQuiet_step (fun K hK => ?_)
  (go_simp; refine ⟨_, fun wq hs => rfl, hK _ ?_⟩; clear hK K)
  refine wpQuiet_nil ?_
  intro w8 h8
  have hb8 := h8.bel
  clear h8
  go_wp2_with fail
  go_ret
  exact ⟨rfl, hb8⟩

end Go.Proofs.Ytlollkkhogofoaa
