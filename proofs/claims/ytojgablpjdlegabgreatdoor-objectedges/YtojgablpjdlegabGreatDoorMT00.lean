/- The law's Commit: a commit as the document's. -/
import Derived.Test.YtojgablpjdlegabGreatDoorMC11
import Derived.Test.YtojgablpjdlegabGreatDoorM10
import Derived.Test.YtojgablpjdlegabGreatDoorMC01
namespace Go.Proofs.YtojgablpjdlegabGreatDoor
open Go.RowKit Go.Shelf

theorem step_cl1 {w : World} {ops : Array Oper} {o : Oper} {a : Act} {K : Act → World → Prop} {Q : Exit → Act → World → Prop} {E : Prop} {C : Value → World → Prop} (hw : Region.wanted o (yielded ops a.tmps) = true) (f : FuncId) (hf : ∀ vs w, (callFunc f vs).run Tryz.prog w = .ok (.enter f vs) w) (x : Operand) (ts : Array TypeId) (ho : o.op = .call { callee := .value (.func f), args := #[x], argTypes := ts }) (u : Value) (hx : a.eval x = u)
    (hc : Calls Tryz.prog f #[u] w (fun e w' => ∃ v, e = .returned v ∧ C v w')) (hk : ∀ v w', C v w' → K (a.put o.dst v) w') : if Region.wanted o (yielded ops a.tmps) = true then Oper.wp Tryz.prog o a w K Q else E := by
  rw [if_pos hw]
  have hr : (resolve a.eval { callee := .value (.func f), args := #[x], argTypes := ts } o.type >>= fun d => invoke d.target d.args).run Tryz.prog w = .ok (.enter f #[u]) w := by
    rw [← hf #[u] w, ← hx]
    simp [resolve, Act.eval, invoke, Deferred.ofValue]
  unfold Oper.wp execOp
  simp only [ho, hr]
  refine hc.mono ?_
  rintro e w' ⟨v, rfl, h⟩
  exact hk v w' h

end Go.Proofs.YtojgablpjdlegabGreatDoor
