/- same. -/
import Derived.Test.YthaibdflehnbbaaXApply
namespace Go.Proofs.Ythaibdflehnbbaa
open Go.RowKit

set_option maxRecDepth 100000 in
set_option maxHeartbeats 4000000 in
theorem same_yes (ao : Option Addr) (n c : Nat) (xs : List MO) (bo : Option Addr) (c' : Nat) (ys : List MO) (l : List Op) (w : World) (h : Os w ao n xs l) (h' : Os w bo n ys l) (hn : n ≤ 1000000) :
    Calls Try.prog 16 #[.slice ao n c, .slice bo n c'] w fun e w' => e = .returned (.bool true) ∧ Below w.heap.size w w' := by
  have HT : Hid (Os w ao n xs l) := h
  have HU : Hid (Os w bo n ys l) := h'
  clear h h'
  go_enter Try.func16, Try.ntmps16
  go_wp2
  go_loopw [5] (fun i wr => ∃ k : Nat, k ≤ n ∧ i = .int .i64 k ∧ Hid (Below w.heap.size w wr)) (fun i _ => n - (intOf i).toNat)
  case atStart => exact ⟨0, by omega, rfl, Below.refl _ _⟩
  case round =>
    obtain ⟨k, hk, rfl, hb⟩ := hrel
    by_cases hlt : k < n
    · have zk : (k : Int) < n := by omega
      have ho := HT.out.keep hb.out
      have hu := HU.out.keep hb.out
      obtain ⟨b, off, eao, h0, h1, h2, h3⟩ := ho.cells k hlt
      obtain ⟨b', off', ebo, g0, g1, g2, g3⟩ := hu.cells k hlt
      have his := ho.is k hlt
      have hiu := hu.is k hlt
      have hst := fun q => (his.rd.same (w' := wr.drewN q) (fun _ => rfl)).str
      have hsu := fun q => (hiu.rd.same (w' := wr.drewN q) (fun _ => rfl)).str
      obtain ⟨e1, e2, e3, _⟩ := his
      obtain ⟨f1, f2, f3, _⟩ := hiu
      rw [e1] at h0
      rw [e2] at h1
      rw [e3] at h2
      rw [f1] at g0
      rw [f2] at g1
      rw [f3] at g2
      clear e1 e2 e3 f1 f2 f3 ho hu
      generalize xs.getD k mz = x at *
      generalize ys.getD k mz = y at *
      generalize l.getD k oz = o at *
      obtain ⟨xc, xf, xn, xa, xm, xk⟩ := x
      obtain ⟨yc, yf, yn, ya, ym, yk⟩ := y
      obtain ⟨oc, of, on, od⟩ := o
      simp only at h0 h1 h2 h3 g0 g1 g2 g3 hst hsu
      have B2 : Hid (Below w.heap.size w wr) := hb.out
      subst eao ebo
      clear hb
      cases oc with
      | true =>
        go_wp2_with fail
        go_quiet (fail)
        have B3 : Hid (Below w.heap.size w (wr.drewN nq)) := B2.out.trans (⟨rfl, rfl, rfl, Nat.le_refl _, fun _ _ => rfl⟩ : Below w.heap.size wr (wr.drewN nq))
        clear h0 h1 h2 h3 g0 g1 g2 g3 hst hsu B2
        go_wp2
        go_roundw
        case rel => exact ⟨k + 1, by omega, by go_num, B3⟩
        case measure => simp [intOf]; omega
      | false =>
        go_wp2_with fail
        go_quiet (fail)
        have B3 : Hid (Below w.heap.size w (wr.drewN nq)) := B2.out.trans (⟨rfl, rfl, rfl, Nat.le_refl _, fun _ _ => rfl⟩ : Below w.heap.size wr (wr.drewN nq))
        clear h0 h1 h2 h3 g0 g1 g2 g3 hst hsu B2
        go_wp2
        go_roundw
        case rel => exact ⟨k + 1, by omega, by go_num, B3⟩
        case measure => simp [intOf]; omega
    · go_wp2
      go_ret
      exact ⟨rfl, hb.out⟩

end Go.Proofs.Ythaibdflehnbbaa
