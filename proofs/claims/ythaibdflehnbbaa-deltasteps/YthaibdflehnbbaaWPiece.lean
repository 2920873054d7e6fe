/- copied, put. -/
import Derived.Test.YthaibdflehnbbaaWSame
import Derived.Test.YthaibdflehnbbaaDMem
import Derived.Test.YthaibdflehnbbaaWRSteps
namespace Go.Proofs.Ythaibdflehnbbaa
open Go.RowKit

/-- A row of steps, begun as v0 at w0, is v at w, and holds l; no other old block was turned. -/
structure Ow (w0 : World) (B : Nat) (v0 : Value) (w : World) (v : Value) (n : Nat) (ms : List MO) (l : List Op) : Prop where
  own : OwO w 42 B v n ms l
  fr : Fr (fun k => v0.ownBlock = some k) w0 w
  lies : ∀ k, v.ownBlock = some k → v0.ownBlock = some k ∨ w0.heap.size ≤ k
  low : B ≤ w0.heap.size
  dat : ∀ j, j < n → ∀ ad, (ms.getD j mz).a = some ad → 0 < (ms.getD j mz).m → ad.block < B

theorem Ow.lt {w0 : World} {B : Nat} {v0 : Value} {w : World} {v : Value} {n : Nat} {ms : List MO} {l : List Op} (h : Ow w0 B v0 w v n ms l) : ∀ k, v.ownBlock = some k → B ≤ k ∧ k < w.heap.size := fun k hk => h.own.own.lt k hk

theorem Ow.trans {w0 w w' : World} {B : Nat} {v0 v v' : Value} {n n' : Nat} {ms ms' : List MO} {l l' : List Op} (h : Ow w0 B v0 w v n ms l) (k : Ow w B v w' v' n' ms' l') : Ow w0 B v0 w' v' n' ms' l' := by
  refine ⟨k.own, h.fr.trans k.fr (fun i hi e => ?_), fun i hi => ?_, h.low, k.dat⟩
  · rcases h.lies i e with h1 | h1
    · exact h1
    · omega
  · rcases k.lies i hi with k1 | k1
    · exact h.lies i k1
    · exact .inr (Nat.le_trans h.fr.size k1)

theorem Ow.keep {w0 w w' : World} {B : Nat} {v0 v : Value} {n : Nat} {ms : List MO} {l : List Op} (h : Ow w0 B v0 w v n ms l) (hb : Below w.heap.size w w') : Ow w0 B v0 w' v n ms l :=
  ⟨h.own.keep hb, h.fr.trans (P' := fun _ => False) (Fr.ofBelow hb) (fun _ _ h => h.elim), h.lies, h.low, h.dat⟩

theorem Ow.refl {w : World} {B : Nat} {v : Value} {n : Nat} {ms : List MO} {l : List Op} (h : OwO w 42 B v n ms l) (hB : B ≤ w.heap.size) (hd : ∀ j, j < n → ∀ ad, (ms.getD j mz).a = some ad → 0 < (ms.getD j mz).m → ad.block < B) : Ow w B v w v n ms l :=
  ⟨h, Fr.refl _ _, fun _ hk => .inl hk, hB, hd⟩

theorem Ow.nil (w : World) (B : Nat) (hB : B ≤ w.heap.size) : Ow w B (.slice none 0 0) w (.slice none 0 0) 0 [] [] := Ow.refl (OwO.nil _ _ _) hB (fun j hj => by omega)

theorem Ow.below {w0 w : World} {B : Nat} {v0 v : Value} {n : Nat} {ms : List MO} {l : List Op} (h : Ow w0 B v0 w v n ms l) (hv : ∀ k, v0.ownBlock = some k → B ≤ k) : Below B w0 w :=
  h.fr.below B h.low (fun i hi e => by have := hv i e; omega)

/-- One step put behind them. -/
theorem Ow.push {w0 w w' : World} {B : Nat} {v0 v : Value} {n : Nat} {ms : List MO} {l : List Op} (h : Ow w0 B v0 w v n ms l) {x : MO} {o : Op} (hx : OpIs w x o) (hs : ∀ ad, x.a = some ad → 0 < x.m → ad.block < B)
    {g cap H : Nat} (ho : w'.ownsRow B 42 4 (.slice (some ⟨g, 0, none⟩) (n + 1) cap) (n + 1) (ocs ms ++ oc x)) (hg : w.grownBy w' v.ownBlock) (hl : v.ownBlock = some g ∨ g = H) (hH : H = w.heap.size) :
    Ow w0 B v0 w' (.slice (some ⟨g, 0, none⟩) (n + 1) cap) (n + 1) (ms ++ [x]) (l ++ [o]) := by
  have hlx := h.own.lenx
  refine h.trans ⟨h.own.push hx (fun q hq ad e hm e2 => by have := hs ad e hm; have := (h.lt q hq).1; omega) ho hg hl hH, (Fr.refl _ _).grown hg (fun _ _ e => e), fun k hk => ?_, Nat.le_trans h.low h.fr.size, fun j hj ad e hm => ?_⟩
  · have e : g = k := by simpa [Value.ownBlock] using hk
    subst e
    rcases hl with h1 | h1
    · exact .inl h1
    · exact .inr (by omega)
  · by_cases hjn : j < n
    · rw [getD_app1 ms x mz j (by omega)] at e hm
      exact h.dat j hjn ad e hm
    · have : j = ms.length := by omega
      subst this
      rw [getD_app2] at e hm
      exact hs ad e hm

set_option maxRecDepth 100000 in
set_option maxHeartbeats 1000000 in
theorem copied_any (B : Nat) (v : Value) (n : Nat) (ms : List MO) (l : List Op) (F N : Nat) (w : World) (h : Ow w B v w v n ms l) (hn : n ≤ 1000000) (hF : F ≤ 1000000) (hN : N ≤ 65536) :
    Calls Try.prog 43 #[v, .int .i64 F, .int .i64 N] w fun e w' => ∃ v' n' ms', e = .returned v' ∧ Ow w B v w' v' n' ms' (l ++ cop F N) := by
  obtain ⟨i0, hi, hz0, hz1, hz2⟩ := info_parts Try.info42
  have HO : Hid (Ow w B v w v n ms l) := h
  clear h
  go_enter Try.func43, Try.ntmps43
  go_wp2
  go_loopw [0, 1, 2] (fun lv fv nv wr => (lv = v ∧ fv = .int .i64 F ∧ nv = .int .i64 N ∧ wr = w) ∨ (0 < N ∧ nv = .int .i64 0 ∧ (∃ f : Int, fv = .int .i64 f) ∧ ∃ v' n' ms', lv = v' ∧ Hid (Ow w B v wr v' n' ms' (l ++ cop F N)))) (fun _ _ nv _ => (intOf nv).toNat)
  case atStart => exact .inl ⟨rfl, rfl, rfl, rfl⟩
  case round =>
    rcases hrel with ⟨rfl, rfl, rfl, rfl⟩ | ⟨hpos, rfl, ⟨f, rfl⟩, v', n', ms', rfl, hO⟩
    · by_cases h0 : N = 0
      · subst h0
        have HE : Hid (l ++ cop F 0 = l) := by show _ = _; simp [cop]
        go_wp2
        go_ret
        rw [HE.out]
        exact ⟨_, n, ms, rfl, HO.out⟩
      · have z0 : (0 : Int) < N := by omega
        have HC : Hid (l ++ cop F N = l ++ [⟨true, F, N, []⟩]) := by show _ = _; unfold cop; rw [if_neg h0]
        go_wp2_with (first
          | (refine wpList_min rfl 3 _ _ rfl N 65536 rfl rfl N (by omega) ?_)
          | (at_builtin; refine wpList_append_lies _ rfl _ _ 59 rfl B 42 i0 (.agg #[.bool false, .int .i64 0, .int .i64 0, .slice none 0 0]) 4 48 Try.underlying59 hi hz0 hz1 hz2 rfl (by decide) u0 n _ rfl (HO.out.own.own.alloc _) ⟨wr.heap.size, 0, none⟩ 1 1 (oc ⟨true, F, N, none, 0, 0⟩) rfl rfl (cell_four_new _ _ _ _ _ _) (oc_oneCell _) (by omega) (by unfold maxLen; omega) (by omega) (by have := HO.out.low; simp; omega) (wr.heap.size + 1) (by simp) ?_; intro g5 c5 w5 o5 gr5 l5 s5))
        have O5 := (HO.out.keep (new_below wr (.cells #[.bool true, .int .i64 F, .int .i64 N, .slice none 0 0] 42))).push (x := ⟨true, F, N, none, 0, 0⟩) (o := ⟨true, F, N, []⟩) ⟨rfl, rfl, rfl, Rd.nil _⟩ (fun ad e => by cases e) o5 gr5 l5 (by simp)
        rw [← HC.out] at O5
        clear o5 gr5 l5 s5 HO HC
        have O6 : Hid (Ow wr B u0 w5 (.slice (some ⟨g5, 0, none⟩) (n + 1) c5) (n + 1) (ms ++ [⟨true, F, N, none, 0, 0⟩]) (l ++ cop F N)) := O5
        clear O5
        go_wp2
        go_roundw
        case rel => exact .inr ⟨by omega, by simp, ⟨_, rfl⟩, _, _, _, rfl, O6⟩
        case measure => simp [intOf]; omega
    · go_wp2
      go_ret
      exact ⟨_, n', ms', rfl, hO.out⟩

end Go.Proofs.Ythaibdflehnbbaa
