/- within, size, apply. -/
import Derived.Test.YthaibdflehnbbaaDMem
namespace Go.Proofs.Ythaibdflehnbbaa
open Go.RowKit

theorem wins_take (B : Nat) (l : List Op) (k : Nat) (hk : k < l.length) : wins B (l.take (k + 1)) ↔ wins B (l.take k) ∧ win B (l.getD k oz) := by
  have e : l.take (k + 1) = l.take k ++ [l.getD k oz] := by
    rw [List.take_add_one, List.getElem?_eq_getElem hk]
    simp [List.getD, List.getElem?_eq_getElem hk]
  rw [e]
  constructor
  · intro h
    exact ⟨fun o ho => h o (List.mem_append_left _ ho), h _ (by simp)⟩
  · rintro ⟨h1, h2⟩ o ho
    rcases List.mem_append.1 ho with h | h
    · exact h1 o h
    · simp at h; subst h; exact h2

theorem take_snoc {α : Type} (l : List α) (z : α) (k : Nat) (hk : k < l.length) : l.take (k + 1) = l.take k ++ [l.getD k z] := by
  rw [List.take_add_one, List.getElem?_eq_getElem hk]
  simp [List.getD, List.getElem?_eq_getElem hk]

set_option maxRecDepth 100000 in
set_option maxHeartbeats 1000000 in
theorem within_any (ao : Option Addr) (n c B : Nat) (xs : List MO) (l : List Op) (w : World) (h : Os w ao n xs l) (hn : n ≤ 1000000) (hB : B ≤ 1000000000) (hk : ∀ o ∈ l, okr o) :
    Calls Try.prog 24 #[.slice ao n c, .int .i64 B] w fun e w' => e = .returned (.bool (decide (wins B l))) ∧ Below w.heap.size w w' := by
  have hlen := h.len
  have HT : Hid (Os w ao n xs l) := h
  have HK : Hid (∀ o ∈ l, okr o) := hk
  clear h hk
  go_enter Try.func24, Try.ntmps24
  go_wp2
  go_loopw [9] (fun i wr => ∃ k : Nat, k ≤ n ∧ i = .int .i64 k ∧ Hid (wins B (l.take k)) ∧ Hid (Below w.heap.size w wr)) (fun i _ => n - (intOf i).toNat)
  case atStart => exact ⟨0, by omega, rfl, (fun o ho => by simp at ho), Below.refl _ _⟩
  case round =>
    obtain ⟨k, hk, rfl, hw, hb⟩ := hrel
    by_cases hlt : k < n
    · have ho := HT.out.keep (hb.out.mono (Nat.le_refl _))
      have hmem := HK.out _ (HT.out.at k hlt)
      obtain ⟨b, off, rfl, h0, h1, h2, h3⟩ := ho.cells k hlt
      have his := ho.is k hlt
      have HW : Hid (wins B (l.take (k + 1)) ↔ wins B (l.take k) ∧ win B (l.getD k oz)) := wins_take B l k (by omega)
      have HL : Hid (wins B l → win B (l.getD k oz)) := fun h => h _ (HT.out.at k hlt)
      clear ho
      generalize xs.getD k mz = x at *
      generalize l.getD k oz = o at *
      obtain ⟨e1, e2, e3, _⟩ := his
      have hp := hmem.pos
      obtain ⟨xc, xf, xn, xa, xm, xk⟩ := x
      obtain ⟨oc, of, on, od⟩ := o
      simp only at e1 e2 e3 h0 h1 h2 h3 hp
      subst e1 e2 e3
      have B2 : Hid (Below w.heap.size w (wr.alloc (.cells #[.bool xc, .int .i64 xf, .int .i64 xn, .slice xa xm xk] 42))) := hb.out.alloc hb.out.size _
      have hp1 := hp.1
      have hp2 := hp.2.1
      have hp3 := hp.2.2.1
      have hp4 := hp.2.2.2.1
      clear hp hmem
      cases xc with
      | false =>
        have hw' : Hid (wins B (l.take (k + 1))) := HW.out.2 ⟨hw.out, fun e => by cases e⟩
        clear hw hb HW HL
        go_wp2
        go_roundw
        case rel => exact ⟨k + 1, by omega, by go_num, hw', B2⟩
        case measure => simp [intOf]; omega
      | true =>
        by_cases hgt : xf + xn > B
        · have hno : ¬ wins B l := fun h => by have : xf + xn ≤ B := HL.out h rfl; omega
          have HE : Hid (decide (wins B l) = false) := decide_eq_false hno
          clear hw hb HW HL hno
          go_wp2
          go_ret
          rw [HE.out]
          exact ⟨rfl, B2.out⟩
        · have hw' : Hid (wins B (l.take (k + 1))) := HW.out.2 ⟨hw.out, fun _ => by show xf + xn ≤ B; omega⟩
          clear hw hb HW HL
          go_wp2
          go_roundw
          case rel => exact ⟨k + 1, by omega, by go_num, hw', B2⟩
          case measure => simp [intOf]; omega
    · obtain rfl : k = n := by omega
      have HE : Hid (decide (wins B l) = true) := decide_eq_true (by have := hw.out; rwa [← hlen, List.take_length] at this)
      clear hw
      go_wp2
      go_ret
      rw [HE.out]
      exact ⟨rfl, hb.out⟩

theorem tot_take (l : List Op) (k : Nat) (hk : k < l.length) : tot (l.take (k + 1)) = tot (l.take k) + osz (l.getD k oz) := by
  rw [take_snoc l oz k hk, tot_app]
  simp [tot]

set_option maxRecDepth 100000 in
set_option maxHeartbeats 1000000 in
theorem size_ops (ao : Option Addr) (n c : Nat) (xs : List MO) (l : List Op) (w : World) (h : Os w ao n xs l) (hn : n ≤ 1000000) (hk : ∀ o ∈ l, okr o) :
    Calls Try.prog 25 #[.slice ao n c] w fun e w' => e = .returned (.int .i64 (tot l)) ∧ Below w.heap.size w w' := by
  have hlen := h.len
  have HT : Hid (Os w ao n xs l) := h
  have HK : Hid (∀ o ∈ l, okr o) := hk
  clear h hk
  go_enter Try.func25, Try.ntmps25
  go_wp2
  go_loopw [3, 8] (fun s i wr => ∃ k : Nat, k ≤ n ∧ i = .int .i64 k ∧ s = .int .i64 (tot (l.take k)) ∧ Hid (Below w.heap.size w wr)) (fun _ i _ => n - (intOf i).toNat)
  case atStart => exact ⟨0, by omega, rfl, rfl, Below.refl _ _⟩
  case round =>
    obtain ⟨k, hk, rfl, rfl, hb⟩ := hrel
    by_cases hlt : k < n
    · have ho := HT.out.keep (hb.out.mono (Nat.le_refl _))
      have hmem := HK.out _ (HT.out.at k hlt)
      obtain ⟨b, off, rfl, h0, h1, h2, h3⟩ := ho.cells k hlt
      have his := ho.is k hlt
      have HW : Hid (tot (l.take (k + 1)) = tot (l.take k) + osz (l.getD k oz)) := tot_take l k (by omega)
      have hb0 := tot_pos (l.take k) (fun o ho => HK.out o (List.mem_of_mem_take ho))
      have hz : (l.take k).length ≤ 1000000 := by simp; omega
      clear ho
      generalize xs.getD k mz = x at *
      generalize l.getD k oz = o at *
      obtain ⟨e1, e2, e3, hrd⟩ := his
      have hs := hmem.size
      have hl := hrd.len
      have hp := hmem.pos
      obtain ⟨xc, xf, xn, xa, xm, xk⟩ := x
      obtain ⟨oc, of, on, od⟩ := o
      simp only [osz] at e1 e2 e3 h0 h1 h2 h3 hs hl HW hp
      subst e1 e2 e3
      have B2 : Hid (Below w.heap.size w (wr.alloc (.cells #[.bool xc, .int .i64 xf, .int .i64 xn, .slice xa xm xk] 42))) := hb.out.alloc hb.out.size _
      generalize tot (l.take k) = T at *
      have q0 : 0 ≤ T ∧ T ≤ 16777216000000 := by omega
      have q1 := q0.1
      have q2 := q0.2
      have q3 : 0 ≤ xn := hp.2.1
      have q4 : xn < 16777216 := hp.2.2.1
      have q5 : xm ≤ 127 := by omega
      rw [hl] at HW
      clear hs hl hp hmem hb0 hz hrd hb q0
      go_wp2
      go_roundw
      case rel => exact ⟨k + 1, by omega, by go_num, by rw [HW.out], B2⟩
      case measure => simp [intOf]; omega
    · obtain rfl : k = n := by omega
      have e : l.take k = l := by rw [← hlen, List.take_length]
      rw [e]
      clear e
      go_wp2
      go_ret
      exact ⟨rfl, hb.out⟩

end Go.Proofs.Ythaibdflehnbbaa
