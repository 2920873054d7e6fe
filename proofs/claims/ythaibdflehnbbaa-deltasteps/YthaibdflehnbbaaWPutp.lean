/- put. -/
import Derived.Test.YthaibdflehnbbaaWPiece
import Derived.Test.YthaibdflehnbbaaWParse
namespace Go.Proofs.Ythaibdflehnbbaa
open Go.RowKit

/-- The way of put: k bytes are put. -/
structure Pp (w : World) (B : Nat) (v : Value) (l : List Op) (b : List Int) (N : Nat) (wr : World) (lv : Value) (bo : Option Addr) (k C : Nat) (v' : Value) (n' : Nat) (ms' : List MO) (l' : List Op) : Prop where
  eq : lv = v'
  rd : Rd wr bo (N - k) C (b.drop k)
  src : ∀ ad, bo = some ad → 0 < N - k → ad.block < B
  own : Ow w B v wr v' n' ms' (l ++ l')
  good : ∀ bs, Gd bs l' (b.take k)
  le : k ≤ N

set_option maxRecDepth 100000 in
set_option maxHeartbeats 1000000 in
theorem put_any (B : Nat) (v : Value) (n : Nat) (ms : List MO) (l : List Op) (bo : Option Addr) (N C : Nat) (b : List Int) (w : World) (h : Ow w B v w v n ms l) (hb : Rd w bo N C b) (hs : ∀ ad, bo = some ad → 0 < N → ad.block < B) (hn : n ≤ 1000000) (hN : N ≤ 1000000) :
    Calls Try.prog 59 #[v, .slice bo N C] w fun e w' => ∃ v' n' ms' l', e = .returned v' ∧ Ow w B v w' v' n' ms' (l ++ l') ∧ ∀ bs, Gd bs l' b := by
  obtain ⟨i0, hi, hz0, hz1, hz2⟩ := info_parts Try.info42
  have hbl := hb.len
  have hbyt := hb.byt
  have hll := h.own.len
  have HBY : Hid (∀ x ∈ b, 0 ≤ x ∧ x < 256) := hbyt
  have H0 : Hid (Pp w B v l b N w v bo 0 C v n ms []) := ⟨rfl, by simpa using hb, by simpa using hs, by simpa using h, fun bs => by simpa using Gd.nil bs, by omega⟩
  clear h hb hs hbyt
  go_enter Try.func59, Try.ntmps59
  go_wp2_with fail
  go_loopg [0, 1] N (fun gk lv bv wr => ∃ bo k C v' n' ms' l', bv = .slice bo (N - k) C ∧ gk = N - k ∧ Hid (Pp w B v l b N wr lv bo k C v' n' ms' l'))
  case atStart => exact ⟨bo, 0, C, v, n, ms, [], by simp, by simp, H0⟩
  case round =>
    obtain ⟨bo, k, C, v', n', ms', l', rfl, rfl, HP⟩ := hrel
    clear H0
    obtain rfl : u0 = v' := HP.out.eq
    have hkN := HP.out.le
    have hn' : n' ≤ 2000000 := by
      have h1 := HP.out.own.own.len
      have h2 := (HP.out.good []).len
      simp only [List.length_append, List.length_take] at h1 h2
      omega
    by_cases hk : k < N
    · obtain ⟨M, hM⟩ : ∃ M, M = N - k := ⟨_, rfl⟩
      have HM : Hid (M = N - k) := hM
      have hM0 : 0 < M := by omega
      have zM : (0 : Int) < M := by omega
      obtain ⟨s, hs⟩ : ∃ s, s = min M 127 := ⟨_, rfl⟩
      have HS : Hid ((s : Int) = min (M : Int) 127) := by show _ = _; omega
      have hs1 : 1 ≤ s := by omega
      have hs2 : s ≤ 127 := by omega
      have hs3 : s ≤ M := by omega
      have hrd := HP.out.rd
      rw [← hM] at hrd ⊢
      have HR : Hid (Rd wr bo M C (b.drop k)) := hrd
      have hsM : 0 + s ≤ M := by omega
      have hsM2 : s + (M - s) ≤ M := by omega
      have HSRC : Hid (∀ ad, bo = some ad → ad.block < B) := fun ad e => HP.out.src ad e (by omega)
      clear hs hM hrd
      go_wp2_with (first
        | (refine wpList_min rfl 3 _ _ rfl M 127 rfl rfl s HS.out ?_)
        | (refine wpList_sub rfl _ _ _ rfl R9.out s (M - s) hsM2 rfl (.inl rfl) (.inr ⟨rfl, by omega⟩) ?_; intro ao3 c3 hr3 hs3')
        | (refine wpList_sub rfl _ _ _ rfl HR.out 0 s hsM rfl (.inr ⟨rfl, rfl⟩) (.inl (by rw [Nat.zero_add]; rfl)) ?_; intro ao2 c2 hr2 hs2')
        | (at_builtin; refine wpList_append_lies _ rfl _ _ 59 rfl B 42 i0 (.agg #[.bool false, .int .i64 0, .int .i64 0, .slice none 0 0]) 4 48 Try.underlying59 hi hz0 hz1 hz2 rfl (by decide) u0 n' _ rfl (HP.out.own.own.own.alloc _) ⟨wr.heap.size, 0, none⟩ 1 1 (oc ⟨false, 0, 0, ao2, s, c2⟩) rfl rfl (cell_four_new _ _ _ _ _ _) (oc_oneCell _) (by omega) (by unfold maxLen; omega) (by omega) (by have := HP.out.own.low; have := HP.out.own.fr.size; simp; omega) (wr.heap.size + 1) (by simp) ?_; intro g5 c5 w5 o5 gr5 l5 s5; have R9 : Hid (Rd w5 bo M C (b.drop k)) := (HR.out.keep (new_below wr (.cells #[.bool false, .int .i64 0, .int .i64 0, .slice ao2 s c2] 42))).grownBy gr5 (fun ad e _ e2 => by have := HSRC.out ad e; have := (HP.out.own.lt _ e2).1; omega)))
      have hkeq : N - k - s = N - (k + s) := by omega
      have e1 : (List.take s (List.drop 0 (List.drop k b))) = (b.drop k).take s := rfl
      rw [e1] at hr2
      have hr2' := hr2.keep (new_below wr (.cells #[.bool false, .int .i64 0, .int .i64 0, .slice ao2 s c2] 42))
      have O5 := (HP.out.own.keep (new_below wr (.cells #[.bool false, .int .i64 0, .int .i64 0, .slice ao2 s c2] 42))).push (x := ⟨false, 0, 0, ao2, s, c2⟩) (o := ⟨false, 0, 0, (b.drop k).take s⟩) ⟨rfl, rfl, rfl, hr2'⟩ (fun ad e _ => by obtain ⟨a0, h0, h1⟩ := hs2' ad e; rw [h1]; exact HSRC.out a0 h0) o5 gr5 l5 (by simp)
      rw [List.append_assoc] at O5
      have hlt : ((b.drop k).take s).length = s := by have := HM.out; simp; omega
      have hG : ∀ bs, Gd bs (l' ++ [⟨false, 0, 0, (b.drop k).take s⟩]) (b.take (k + s)) := fun bs => by
        have g2 := Gd.put bs ((b.drop k).take s) (by omega) (by omega) (fun x hx => HBY.out x (List.mem_of_mem_drop (List.mem_of_mem_take hx)))
        have := (HP.out.good bs).app g2
        rwa [← List.take_add] at this
      have R3 : Rd w5 ao3 (N - (k + s)) c3 (b.drop (k + s)) := by
        have := HM.out
        have e : M - s = N - (k + s) := by omega
        rw [e] at hr3
        have h3 := hr3
        rw [List.drop_drop] at h3
        exact h3.rest hbl
      have HN : Hid (Pp w B v l b N w5 (.slice (some ⟨g5, 0, none⟩) (n' + 1) c5) ao3 (k + s) c3 (.slice (some ⟨g5, 0, none⟩) (n' + 1) c5) (n' + 1) (ms' ++ [⟨false, 0, 0, ao2, s, c2⟩]) (l' ++ [⟨false, 0, 0, (b.drop k).take s⟩])) :=
        ⟨rfl, R3, fun ad e _ => by obtain ⟨a0, h0, h1⟩ := hs3' ad e; rw [h1]; exact HSRC.out a0 h0, O5, hG, by have := HM.out; omega⟩
      have HE : Hid (M - s = N - (k + s)) := by have := HM.out; show _ = _; omega
      have HG : Hid (N - (k + s) < N - k) := by show _ < _; omega
      clear R3 hG O5 hr2 hr2' o5 gr5 l5 s5 hr3 R9 HP HR
      rw [HE.out]
      go_roundg (N - (k + s))
      case measure => exact HG.out
      case rel => exact ⟨ao3, k + s, c3, _, _, _, _, rfl, rfl, HN⟩
    · obtain rfl : k = N := by omega
      have e0 : k - k = 0 := by omega
      rw [e0]
      have HO : Hid (Ow w B v wr u0 n' ms' (l ++ l')) := HP.out.own
      have HG : Hid (∀ bs, Gd bs l' b) := fun bs => by have := HP.out.good bs; rwa [List.take_of_length_le (by omega)] at this
      clear HP
      go_wp2
      go_ret
      exact ⟨_, n', ms', l', rfl, HO.out, HG.out⟩

end Go.Proofs.Ythaibdflehnbbaa
