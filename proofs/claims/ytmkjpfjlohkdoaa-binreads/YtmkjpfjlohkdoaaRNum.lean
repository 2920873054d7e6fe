/- The document's own reader: Number. -/
import Derived.Test.YtmkjpfjlohkdoaaRTake
namespace Go.Proofs.Ytmkjpfjlohkdoaa
open Go.RowKit

/-- What Number answers, how many were taken then, and the fault then. -/
def nr (xs : List Int) (p : Nat) (er s : Int) : Int × Nat × Int :=
  if 9223372036854775807 < num 0 (tk xs p er s).1 then (0, p, 5) else (num 0 (tk xs p er s).1, (tk xs p er s).2.1, (tk xs p er s).2.2)

set_option maxRecDepth 100000 in
set_option maxHeartbeats 1000000 in
theorem rnumber_any (R : Nat) (ao : Option Addr) (n c : Nat) (xs : List Int) (p : Nat) (er : Int) (s : Nat) (w : World) (h : IsR w R ao n c xs p er) (hs : s ≤ 8) :
    Calls Try.prog 10 #[.pointer (some ⟨R, 0, none⟩), .int .i64 s] w fun e w' => e = .returned (.int .i64 (nr xs p er s).1) ∧
      IsR w' R ao n c xs (nr xs p er s).2.1 (nr xs p er s).2.2 ∧ w.grownBy w' (some R) := by
  have hn := num_tk xs h.rd.byt p er s
  have hl := tk_len xs p er s
  have hby := tk_byt xs h.rd.byt p er s
  have h256 := pow256_le s 8 hs
  obtain ⟨ys, hys⟩ : ∃ ys, ys = (tk xs p er s).1 := ⟨_, rfl⟩
  obtain ⟨y, hy⟩ : ∃ y, y = num 0 ys := ⟨_, rfl⟩
  have hu : nr xs p er s = if 9223372036854775807 < y then (0, p, 5) else (y, (tk xs p er s).2.1, (tk xs p er s).2.2) := by rw [hy, hys]; rfl
  rw [← hys, ← hy] at hn
  rw [← hys] at hl hby
  have hy0 : 0 ≤ y := hn.1
  have hy1 : y ≤ 18446744073709551615 := by have := hn.2; have : (256 : Int) ^ 8 = 18446744073709551616 := rfl; omega
  have HY : Hid (y = num 0 ys) := hy
  have HU : Hid (nr xs p er s = if 9223372036854775807 < y then (0, p, 5) else (y, (tk xs p er s).2.1, (tk xs p er s).2.2)) := hu
  have HYS : Hid (ys = (tk xs p er s).1) := hys
  have hp := h.pos
  have hple := h.le
  clear hn hy hu hys h256
  go_enter Try.func10, Try.ntmps10
  go_wp2_with fail
  refine (rbytes_any R ao n c xs p er s w h).mono ?_
  rintro e w1 ⟨xo, k, c', rfl, hr, hR, hg⟩
  rw [← HYS.out] at hr
  have hk := hr.len
  clear hp
  go_wp2_with fail
  go_loop [7, 8] (fun u i => ∃ (acc : Int) (t : Nat), t ≤ k ∧ i = .int .i64 t ∧ u = .int .u64 acc ∧ 0 ≤ acc ∧ acc < 256 ^ t ∧ num acc (ys.drop t) = num 0 ys)
    (fun _ i => k - (intOf i).toNat)
  case atStart => exact ⟨0, 0, by omega, rfl, rfl, by omega, by simp, by simp⟩
  case round =>
    obtain ⟨acc, t, ht, rfl, rfl, ha0, ha1, hrd⟩ := hrel
    have HR : Hid (num acc (ys.drop t) = num 0 ys) := hrd
    have HA : Hid (acc < 256 ^ t) := ha1
    clear hrd ha1
    by_cases hlt : t < k
    · obtain ⟨b, off, rfl, hcell⟩ := hr.plain (by omega)
      have hck := hcell t (by omega)
      obtain ⟨cb, hcb⟩ : ∃ cb, cb = ys.getD t 0 := ⟨_, rfl⟩
      rw [← hcb] at hck
      have hb : 0 ≤ cb ∧ cb < 256 := by
        rw [hcb]
        simp only [List.getD, List.getElem?_eq_getElem (show t < ys.length by omega), Option.getD_some]
        exact hby _ (List.getElem_mem _)
      have HC : Hid (cb = ys.getD t 0) := hcb
      have hb0 := hb.1
      have hb1 := hb.2
      have hac : acc ≤ 72057594037927935 := by
        have h1 := pow256_le t 7 (by omega)
        have h8 : (256 : Int) ^ 7 = 72057594037927936 := rfl
        have := HA.out
        omega
      clear hcb hcell hb hby hR hg
      go_wp2
      go_round
      case rel =>
        refine ⟨256 * acc + cb, t + 1, by omega, by go_num, by rw [Int.mul_comm, u64_or8 acc cb ha0 hac hb0 hb1], by omega, ?_, ?_⟩
        · have := HA.out
          rw [Int.pow_succ]
          omega
        · rw [← HR.out, drop_cons t ys (by omega), ← HC.out]
          rfl
      case measure => simp [intOf]; omega
    · have he : acc = y := by
        have := HR.out
        rw [List.drop_of_length_le (by omega)] at this
        rw [HY.out, ← this]
        rfl
      subst he
      have h1 := hR.pos
      have h2 := hR.err
      have h3 := hR.f1
      have h4 := hR.f2
      by_cases hc : 9223372036854775807 < acc
      · have s1 := hR.setPos p hple
        have s2 := s1.1.setErr 5
        clear hr hby
        go_wp2
        go_ret
        rw [HU.out, if_pos hc]
        exact ⟨rfl, s2.1, grownBy_trans hg (grownBy_trans s1.2 s2.2)⟩
      · clear hr hby
        go_wp2
        go_ret
        rw [HU.out, if_neg (by omega)]
        exact ⟨rfl, hR, hg⟩

theorem nr_small (xs : List Int) (hb : ∀ x ∈ xs, 0 ≤ x ∧ x < 256) (p : Nat) (er : Int) (s : Nat) (hs : s ≤ 4) : nr xs p er s = (num 0 (tk xs p er s).1, (tk xs p er s).2.1, (tk xs p er s).2.2) := by
  have h := (num_tk xs hb p er s).2
  have h2 := pow256_le s 4 hs
  have h3 : (256 : Int) ^ 4 = 4294967296 := rfl
  rw [nr, if_neg (by omega)]

theorem nr_8 (xs : List Int) (p : Nat) (er : Int) : nr xs p er 8 = u64r xs p er := rfl

end Go.Proofs.Ytmkjpfjlohkdoaa
