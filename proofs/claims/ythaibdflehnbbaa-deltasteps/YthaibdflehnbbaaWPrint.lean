/- printSparse, printCopy. -/
import Derived.Test.YthaibdflehnbbaaDp
import Derived.Test.YthaibdflehnbbaaWRCopy
import Derived.Test.YthaibdflehnbbaaBRow
namespace Go.Proofs.Ythaibdflehnbbaa
open Go.RowKit

theorem or_u8 (k : Nat) (s : Int) (hk : k ≤ 7) (h0 : 0 ≤ s) (h1 : s < 2 ^ k) : bits .or .u8 s (2 ^ k) = s + 2 ^ k := by
  have := or_put .u8 8 (by decide) wraps_u8 k 1 s 1 h0 h1 (by omega) (by decide) (by omega)
  rw [Int.one_mul, Int.mul_one] at this
  exact this

set_option maxRecDepth 100000 in
set_option maxHeartbeats 1000000 in
theorem printSparse_any (B g n cap : Nat) (xs : List Int) (v : Int) (M : Nat) (w : World) (hown : w.ownsRow B 5 1 (.slice (some ⟨g, 0, none⟩) n cap) n (xs.map (Value.int .u8))) (hB : B ≤ w.heap.size) (hn : n ≤ 1000000000) (hM : M ≤ 4) :
    Calls Try.prog 53 #[.slice (some ⟨g, 0, none⟩) n cap, .int .i64 v, .int .i64 M] w fun e w' => ∃ g' cap' n', e = .returned (.tuple #[.slice (some ⟨g', 0, none⟩) n' cap', .int .u8 (spm v M 0)]) ∧ n' = n + (spb v M 0).length ∧
      Bw w B g w' g' n' cap' (xs ++ spb v M 0) := by
  have O1 : Hid (Bw w B g w g n cap (xs ++ [])) := by rw [List.append_nil]; exact Bw.refl hown hB
  clear hown
  go_enter Try.func53, Try.ntmps53
  go_wp2
  go_loopw [0, 7, 11] (fun d s i wr => ∃ (k q g' cap' : Nat) (sv : Int) (ys : List Int), k ≤ M ∧ i = .int .i64 k ∧ s = .int .u8 sv ∧ d = .slice (some ⟨g', 0, none⟩) (n + q) cap' ∧ q ≤ k ∧ 0 ≤ sv ∧ Hid (sv < 2 ^ k) ∧ Hid (spm v M 0 = sv + spm v (M - k) k) ∧ Hid (spb v M 0 = ys ++ spb v (M - k) k ∧ ys.length = q) ∧
      Hid (Bw w B g wr g' (n + q) cap' (xs ++ ys))) (fun _ _ i _ => M - (intOf i).toNat)
  case atStart => exact ⟨0, 0, g, cap, 0, [], by omega, rfl, rfl, rfl, by omega, by omega, (by show (0 : Int) < 2 ^ 0; simp), (by show _ = _; simp), ⟨by simp, rfl⟩, O1⟩
  case round =>
    obtain ⟨k, q, g', cap', sv, ys, hk, rfl, rfl, rfl, hq, hs0, hs1, hsm, hsb, hown⟩ := hrel
    clear O1
    by_cases hlt : k < M
    · have hk3 : k ≤ 3 := by omega
      have HO : Hid (M - k = (M - (k + 1)) + 1) := by show _ = _; omega
      have hbyte : 0 ≤ v / 256 ^ k % 256 ∧ v / 256 ^ k % 256 < 256 := by omega
      have e256 : v / 2 ^ (8 * k) = v / 256 ^ k := by rw [pow256]
      by_cases hz : v / 256 ^ k % 256 = 0
      · have z1 : v / 2 ^ (8 * k) % 256 = 0 := by rw [e256]; exact hz
        have SM : Hid (spm v M 0 = sv + spm v (M - (k + 1)) (k + 1)) := by
          show _ = _
          rw [hsm.out, HO.out, spm, if_pos hz]
          omega
        have SB : Hid (spb v M 0 = ys ++ spb v (M - (k + 1)) (k + 1) ∧ ys.length = q) := by
          refine ⟨?_, hsb.out.2⟩
          rw [hsb.out.1, HO.out, spb, if_pos hz, List.nil_append]
        have S1 : Hid (sv < 2 ^ (k + 1)) := by
          have := hs1.out
          have e : (2 : Int) ^ (k + 1) = 2 ^ k * 2 := Int.pow_succ _ _
          have := p2 k
          show _ < _
          omega
        clear hsm hsb hs1 hbyte hz e256
        go_wp2
        go_roundw
        case rel => exact ⟨k + 1, q, g', cap', sv, ys, by omega, by go_num, rfl, rfl, by omega, hs0, S1, SM, SB, hown⟩
        case measure => simp [intOf]; omega
      · have z1 : (v / 2 ^ (8 * k) % 256 == 0) = false := by rw [e256]; simp [hz]
        have z2 : ¬ v / 2 ^ (8 * k) % 256 = 0 := by rw [e256]; exact hz
        have SM : Hid (spm v M 0 = (sv + 2 ^ k) + spm v (M - (k + 1)) (k + 1)) := by
          show _ = _
          rw [hsm.out, HO.out, spm, if_neg hz]
          omega
        have SB : Hid (spb v M 0 = (ys ++ [v / 2 ^ (8 * k) % 256]) ++ spb v (M - (k + 1)) (k + 1) ∧ (ys ++ [v / 2 ^ (8 * k) % 256]).length = q + 1) := by
          refine ⟨?_, by simp [hsb.out.2]⟩
          rw [hsb.out.1, HO.out, spb, if_neg hz, e256]
          simp
        have hor := or_u8 k sv (by omega) hs0 hs1.out
        have S1 : Hid (sv + 2 ^ k < 2 ^ (k + 1)) := by
          have := hs1.out
          have e : (2 : Int) ^ (k + 1) = 2 ^ k * 2 := Int.pow_succ _ _
          show _ < _
          omega
        have S0 : 0 ≤ sv + 2 ^ k := by have := p2 k; omega
        have hw8 : IntKind.u8.wrap (2 ^ k) = 2 ^ k := by
          have := p2_le k 3 hk3
          have := p2 k
          exact wraps_u8 _ (by omega) (by omega)
        rw [← e256] at hbyte
        obtain ⟨c, hc⟩ : ∃ c, v / 2 ^ (8 * k) % 256 = c := ⟨_, rfl⟩
        rw [hc] at hbyte z1 z2 SB
        clear hz e256 hsm hsb hs1

        go_wp2_with (first
          | (at_builtin; refine wpList_append_bw rfl _ _ rfl rfl (hown.out.alloc _) _ 1 1 [c] rfl (one_rd wr c hbyte) (by omega) ?_; intro g5 c5 w5 o5 _ _))
        have O5 : Hid (Bw w B g w5 g5 (n + (q + 1)) c5 (xs ++ (ys ++ [c]))) := by
          rw [← List.append_assoc]
          exact o5
        clear o5 hown hc
        go_wp2
        go_roundw
        case rel => exact ⟨k + 1, q + 1, g5, c5, sv + 2 ^ k, ys ++ [c], by omega, by go_num, by rw [← hor], rfl, by omega, S0, S1, SM, SB, O5⟩
        case measure => simp [intOf]; omega
    · obtain rfl : k = M := by omega
      have SM : Hid (spm v k 0 = sv) := by show _ = _; rw [hsm.out, Nat.sub_self, spm]; omega
      have SB : Hid (spb v k 0 = ys) := by show _ = _; rw [hsb.out.1, Nat.sub_self, spb, List.append_nil]
      have SL : Hid (ys.length = q) := hsb.out.2
      clear hsm hsb
      go_wp2
      go_ret2
      rw [SM.out, SB.out, SL.out]
      exact ⟨g', cap', n + q, rfl, rfl, hown.out⟩

theorem spb_len (v : Int) : ∀ (m k : Nat), (spb v m k).length ≤ m := by
  intro m
  induction m with
  | zero => intro k; simp [spb]
  | succ m ih =>
    intro k
    have := ih (k + 1)
    unfold spb
    split <;> simp <;> omega

theorem head_or (a b : Int) (ha0 : 0 ≤ a) (ha1 : a ≤ 15) (hb0 : 0 ≤ b) (hb1 : b ≤ 7) : bits .or .u8 128 (bits .or .u8 a (b * 16)) = 128 + a + 16 * b := by
  have e : b * 16 = b * 2 ^ 4 := rfl
  rw [e, or_put .u8 8 (by decide) wraps_u8 4 3 a b ha0 (by omega) hb0 (by omega) (by decide)]
  have h1 : (0 : Int) ≤ a + 2 ^ 4 * b ∧ a + 2 ^ 4 * b < 2 ^ 7 := by have : (2 : Int) ^ 4 = 16 := rfl; have : (2 : Int) ^ 7 = 128 := rfl; omega
  rw [or_comm']
  have := or_put .u8 8 (by decide) wraps_u8 7 1 (a + 2 ^ 4 * b) 1 h1.1 h1.2 (by omega) (by decide) (by decide)
  rw [show (1 : Int) * 2 ^ 7 = 128 from rfl] at this
  rw [this]
  have e4 : (2 : Int) ^ 4 = 16 := rfl
  have e7 : (2 : Int) ^ 7 = 128 := rfl
  omega

set_option maxRecDepth 100000 in
set_option maxHeartbeats 1000000 in
theorem printCopy_any (B g n cap : Nat) (xs : List Int) (cp : Bool) (f m : Int) (sa : Option Addr) (sm sc : Nat) (w : World) (hown : w.ownsRow B 5 1 (.slice (some ⟨g, 0, none⟩) n cap) n (xs.map (Value.int .u8))) (hB : B ≤ w.heap.size) (hn : n ≤ 900000000) (hm0 : 0 ≤ m) :
    Calls Try.prog 38 #[.agg #[.bool cp, .int .i64 f, .int .i64 m, .slice sa sm sc], .slice (some ⟨g, 0, none⟩) n cap] w fun e w' => ∃ g' cap' n', e = .returned (.slice (some ⟨g', 0, none⟩) n' cap') ∧
      Bw w B g w' g' n' cap' (xs ++ ((128 + spm f 4 0 + 16 * spm (m % 65536) 3 0) :: (spb f 4 0 ++ spb (m % 65536) 3 0))) := by
  have hxl : xs.length = n := by simpa using hown.1
  have hsm := spm_bound f
  have hsn := spm_bound (m % 65536)
  have HO : Hid (Bw w B g (w.alloc (.cells #[.bool cp, .int .i64 f, .int .i64 m, .slice sa sm sc] 42)) g n cap xs) := (Bw.refl hown hB).alloc _
  have hx0 := fo_new w (.bool cp) (.int .i64 f) (.int .i64 m) (.slice sa sm sc) 42
  have hgl := (hown.lt g rfl).2
  have R1 : Rd ((w.alloc (.cells #[.bool cp, .int .i64 f, .int .i64 m, .slice sa sm sc] 42)).alloc (.cells #[.int .u8 128] 5)) (some ⟨w.heap.size + 1, 0, none⟩) 1 1 [128] := by
    have := one_rd (w.alloc (.cells #[.bool cp, .int .i64 f, .int .i64 m, .slice sa sm sc] 42)) 128 (by omega)
    rwa [show (w.alloc (.cells #[.bool cp, .int .i64 f, .int .i64 m, .slice sa sm sc] 42)).heap.size = w.heap.size + 1 by simp] at this
  clear hown
  go_enter Try.func38, Try.ntmps38
  go_wp2_with (first
    | (at_builtin; refine wpList_append_bw rfl _ _ rfl rfl (HO.out.alloc _) _ 1 1 [128] rfl R1 (by omega) ?_; intro g1 c1 w1 o1 gr1 l1; have l1' : g1 = g ∨ w.heap.size + 1 ≤ g1 := by { rcases l1 with h | h; exact .inl h; right; simp at h; omega }; have hx1 := rowIs_fr (hx0.alloc (.cells #[.int .u8 128] 5)) (Fr.ofGrown gr1) (by omega); have q1 := hx1.cell (i := 1) (by omega); simp only [fo] at q1))
  refine (printSparse_any B g1 (n + 1) c1 _ f 4 w1 o1.own (Nat.le_trans o1.low o1.fr.size) (by omega) (by decide)).mono ?_
  rintro e w2 ⟨g2, c2, n2, rfl, hn2, o2⟩
  have hx2 := rowIs_fr hx1 o2.fr (by omega)
  have q2 := hx2.cell (i := 2) (by omega)
  simp only [fo] at q2
  have hl2 : n2 ≤ 1000000000 := by have := spb_len f 4 0; omega
  have HN2 : Hid (n2 = n + 1 + (spb f 4 0).length) := hn2
  clear hn2
  go_wp2_with fail
  refine (printSparse_any B g2 n2 c2 _ (m % 65536) 3 w2 o2.own (Nat.le_trans o2.low o2.fr.size) hl2 (by decide)).mono ?_
  rintro e w3 ⟨g3, c3, n3, rfl, hn3, o3⟩
  have hl3 : n3 ≤ 1000000020 := by have := spb_len (m % 65536) 3 0; omega
  have hlen3 : n < n3 := by have := HN2.out; omega
  have HN3 : Hid (n3 = n2 + (spb (m % 65536) 3 0).length) := hn3
  clear hn3
  have oo := (HO.out.alloc (.cells #[.int .u8 128] 5)).grown o1.own gr1 l1
  have o23 := (oo.trans o2).trans o3
  have c0 := o3.own.cellAt n (by omega)
  have c1 := o3.own.frozenAt n
  have hget : ((xs ++ [128] ++ spb f 4 0 ++ spb (m % 65536) 3 0).map (Value.int .u8))[n]? = some (.int .u8 128) := by
    simp [List.append_assoc, ← hxl]
  rw [hget] at c0
  have st := o3.own.stored n (.int .u8 (128 + spm f 4 0 + 16 * spm (m % 65536) 3 0))
  have hset : ((xs ++ [128] ++ spb f 4 0 ++ spb (m % 65536) 3 0).map (Value.int .u8)).set n (.int .u8 (128 + spm f 4 0 + 16 * spm (m % 65536) 3 0)) = (xs ++ ((128 + spm f 4 0 + 16 * spm (m % 65536) 3 0) :: (spb f 4 0 ++ spb (m % 65536) 3 0))).map (Value.int .u8) := by
    rw [← List.map_set, List.append_assoc, List.append_assoc, List.set_append_right _ _ (by omega), hxl]
    simp
  rw [hset] at st
  have hh := head_or (spm f 4 0) (spm (m % 65536) 3 0) hsm.1 hsm.2.1 hsn.2.2.1 hsn.2.2.2
  have FIN : Hid (Bw w B g (w3.setCell ⟨g3, n, none⟩ (.int .u8 (128 + spm f 4 0 + 16 * spm (m % 65536) 3 0))) g3 n3 c3 (xs ++ ((128 + spm f 4 0 + 16 * spm (m % 65536) 3 0) :: (spb f 4 0 ++ spb (m % 65536) 3 0)))) := o23.grown st.1 st.2 (.inl rfl)
  have n1 := hsm.1
  have n2' := hsm.2.1
  have n3' := hsn.2.2.1
  have n4' := hsn.2.2.2
  clear st hset o23 oo o3 o2 o1 hx0 hx1 hx2 HO R1 gr1 hsm hsn hget
  go_wp2
  go_ret
  exact ⟨g3, _, n3, rfl, FIN.out⟩

end Go.Proofs.Ythaibdflehnbbaa
