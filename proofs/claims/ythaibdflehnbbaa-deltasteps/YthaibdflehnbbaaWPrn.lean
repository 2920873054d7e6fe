/- print, Print. -/
import Derived.Test.YthaibdflehnbbaaWPrints
namespace Go.Proofs.Ythaibdflehnbbaa
open Go.RowKit

theorem prn_take (l : List Op) (k : Nat) (hk : k < l.length) : prn (l.take (k + 1)) = prn (l.take k) ++ pr1 (l.getD k oz) := by
  rw [take_snoc l oz k hk, prn_app, prn_one]

theorem Bw.drew {w0 : World} {B g0 : Nat} {w : World} {g n cap : Nat} {xs : List Int} (h : Bw w0 B g0 w g n cap xs) : Bw w0 B g0 w.drew g n cap xs := h.keep ((Below.refl _ _).drew)

theorem Bw.cell {w0 : World} {B g0 : Nat} {w : World} {g n cap : Nat} {xs : List Int} (h : Bw w0 B g0 w g n cap xs) {a : Addr} (ha : a.block < w0.heap.size) (hne : a.block ≠ g0) : w.cell? a = w0.cell? a :=
  World.cell?_of_block (h.fr.block a.block ha hne)

set_option maxRecDepth 100000 in
set_option maxHeartbeats 2000000 in
theorem print_any (ao : Option Addr) (n c : Nat) (ms : List MO) (l : List Op) (w0 : World) (h : Os w0 ao n ms l) (hn : n ≤ 1000000) (hok : ∀ o ∈ l, okp o) (g N cap : Nat) (xs : List Int) (w : World) (hB : Below w0.heap.size w0 w)
    (hown : w.ownsRow w0.heap.size 5 1 (.slice (some ⟨g, 0, none⟩) N cap) N (xs.map (Value.int .u8))) (hN : N ≤ 100) :
    Calls Try.prog 28 #[.slice ao n c, .slice (some ⟨g, 0, none⟩) N cap] w fun e w' => ∃ g' cap' N', e = .returned (.slice (some ⟨g', 0, none⟩) N' cap') ∧
      w'.ownsRow w0.heap.size 5 1 (.slice (some ⟨g', 0, none⟩) N' cap') N' ((xs ++ prn l).map (Value.int .u8)) ∧ Below w0.heap.size w0 w' := by
  have hlen := h.len
  have HT : Hid (Os w0 ao n ms l) := h
  have HK : Hid (∀ o ∈ l, okp o) := hok
  have O1 : Hid (w.ownsRow w0.heap.size 5 1 (.slice (some ⟨g, 0, none⟩) N cap) N ((xs ++ prn (l.take 0)).map (Value.int .u8))) := by
    show World.ownsRow _ _ _ _ _ _ _
    simpa [prn] using hown
  have HB : Hid (Below w0.heap.size w0 w) := hB
  clear h hok hown hB
  go_enter Try.func28, Try.ntmps28
  go_wp2
  go_loopw [1, 9] (fun d i wr => ∃ k g' N' cap' : Nat, k ≤ n ∧ i = .int .i64 k ∧ d = .slice (some ⟨g', 0, none⟩) N' cap' ∧ N' ≤ 100 + 128 * k ∧ Hid (wr.ownsRow w0.heap.size 5 1 (.slice (some ⟨g', 0, none⟩) N' cap') N' ((xs ++ prn (l.take k)).map (Value.int .u8))) ∧ Hid (Below w0.heap.size w0 wr)) (fun _ i _ => n - (intOf i).toNat)
  case atStart => exact ⟨0, g, N, cap, by omega, rfl, rfl, by omega, O1, HB⟩
  case round =>
    obtain ⟨k, g1, N1, cap1, hk, rfl, rfl, hN1, hown, hb⟩ := hrel
    clear O1 HB
    by_cases hlt : k < n
    · have ho := HT.out.keep (hb.out.mono (Nat.le_refl _))
      have hmem := HK.out _ (HT.out.at k hlt)
      obtain ⟨b, off, rfl, h0, h1, h2, h3⟩ := ho.cells k hlt
      have his := HT.out.is k hlt
      have HE : Hid (prn (l.take (k + 1)) = prn (l.take k) ++ pr1 (l.getD k oz)) := prn_take l k (by omega)
      have hp1 := pr1_len _ hmem
      clear ho
      generalize ms.getD k mz = x at *
      generalize l.getD k oz = o at *
      obtain ⟨e1, e2, e3, hrd⟩ := his
      obtain ⟨xc, xf, xn, xa, xm, xk⟩ := x
      obtain ⟨oc, of, on, od⟩ := o
      simp only at e1 e2 e3 h0 h1 h2 h3 hrd
      subst e1 e2 e3
      have B2 : Below w0.heap.size w0 (wr.alloc (.cells #[.bool xc, .int .i64 xf, .int .i64 xn, .slice xa xm xk] 42)) := hb.out.alloc hb.out.size _
      have r2 := fo_new wr (.bool xc) (.int .i64 xf) (.int .i64 xn) (.slice xa xm xk) 42
      have OO : (wr.alloc (.cells #[.bool xc, .int .i64 xf, .int .i64 xn, .slice xa xm xk] 42)).ownsRow w0.heap.size 5 1 (.slice (some ⟨g1, 0, none⟩) N1 cap1) N1 ((xs ++ prn (l.take k)).map (Value.int .u8)) := hown.out.alloc _
      have hgb := own_base hown.out
      have HL1 : Hid ((xs ++ prn (l.take k)).length = N1) := by have := hown.out.1; show _ = _; simpa using this
      have hgl := (hown.out.lt g1 rfl).2
      have hszl : w0.heap.size ≤ wr.heap.size := hb.out.size
      cases xc with
      | true =>
        have hic : isC ⟨true, xf, xn, od⟩ := by
          rcases hmem with h | h
          · exact h
          · exact absurd h.1 (by simp)
        have hn0 : 0 ≤ xn := by have := hic.2.2.2.1; simp only at this; omega
        have HP : Hid (pr1 ⟨true, xf, xn, od⟩ = (128 + spm xf 4 0 + 16 * spm (xn % 65536) 3 0) :: (spb xf 4 0 ++ spb (xn % 65536) 3 0)) := rfl
        have hpc := printCopy_any w0.heap.size g1 N1 cap1 (xs ++ prn (l.take k)) true xf xn xa xm xk _ OO B2.size (by omega) hn0
        have HPC := hpc
        clear hpc hmem hic hown hb OO
        go_wp2_with (first
          | (go_at_call 38; refine HPC.mono ?_; rintro e w3 ⟨g3, c3, n3, rfl, o3⟩))
        have B3 : Hid (Below w0.heap.size w0 w3) := B2.trans (o3.below hgb)
        have O3 : Hid (w3.ownsRow w0.heap.size 5 1 (.slice (some ⟨g3, 0, none⟩) n3 c3) n3 ((xs ++ prn (l.take (k + 1))).map (Value.int .u8))) := by
          rw [HE.out, HP.out, ← List.append_assoc]
          exact o3.own
        have L3 : Hid (n3 ≤ 100 + 128 * (k + 1)) := by
          have e1 := o3.own.1
          rw [← HP.out, List.length_map, Nat.mul_one, List.length_append, HL1.out] at e1
          show _ ≤ _
          omega
        clear o3 B2 r2
        go_roundw
        case rel => exact ⟨k + 1, g3, n3, c3, by omega, by go_num, rfl, L3.out, O3, B3⟩
        case measure => simp [intOf]; omega
      | false =>
        have hid : isD ⟨false, xf, xn, od⟩ := by
          rcases hmem with h | h
          · exact absurd h.1 (by simp)
          · exact h
        have hxm : xm ≤ 127 := by have := hid.2.2.2.2; have := hrd.len; simp only at *; omega
        have hod : od.length = xm := hrd.len
        have HP : Hid (pr1 ⟨false, xf, xn, od⟩ = (xm : Int) :: od) := by show (od.length : Int) :: od = _; rw [hod]
        have z1 : IntKind.u8.wrap (xm : Int) = xm := wraps_u8 _ (by omega) (by omega)
        have z2 : (xm : Int) % 256 = xm := by omega
        have k3 := r2.cell (i := 3) (by omega)
        simp only [fo] at k3
        have bw := Bw.refl OO B2.size
        have SZ : Hid ((wr.alloc (.cells #[.bool false, .int .i64 xf, .int .i64 xn, .slice xa xm xk] 42)).heap.size = wr.heap.size + 1) := by show _ = _; simp
        obtain ⟨p, hp⟩ : ∃ p, p = wr.heap.size := ⟨_, rfl⟩
        have HH : Hid (p = wr.heap.size) := hp
        clear hmem hid hown hb OO r2
        go_wp2_with fail
        rw [← hp] at k3 ⊢
        clear h0 h1 h2 h3 hp
        generalize wr.alloc (.cells #[.bool false, .int .i64 xf, .int .i64 xn, .slice xa xm xk] 42) = W at *
        have z3 : (0 : Int) ≤ xm := by omega
        have hpW : p < W.heap.size := by have := SZ.out; have := HH.out; omega
        have hpg : p ≠ g1 := by have := HH.out; omega
        have HPW : Hid (p < W.heap.size) := hpW
        have HPG : Hid (p ≠ g1) := hpg
        clear hpW hpg
        have z4 : (xm : Int) < 256 := by omega
        go_region_held3 (fun w' => w'.cell? ⟨p, 3, none⟩ = some (.slice xa xm xk)) (go_keep)
          ((first
            | (refine step_append_bw (by rfl) (.tmp 24) (.tmp 26) (by rfl) (by rfl) o4 xa xm xk od (by rfl) rd4 (by omega) (N1 + 1 + xm) rfl ?_; intro g5 c5 w5 o5 gr5 l5; have k5 : w5.cell? ⟨p, 3, none⟩ = some (.slice xa xm xk) := (o5.cell (a := ⟨p, 3, none⟩) HPW.out HPG.out).trans k3)
            | (refine step_append_bw (by rfl) (.tmp 18) (.tmp 23) (by rfl) (by rfl) (bw.drew.alloc _) (some ⟨W.heap.size, 0, none⟩) 1 1 [(xm : Int)] (by rfl) (one_rd W.drew xm ⟨z3, z4⟩) (by omega) (N1 + 1) rfl ?_; intro g4 c4 w4 o4 gr4 l4; have rd4 := hrd.keep (B2.trans (o4.below hgb)); have k4 : w4.cell? ⟨p, 3, none⟩ = some (.slice xa xm xk) := (o4.cell (a := ⟨p, 3, none⟩) HPW.out HPG.out).trans k3)))
        have B5 : Hid (Below w0.heap.size w0 w5) := B2.trans (o5.below hgb)
        have O5 : Hid (w5.ownsRow w0.heap.size 5 1 (.slice (some ⟨g5, 0, none⟩) (N1 + 1 + xm) c5) (N1 + 1 + xm) ((xs ++ prn (l.take (k + 1))).map (Value.int .u8))) := by
          have e : xs ++ prn (l.take (k + 1)) = xs ++ prn (l.take k) ++ [(xm : Int)] ++ od := by rw [HE.out, HP.out]; simp
          rw [e]
          exact o5.own
        clear o5 gr5 l5 o4 gr4 l4 rd4 k4 k5 bw k3 B2
        go_wp2
        go_roundw
        case rel => exact ⟨k + 1, g5, N1 + 1 + xm, c5, by omega, by go_num, rfl, by omega, O5, B5⟩
        case measure => simp [intOf]; omega
    · obtain rfl : k = n := by omega
      have e : l.take k = l := by rw [← hlen, List.take_length]
      rw [e] at hown
      go_wp2
      go_ret
      exact ⟨g1, cap1, N1, rfl, hown.out, hb.out⟩

end Go.Proofs.Ythaibdflehnbbaa
