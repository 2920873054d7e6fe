/- The document's Print. -/
import Derived.Test.YthaibdflehnbbaaXPut
import Derived.Test.YthaibdflehnbbaaWPrt
namespace Go.Proofs.Ythaibdflehnbbaa
open Go.RowKit

theorem or_c1' : ∀ s : Fin 16, ∀ k : Fin 4, s.val < 2 ^ k.val → bits .or .u8 (128 + (s.val : Int)) (2 ^ k.val) = 128 + ((s.val : Int) + 2 ^ k.val) := by decide +kernel
theorem or_c2' : ∀ a : Fin 16, ∀ s : Fin 8, ∀ k : Fin 3, s.val < 2 ^ k.val → bits .or .u8 (128 + (a.val : Int) + 16 * (s.val : Int)) (16 * 2 ^ k.val) = 128 + (a.val : Int) + 16 * ((s.val : Int) + 2 ^ k.val) := by decide +kernel

theorem or_c1 (s : Int) (k : Nat) (h0 : 0 ≤ s) (h1 : s < 2 ^ k) (hk : k < 4) : bits .or .u8 (128 + s) (2 ^ k) = 128 + (s + 2 ^ k) := by
  have hle := p2_le k 3 (by omega)
  have e3 : (2 : Int) ^ 3 = 8 := rfl
  obtain ⟨m, rfl⟩ := Int.eq_ofNat_of_zero_le h0
  have hm : m < 16 := by omega
  have hmk : m < 2 ^ k := by have : ((2 ^ k : Nat) : Int) = 2 ^ k := by simp
                             omega
  exact or_c1' ⟨m, hm⟩ ⟨k, hk⟩ hmk

theorem or_c2 (a s : Int) (k : Nat) (a0 : 0 ≤ a) (a1 : a ≤ 15) (h0 : 0 ≤ s) (h1 : s < 2 ^ k) (hk : k < 3) : bits .or .u8 (128 + a + 16 * s) (16 * 2 ^ k) = 128 + a + 16 * (s + 2 ^ k) := by
  have hle := p2_le k 2 (by omega)
  have e3 : (2 : Int) ^ 2 = 4 := rfl
  obtain ⟨m, rfl⟩ := Int.eq_ofNat_of_zero_le h0
  obtain ⟨b, rfl⟩ := Int.eq_ofNat_of_zero_le a0
  have hm : m < 8 := by omega
  have hb : b < 16 := by omega
  have hmk : m < 2 ^ k := by have : ((2 ^ k : Nat) : Int) = 2 ^ k := by simp
                             omega
  exact or_c2' ⟨b, hb⟩ ⟨m, hm⟩ ⟨k, hk⟩ hmk

theorem sz_ne (v : Int) : 1 ≤ (sz 9 v).length := by unfold sz; split <;> simp

theorem own_some {w : World} {B n : Nat} {v : Value} {xs : List Value} (h : w.ownsRow B 5 1 v n xs) (hn : 1 ≤ n) : ∃ g cap, v = .slice (some ⟨g, 0, none⟩) n cap := by
  have hl := h.1
  rcases h.2 with ⟨_, e⟩ | ⟨g, cap, cur, e, _⟩
  · omega
  · exact ⟨g, cap, e⟩

theorem sb_step (f : Int) (M k : Nat) (ys pre : List Int) (hk : k < M) (h : pre ++ spb f M 0 = ys ++ spb f (M - k) k) (hz : f / 256 ^ k % 256 = 0) : pre ++ spb f M 0 = ys ++ spb f (M - (k + 1)) (k + 1) := by
  rw [h, show M - k = (M - (k + 1)) + 1 by omega, spb, if_pos hz, List.nil_append]
theorem sb_step1 (f : Int) (M k : Nat) (ys pre : List Int) (hk : k < M) (h : pre ++ spb f M 0 = ys ++ spb f (M - k) k) (hz : ¬ f / 256 ^ k % 256 = 0) : pre ++ spb f M 0 = (ys ++ [f / 256 ^ k % 256]) ++ spb f (M - (k + 1)) (k + 1) := by
  rw [h, show M - k = (M - (k + 1)) + 1 by omega, spb, if_neg hz]
  simp
theorem sm_step (f : Int) (M k : Nat) (sv : Int) (hk : k < M) (h : spm f M 0 = sv + spm f (M - k) k) (hz : f / 256 ^ k % 256 = 0) : spm f M 0 = sv + spm f (M - (k + 1)) (k + 1) := by
  rw [h, show M - k = (M - (k + 1)) + 1 by omega, spm, if_pos hz]
  omega
theorem sm_step1 (f : Int) (M k : Nat) (sv : Int) (hk : k < M) (h : spm f M 0 = sv + spm f (M - k) k) (hz : ¬ f / 256 ^ k % 256 = 0) : spm f M 0 = (sv + 2 ^ k) + spm f (M - (k + 1)) (k + 1) := by
  rw [h, show M - k = (M - (k + 1)) + 1 by omega, spm, if_neg hz]
  omega
theorem pw_step (sv : Int) (k : Nat) (h : sv < 2 ^ k) : sv < 2 ^ (k + 1) := by
  have e : (2 : Int) ^ (k + 1) = 2 ^ k * 2 := Int.pow_succ _ _
  have := p2 k
  omega
theorem pw_step1 (sv : Int) (k : Nat) (h : sv < 2 ^ k) : sv + 2 ^ k < 2 ^ (k + 1) := by
  have e : (2 : Int) ^ (k + 1) = 2 ^ k * 2 := Int.pow_succ _ _
  omega
theorem byts_snoc {ys : List Int} {c : Int} (h : ∀ y ∈ ys, 0 ≤ y ∧ y < 256) (hc : 0 ≤ c ∧ c < 256) : ∀ y ∈ ys ++ [c], 0 ≤ y ∧ y < 256 := by
  intro y hy
  rcases List.mem_append.1 hy with h1 | h1
  · exact h y h1
  · rw [List.mem_singleton.1 h1]; exact hc

theorem rgt_okp (o : Op) (m : Nat) (h : o.da.length = m) : rgt o.cp o.fr o.n m = decide (okp o) := by
  have := okp_icb o m h
  by_cases hk : okp o
  · rw [decide_eq_true hk]
    rcases this.1 hk with e | e <;> simp [rgt, e]
  · rw [decide_eq_false hk]
    cases h1 : icb o.cp o.fr o.n m
    · cases h2 : idb o.cp o.fr o.n m
      · simp [rgt, h1, h2]
      · exact absurd (this.2 (.inr h2)) hk
    · exact absurd (this.2 (.inl h1)) hk

set_option maxRecDepth 100000 in
set_option maxHeartbeats 4000000 in
theorem rPrint_any (base out : Int) (ao : Option Addr) (n c : Nat) (ms : List MO) (l : List Op) (w0 : World) (h : Os w0 ao n ms l) (hn : n ≤ 1000000) (hb1 : base ≤ 9223372036854775807) (ho1 : out ≤ 9223372036854775807) :
    Calls Try.prog 18 #[.int .i64 base, .int .i64 out, .slice ao n c] w0 fun e w' => ∃ v, e = .returned (.tuple #[v, .int .i64 (pnt base out l).2]) ∧ w'.ownsRow w0.heap.size 5 1 v (pnt base out l).1.length ((pnt base out l).1.map (Value.int .u8)) ∧ Below w0.heap.size w0 w' := by
  have HT : Hid (Os w0 ao n ms l) := h
  have hlen := h.len
  clear h
  by_cases h0 : base < 0
  · have HA : Hid (pnt base out l = ([], 1)) := pnt_no (fun h => by omega)
    go_enter Try.func18, Try.ntmps18
    go_wp2
    go_ret2
    rw [HA.out]
    exact ⟨_, rfl, nil_own _ _, Below.refl _ _⟩
  by_cases h1 : out < 0
  · have HA : Hid (pnt base out l = ([], 1)) := pnt_no (fun h => by omega)
    go_enter Try.func18, Try.ntmps18
    go_wp2
    go_ret2
    rw [HA.out]
    exact ⟨_, rfl, nil_own _ _, Below.refl _ _⟩
  have hs1 := sz_len_le 9 base
  have hs2 := sz_len_le 9 out
  have hs3 := sz_ne out
  have hp1 := rputSize_any w0.heap.size (.slice none 0 0) 0 [] base w0 (nil_own _ _) (Nat.le_refl _) (by omega) (by omega) hb1
  have HP1 := hp1
  clear hp1
  go_enter Try.func18, Try.ntmps18
  go_wp2_with fail
  refine HP1.mono ?_
  rintro e w1 ⟨v1, rfl, o1, b1⟩
  go_wp2_with fail
  refine (rputSize_any w0.heap.size v1 _ _ out w1 o1 b1.size (by omega) (by omega) ho1).mono ?_
  rintro e w2 ⟨v2, rfl, o2, b2⟩
  have b2' := b1.trans b2
  obtain ⟨g2, c2, rfl⟩ := own_some o2 (by omega)
  have hN2 : 0 + (sz 9 base).length + (sz 9 out).length ≤ 100 := by omega
  generalize hN : 0 + (sz 9 base).length + (sz 9 out).length = N at o2 hN2 ⊢
  have HX : Hid (∃ xs, xs = sz 9 base ++ sz 9 out) := ⟨_, rfl⟩
  obtain ⟨xs, hxs⟩ := HX.out
  have HPR : Hid (prt base out l = xs ++ prn l) := by rw [hxs]; exact rfl
  have O1 : Hid (w2.ownsRow w0.heap.size 5 1 (.slice (some ⟨g2, 0, none⟩) N c2) N ((xs ++ prn (l.take 0)).map (Value.int .u8))) := by
    rw [hxs]
    show World.ownsRow _ _ _ _ _ _ _
    simpa [prn] using o2
  have HB : Hid (Below w0.heap.size w0 w2) := b2'
  have HK0 : Hid (∀ o ∈ l.take 0, okp o) := by show ∀ o ∈ l.take 0, okp o; simp
  clear o1 o2 b1 b2 b2' hN hxs HX HP1 hs1 hs2 hs3
  go_wp2_with fail
  go_loopw [8, 9] (fun d i wr => ∃ k g' N' cap' : Nat, k ≤ n ∧ i = .int .i64 k ∧ d = .slice (some ⟨g', 0, none⟩) N' cap' ∧ N' ≤ 100 + 128 * k ∧ Hid (wr.ownsRow w0.heap.size 5 1 (.slice (some ⟨g', 0, none⟩) N' cap') N' ((xs ++ prn (l.take k)).map (Value.int .u8))) ∧ Hid (Below w0.heap.size w0 wr) ∧ Hid (∀ o ∈ l.take k, okp o)) (fun _ i _ => n - (intOf i).toNat)
  case atStart => exact ⟨0, g2, N, c2, by omega, rfl, rfl, by omega, O1, HB, HK0⟩
  case round =>
    obtain ⟨k0, g1, N1, cap1, hk, rfl, rfl, hN1, hown, hb, hks⟩ := hrel
    clear O1 HB HK0
    obtain ⟨wo, hwo⟩ : ∃ x, x = wr := ⟨_, rfl⟩
    subst hwo
    by_cases hlt : k0 < n
    · have ho := HT.out.keep (hb.out.mono (Nat.le_refl _))
      have hmemb := HT.out.at k0 hlt
      obtain ⟨b, off, rfl, h0, h1, h2, h3⟩ := ho.cells k0 hlt
      have his := HT.out.is k0 hlt
      have HE : Hid (prn (l.take (k0 + 1)) = prn (l.take k0) ++ pr1 (l.getD k0 oz)) := prn_take l k0 (by omega)
      have HTK : Hid (l.take (k0 + 1) = l.take k0 ++ [l.getD k0 oz]) := take_snoc l oz k0 (by omega)
      clear ho
      generalize ms.getD k0 mz = x at *
      generalize l.getD k0 oz = o at *
      obtain ⟨e1, e2, e3, hrd⟩ := his
      obtain ⟨xc, xf, xn, xa, xm, xk⟩ := x
      obtain ⟨oc, of, on, od⟩ := o
      simp only at e1 e2 e3 h0 h1 h2 h3 hrd
      subst e1 e2 e3
      have hro := rgt_okp ⟨xc, xf, xn, od⟩ xm hrd.len
      simp only at hro
      have B1 : Below w0.heap.size w0 (wo.alloc (.cells #[.bool xc, .int .i64 xf, .int .i64 xn, .slice xa xm xk] 53)) := hb.out.alloc hb.out.size _
      have r2 := fo_new wo (.bool xc) (.int .i64 xf) (.int .i64 xn) (.slice xa xm xk) 53
      have OO : (wo.alloc (.cells #[.bool xc, .int .i64 xf, .int .i64 xn, .slice xa xm xk] 53)).ownsRow w0.heap.size 5 1 (.slice (some ⟨g1, 0, none⟩) N1 cap1) N1 ((xs ++ prn (l.take k0)).map (Value.int .u8)) := hown.out.alloc _
      have hgb := own_base hown.out
      have HL1 : Hid ((xs ++ prn (l.take k0)).length = N1) := by have := hown.out.1; show _ = _; simpa using this
      have hgl := (hown.out.lt g1 rfl).2
      have hszl : w0.heap.size ≤ wo.heap.size := hb.out.size
      have hra := right_any xc xf xn xa xm xk (wo.alloc (.cells #[.bool xc, .int .i64 xf, .int .i64 xn, .slice xa xm xk] 53))
      rw [hro] at hra
      by_cases hok : okp ⟨xc, xf, xn, od⟩
      · have HK1 : Hid (∀ o ∈ l.take (k0 + 1), okp o) := by
          show ∀ o ∈ l.take (k0 + 1), okp o
          rw [HTK.out]
          intro o ho
          rcases List.mem_append.1 ho with h | h
          · exact hks.out o h
          · rw [List.mem_singleton.1 h]; exact hok
        rw [decide_eq_true hok] at hra
        have HRA := hra
        have hpl := pr1_len _ hok
        clear hra hro hks HTK hmemb hown hb
        cases xc with
        | false =>
          have hid : isD ⟨false, xf, xn, od⟩ := by
            rcases hok with h | h
            · exact absurd h.1 (by simp)
            · exact h
          have hxm : xm ≤ 127 := by have := hid.2.2.2.2; have := hrd.len; simp only at *; omega
          have hod : od.length = xm := hrd.len
          have HP : Hid (pr1 ⟨false, xf, xn, od⟩ = (xm : Int) :: od) := by show (od.length : Int) :: od = _; rw [hod]
          have z1 : IntKind.u8.wrap (xm : Int) = xm := wraps_u8 _ (by omega) (by omega)
          have z2 : (xm : Int) % 256 = xm := by omega
          clear hok hid
          go_wp2_with (first
            | (go_at_call 31; refine HRA.mono ?_; rintro e wb ⟨rfl, hB3⟩; have r3 := rowIs_fr (P := fun _ => False) r2 (Fr.ofBelow hB3) (fun h => h); have q0 := r3.cell (i := 0) (by omega); simp only [fo] at q0))
          have k3 := r3.cell (i := 3) (by omega)
          simp only [fo] at k3
          have hpw : wo.heap.size < wb.heap.size := r3.lt
          have B2 : Below w0.heap.size w0 wb := B1.trans (hB3.mono B1.size)
          have bw := Bw.refl (own_keep OO hB3) B2.size
          have HPW : Hid (wo.heap.size < wb.heap.size) := hpw
          have HPG : Hid (wo.heap.size ≠ g1) := by show _ ≠ _; omega
          obtain ⟨p, hp⟩ : ∃ p, p = wo.heap.size := ⟨_, rfl⟩
          rw [← hp] at k3 HPW HPG ⊢
          clear h0 h1 h2 h3 hp r2 r3 q0 OO B1 hB3 hpw HRA
          have z3 : (0 : Int) ≤ xm := by omega
          have z4 : (xm : Int) < 256 := by omega
          go_region_held3 (fun w' => w'.cell? ⟨p, 3, none⟩ = some (.slice xa xm xk)) (go_keep)
            ((first
              | (refine step_append_bw (by rfl) (.tmp 49) (.tmp 51) (by rfl) (by rfl) o4 xa xm xk od (by rfl) rd4 (by omega) (N1 + 1 + xm) rfl ?_; intro g5 c5 w5 o5 gr5 l5; have k5 : w5.cell? ⟨p, 3, none⟩ = some (.slice xa xm xk) := (o5.cell (a := ⟨p, 3, none⟩) HPW.out HPG.out).trans k3)
              | (refine step_append_bw (by rfl) (.tmp 43) (.tmp 48) (by rfl) (by rfl) (bw.drew.alloc _) (some ⟨wb.heap.size, 0, none⟩) 1 1 [(xm : Int)] (by rfl) (one_rd wb.drew xm ⟨z3, z4⟩) (by omega) (N1 + 1) rfl ?_; intro g4 c4 w4 o4 gr4 l4; have rd4 := hrd.keep (B2.trans (o4.below hgb)); have k4 : w4.cell? ⟨p, 3, none⟩ = some (.slice xa xm xk) := (o4.cell (a := ⟨p, 3, none⟩) HPW.out HPG.out).trans k3)))
          have B5 : Hid (Below w0.heap.size w0 w5) := B2.trans (o5.below hgb)
          have O5 : Hid (w5.ownsRow w0.heap.size 5 1 (.slice (some ⟨g5, 0, none⟩) (N1 + 1 + xm) c5) (N1 + 1 + xm) ((xs ++ prn (l.take (k0 + 1))).map (Value.int .u8))) := by
            have e : xs ++ prn (l.take (k0 + 1)) = xs ++ prn (l.take k0) ++ [(xm : Int)] ++ od := by rw [HE.out, HP.out]; simp
            rw [e]
            exact o5.own
          clear o5 gr5 l5 o4 gr4 l4 rd4 k4 k5 bw k3 B2
          go_wp2
          go_roundw
          case rel => exact ⟨k0 + 1, g5, N1 + 1 + xm, c5, by omega, by go_num, rfl, by omega, O5, B5, HK1⟩
          case measure => simp [intOf]; omega
        | true =>
          have hic : isC ⟨true, xf, xn, od⟩ := by
            rcases hok with h | h
            · exact h
            · exact absurd h.1 (by simp)
          obtain ⟨_, f0, f1, n1, n2, _⟩ := hic
          simp only at f0 f1 n1 n2
          have HP : Hid (pr1 ⟨true, xf, xn, od⟩ = (128 + spm xf 4 0 + 16 * spm (xn % 65536) 3 0) :: (spb xf 4 0 ++ spb (xn % 65536) 3 0)) := rfl
          clear hok hpl
          go_wp2_with (first
            | (go_at_call 31; refine HRA.mono ?_; rintro e wb ⟨rfl, hB3⟩; have r3 := rowIs_fr (P := fun _ => False) r2 (Fr.ofBelow hB3) (fun h => h); have q0 := r3.cell (i := 0) (by omega); simp only [fo] at q0))
          have Q1 := r3.cell (i := 1) (by omega)
          have Q2 := r3.cell (i := 2) (by omega)
          simp only [fo] at Q1 Q2
          have HPB : Hid (wo.heap.size < wb.heap.size) := r3.lt
          have HGL : Hid (g1 < wb.heap.size) := by have := HPB.out; show _ < _; omega
          have B2 : Hid (Below w0.heap.size w0 wb) := B1.trans (hB3.mono B1.size)
          have OB : Hid (wb.ownsRow w0.heap.size 5 1 (.slice (some ⟨g1, 0, none⟩) N1 cap1) N1 ((xs ++ prn (l.take k0)).map (Value.int .u8))) := own_keep OO hB3
          obtain ⟨p, hp⟩ : ∃ p, p = wo.heap.size := ⟨_, rfl⟩
          rw [← hp] at Q1 Q2 HPB ⊢
          have HQ1 : Hid (wb.cell? ⟨p, 1, none⟩ = some (.int .i64 xf)) := Q1
          have HQ2 : Hid (wb.cell? ⟨p, 2, none⟩ = some (.int .i64 xn)) := Q2
          clear h0 h1 h2 h3 hp r2 r3 q0 OO B1 hB3 HRA Q1 Q2 hrd hgl hszl
          go_loopw [11, 12, 13] (fun c t i wr => ∃ (k q : Nat) (sv : Int) (ys : List Int), k ≤ 4 ∧ i = .int .i64 k ∧ c = .int .u8 (128 + sv) ∧ q ≤ k ∧ 0 ≤ sv ∧ Hid (sv < 2 ^ k) ∧ Hid (spm xf 4 0 = sv + spm xf (4 - k) k) ∧ Hid ([] ++ spb xf 4 0 = ys ++ spb xf (4 - k) k ∧ ys.length = q ∧ ∀ y ∈ ys, 0 ≤ y ∧ y < 256) ∧ Hid (wr.ownsRow wb.heap.size 5 1 t q (ys.map (Value.int .u8))) ∧ Hid (Below wb.heap.size wb wr)) (fun _ _ i _ => 4 - (intOf i).toNat)
          case atStart => exact ⟨0, 0, 0, [], by omega, rfl, rfl, by omega, by omega, (by show (0 : Int) < 2 ^ 0; simp), (by show _ = _; simp), ⟨rfl, rfl, by simp⟩, nil_own _ _, Below.refl _ _⟩
          case round =>
            obtain ⟨k, q, a, ys, hk4, rfl, rfl, hq, ha0, ha1, hsm, hsb, hown, hbe⟩ := hrel
            have q1 : wr.cell? ⟨p, 1, none⟩ = some (.int .i64 xf) := (hbe.out.cell HPB.out).trans HQ1.out
            by_cases hl4 : k < 4
            · have e256 : xf / 2 ^ (8 * k) = xf / 256 ^ k := by rw [pow256]
              have hbyte : 0 ≤ xf / 256 ^ k % 256 ∧ xf / 256 ^ k % 256 < 256 := by omega
              by_cases hz : xf / 256 ^ k % 256 = 0
              · have z1 : xf / 2 ^ (8 * k) % 256 = 0 := by rw [e256]; exact hz
                have SM : Hid (spm xf 4 0 = a + spm xf (4 - (k + 1)) (k + 1)) := sm_step xf 4 k a hl4 hsm.out hz
                have SB : Hid ([] ++ spb xf 4 0 = ys ++ spb xf (4 - (k + 1)) (k + 1) ∧ ys.length = q ∧ ∀ y ∈ ys, 0 ≤ y ∧ y < 256) := ⟨sb_step xf 4 k ys [] hl4 hsb.out.1 hz, hsb.out.2⟩
                have S1 : Hid (a < 2 ^ (k + 1)) := pw_step a k ha1.out
                clear hsm hsb ha1 hbyte hz e256
                go_wp2
                go_roundw
                case rel => exact ⟨k + 1, q, a, ys, by omega, by go_num, rfl, by omega, ha0, S1, SM, SB, hown, hbe⟩
                case measure => simp [intOf]; omega
              · have z1 : (xf / 2 ^ (8 * k) % 256 == 0) = false := by rw [e256]; simp [hz]
                have z2 : ¬ xf / 2 ^ (8 * k) % 256 = 0 := by rw [e256]; exact hz
                have SM : Hid (spm xf 4 0 = (a + 2 ^ k) + spm xf (4 - (k + 1)) (k + 1)) := sm_step1 xf 4 k a hl4 hsm.out hz
                have SB : Hid ([] ++ spb xf 4 0 = (ys ++ [xf / 256 ^ k % 256]) ++ spb xf (4 - (k + 1)) (k + 1) ∧ (ys ++ [xf / 256 ^ k % 256]).length = q + 1 ∧ ∀ y ∈ ys ++ [xf / 256 ^ k % 256], 0 ≤ y ∧ y < 256) := ⟨sb_step1 xf 4 k ys [] hl4 hsb.out.1 hz, by simp [hsb.out.2.1], byts_snoc hsb.out.2.2 hbyte⟩
                have hor := or_c1 a k ha0 ha1.out hl4
                have S1 : Hid (a + 2 ^ k < 2 ^ (k + 1)) := pw_step1 a k ha1.out
                have S0 : 0 ≤ a + 2 ^ k := by have := p2 k; omega
                have hw8 : IntKind.u8.wrap (2 ^ k) = 2 ^ k := by
                  have := p2_le k 3 (by omega)
                  have := p2 k
                  exact wraps_u8 _ (by omega) (by omega)
                rw [← e256] at hbyte SB
                obtain ⟨c1, hc⟩ : ∃ c, xf / 2 ^ (8 * k) % 256 = c := ⟨_, rfl⟩
                rw [hc] at hbyte z1 z2 SB
                clear hz e256 hsm hsb ha1
                go_wp2_with (first
                  | (at_builtin; refine wpList_append_v rfl _ _ rfl wb.heap.size q _ ys rfl (hown.out.alloc _) _ 1 1 [c1] rfl (one_rd wr c1 hbyte) (by omega) (by have := hbe.out.size; simp; omega) ?_; intro v5 w5 o5 gr5))
                have B5 : Hid (Below wb.heap.size wb w5) := (hbe.out.alloc hbe.out.size _).grown gr5 (by have := hbe.out.size; simp; omega) (fun q hq => (hown.out.lt q hq).1)
                have O5 : Hid (w5.ownsRow wb.heap.size 5 1 v5 (q + 1) ((ys ++ [c1]).map (Value.int .u8))) := o5
                clear o5 gr5 hown hbe hc q1
                go_wp2
                go_roundw
                case rel => exact ⟨k + 1, q + 1, a + 2 ^ k, ys ++ [c1], by omega, by go_num, by rw [← hor], by omega, S0, S1, SM, SB, O5, B5⟩
                case measure => simp [intOf]; omega
            · have e4 : k = 4 := by omega
              have XS : Hid (spm xf 4 0 = a) := by have := hsm.out; rw [e4, Nat.sub_self, spm] at this; show _ = _; omega
              have XY : Hid (spb xf 4 0 = ys ∧ ys.length = q ∧ ∀ y ∈ ys, 0 ≤ y ∧ y < 256) := ⟨by have := hsb.out.1; rw [e4, Nat.sub_self, spb, List.append_nil, List.nil_append] at this; exact this, hsb.out.2⟩
              have hq4 : q ≤ 4 := by omega
              have ha15 : a ≤ 15 := by have := (spm_bound xf).2.1; rw [XS.out] at this; exact this
              have HP2 : Hid (pr1 ⟨true, xf, xn, od⟩ = (128 + a + 16 * spm (xn % 65536) 3 0) :: (ys ++ spb (xn % 65536) 3 0)) := by rw [HP.out, XS.out, XY.out.1]; exact rfl
              clear hsm hsb ha1 XS HP q1 HQ1 e4 hq
              obtain ⟨wi, hwi⟩ : ∃ x, x = wr := ⟨_, rfl⟩
              subst hwi
              by_cases hx : xn < 65536
              · have HM : Hid (xn % 65536 = xn) := by show _ = _; omega
                rw [HM.out] at HP2
                have HY0 : Hid (ys ++ spb xn 3 0 = ys ++ spb xn (3 - 0) 0 ∧ ys.length = q ∧ ∀ y ∈ ys, 0 ≤ y ∧ y < 256) := ⟨rfl, XY.out.2⟩
                obtain ⟨pre, hpre⟩ : ∃ x, x = ys := ⟨_, rfl⟩
                rw [← hpre] at HP2
                have HY1 : Hid (pre ++ spb xn 3 0 = ys ++ spb xn (3 - 0) 0 ∧ ys.length = q ∧ ∀ y ∈ ys, 0 ≤ y ∧ y < 256) := by rw [hpre]; exact HY0
                clear HM HY0 XY hpre
                go_wp2_with fail
                go_loopw [11, 12, 15] (fun c t i wr => ∃ (k q : Nat) (sv : Int) (ys : List Int), k ≤ 3 ∧ i = .int .i64 k ∧ c = .int .u8 (128 + a + 16 * sv) ∧ q ≤ 4 + k ∧ 0 ≤ sv ∧ Hid (sv < 2 ^ k) ∧ Hid (spm xn 3 0 = sv + spm xn (3 - k) k) ∧ Hid (pre ++ spb xn 3 0 = ys ++ spb xn (3 - k) k ∧ ys.length = q ∧ ∀ y ∈ ys, 0 ≤ y ∧ y < 256) ∧ Hid (wr.ownsRow wb.heap.size 5 1 t q (ys.map (Value.int .u8))) ∧ Hid (Below wb.heap.size wb wr)) (fun _ _ i _ => 3 - (intOf i).toNat)
                case atStart => exact ⟨0, q, 0, ys, by omega, rfl, by simp, by omega, by omega, (by show (0 : Int) < 2 ^ 0; simp), (by show _ = _; simp), HY1, hown, hbe⟩
                case round =>
                  clear hown hbe HY1 hq4
                  obtain ⟨k, q, sv, ys, hk4, rfl, rfl, hq, hs0, hs1, hsm, hsb, hown, hbe⟩ := hrel
                  have q2 : wr.cell? ⟨p, 2, none⟩ = some (.int .i64 xn) := (hbe.out.cell HPB.out).trans HQ2.out
                  by_cases hl3 : k < 3
                  · have e256 : xn / 2 ^ (8 * k) = xn / 256 ^ k := by rw [pow256]
                    have hbyte : 0 ≤ xn / 256 ^ k % 256 ∧ xn / 256 ^ k % 256 < 256 := by omega
                    by_cases hz : xn / 256 ^ k % 256 = 0
                    · have z1 : xn / 2 ^ (8 * k) % 256 = 0 := by rw [e256]; exact hz
                      have SM : Hid (spm xn 3 0 = sv + spm xn (3 - (k + 1)) (k + 1)) := sm_step xn 3 k sv hl3 hsm.out hz
                      have SB : Hid (pre ++ spb xn 3 0 = ys ++ spb xn (3 - (k + 1)) (k + 1) ∧ ys.length = q ∧ ∀ y ∈ ys, 0 ≤ y ∧ y < 256) := ⟨sb_step xn 3 k ys pre hl3 hsb.out.1 hz, hsb.out.2⟩
                      have S1 : Hid (sv < 2 ^ (k + 1)) := pw_step sv k hs1.out
                      clear hsm hsb hs1 hbyte hz e256
                      go_wp2
                      go_roundw
                      case rel => exact ⟨k + 1, q, sv, ys, by omega, by go_num, rfl, by omega, hs0, S1, SM, SB, hown, hbe⟩
                      case measure => simp [intOf]; omega
                    · have z1 : (xn / 2 ^ (8 * k) % 256 == 0) = false := by rw [e256]; simp [hz]
                      have z2 : ¬ xn / 2 ^ (8 * k) % 256 = 0 := by rw [e256]; exact hz
                      have SM : Hid (spm xn 3 0 = (sv + 2 ^ k) + spm xn (3 - (k + 1)) (k + 1)) := sm_step1 xn 3 k sv hl3 hsm.out hz
                      have SB : Hid (pre ++ spb xn 3 0 = (ys ++ [xn / 256 ^ k % 256]) ++ spb xn (3 - (k + 1)) (k + 1) ∧ (ys ++ [xn / 256 ^ k % 256]).length = q + 1 ∧ ∀ y ∈ ys ++ [xn / 256 ^ k % 256], 0 ≤ y ∧ y < 256) := ⟨sb_step1 xn 3 k ys pre hl3 hsb.out.1 hz, by simp [hsb.out.2.1], byts_snoc hsb.out.2.2 hbyte⟩
                      have hor := or_c2 a sv k ha0 ha15 hs0 hs1.out hl3
                      have S1 : Hid (sv + 2 ^ k < 2 ^ (k + 1)) := pw_step1 sv k hs1.out
                      have S0 : 0 ≤ sv + 2 ^ k := by have := p2 k; omega
                      have hw8 : IntKind.u8.wrap (16 * 2 ^ k) = 16 * 2 ^ k := by
                        have := p2_le k 2 (by omega)
                        have := p2 k
                        have e2 : (2 : Int) ^ 2 = 4 := rfl
                        exact wraps_u8 _ (by omega) (by omega)
                      rw [← e256] at hbyte SB
                      obtain ⟨c1, hc⟩ : ∃ c, xn / 2 ^ (8 * k) % 256 = c := ⟨_, rfl⟩
                      rw [hc] at hbyte z1 z2 SB
                      clear hz e256 hsm hsb hs1
                      go_wp2_with (first
                        | (at_builtin; refine wpList_append_v rfl _ _ rfl wb.heap.size q _ ys rfl (hown.out.alloc _) _ 1 1 [c1] rfl (one_rd wr c1 hbyte) (by omega) (by have := hbe.out.size; simp; omega) ?_; intro v5 w5 o5 gr5))
                      have B5 : Hid (Below wb.heap.size wb w5) := (hbe.out.alloc hbe.out.size _).grown gr5 (by have := hbe.out.size; simp; omega) (fun q hq => (hown.out.lt q hq).1)
                      have O5 : Hid (w5.ownsRow wb.heap.size 5 1 v5 (q + 1) ((ys ++ [c1]).map (Value.int .u8))) := o5
                      clear o5 gr5 hown hbe hc q2
                      go_wp2
                      go_roundw
                      case rel => exact ⟨k + 1, q + 1, sv + 2 ^ k, ys ++ [c1], by omega, by go_num, by rw [← hor], by omega, S0, S1, SM, SB, O5, B5⟩
                      case measure => simp [intOf]; omega
                  · obtain rfl : k = 3 := by omega
                    have XM : Hid (spm xn 3 0 = sv) := by show _ = _; rw [hsm.out, Nat.sub_self, spm]; omega
                    have XB : Hid (pre ++ spb xn 3 0 = ys) := by have := hsb.out.1; rw [Nat.sub_self, spb, List.append_nil] at this; exact this
                    have HQ : Hid (pr1 ⟨true, xf, xn, od⟩ = (128 + a + 16 * sv) :: ys) := by rw [HP2.out, XB.out, XM.out]; exact rfl
                    have HBY : Hid (∀ y ∈ ys, 0 ≤ y ∧ y < 256) := hsb.out.2.2
                    have hs7 : sv ≤ 7 := by have := (spm_bound xn).2.2.2; rw [XM.out] at this; exact this
                    clear hsm hsb hs1 HP2 XM XB
                    have o1b := own_keep OB.out (hbe.out.mono (Nat.le_refl _))
                    have bw := Bw.refl o1b (Nat.le_trans B2.out.size hbe.out.size)
                    obtain ⟨at7, c7, rfl, rd7, lo7⟩ := own_rd hown.out HBY.out
                    have HL7 : Hid (∀ ad, at7 = some ad → wb.heap.size ≤ ad.block) := lo7
                    have rd8 : Rd (wr.alloc (.cells #[.int .u8 (128 + a + 16 * sv)] 5)) at7 q c7 ys := rd7.keep (new_below wr _)
                    have hcc : 0 ≤ 128 + a + 16 * sv ∧ 128 + a + 16 * sv < 256 := by omega
                    have B6 : Below w0.heap.size w0 wr := B2.out.trans (hbe.out.mono B2.out.size)
                    have hqN : N1 + 1 + q ≤ 100 + 128 * (k0 + 1) := by omega
                    clear hown hbe OB B2 rd7 lo7 o1b HBY
                    go_wp2_with (first
                      | (at_builtin; refine wpList_append_bw rfl _ _ rfl rfl o8 at7 q c7 ys rfl rd9 (by omega) ?_; intro g9 c9 w9 o9 _ _)
                      | (at_builtin; refine wpList_append_bw rfl _ _ rfl rfl (bw.alloc _) _ 1 1 [128 + a + 16 * sv] rfl (one_rd wr _ hcc) (by omega) ?_; intro g8 c8 w8 o8 gr8 _; have rd9 := rd8.other gr8 (fun ad h1 _ => by have := HL7.out ad h1; have := HGL.out; omega)))
                    have B9 : Hid (Below w0.heap.size w0 w9) := B6.trans (o9.below hgb)
                    have O9 : Hid (w9.ownsRow w0.heap.size 5 1 (.slice (some ⟨g9, 0, none⟩) (N1 + 1 + q) c9) (N1 + 1 + q) ((xs ++ prn (l.take (k0 + 1))).map (Value.int .u8))) := by
                      have e : xs ++ prn (l.take (k0 + 1)) = xs ++ prn (l.take k0) ++ [128 + a + 16 * sv] ++ ys := by rw [HE.out, HQ.out]; simp
                      rw [e]
                      exact o9.own
                    clear o9 o8 gr8 rd8 rd9 bw B6 HQ HE
                    go_wp2
                    go_roundw
                    case rel => exact ⟨k0 + 1, g9, N1 + 1 + q, c9, by omega, by go_num, rfl, hqN, O9, B9, HK1⟩
                    case measure => simp [intOf]; omega
              · obtain rfl : xn = 65536 := by omega
                have HQ : Hid (pr1 ⟨true, xf, 65536, od⟩ = (128 + a) :: ys) := by show _ = _; rw [HP2.out]; simp [spm, spb]
                have HBY : Hid (∀ y ∈ ys, 0 ≤ y ∧ y < 256) := XY.out.2.2
                have q2 : wi.cell? ⟨p, 2, none⟩ = some (.int .i64 65536) := (hbe.out.cell HPB.out).trans HQ2.out
                clear HP2 XY
                obtain ⟨tv, htv⟩ : ∃ x, x = u12 := ⟨_, rfl⟩
                subst htv
                go_wp2_with fail
                go_loopw [11, 12, 15] (fun c t i wr => i = .int .i64 0 ∧ c = .int .u8 (128 + a) ∧ t = tv ∧ wr = wi) (fun _ _ _ _ => 0)
                case atStart => exact ⟨rfl, rfl, rfl, rfl⟩
                case round =>
                  obtain ⟨rfl, rfl, rfl, rfl⟩ := hrel
                  have o1b := own_keep OB.out (hbe.out.mono (Nat.le_refl _))
                  have bw := Bw.refl o1b (Nat.le_trans B2.out.size hbe.out.size)
                  obtain ⟨at7, c7, rfl, rd7, lo7⟩ := own_rd hown.out HBY.out
                  have HL7 : Hid (∀ ad, at7 = some ad → wb.heap.size ≤ ad.block) := lo7
                  have rd8 : Rd (wr.alloc (.cells #[.int .u8 (128 + a)] 5)) at7 q c7 ys := rd7.keep (new_below wr _)
                  have hcc : 0 ≤ 128 + a ∧ 128 + a < 256 := by omega
                  have B6 : Below w0.heap.size w0 wr := B2.out.trans (hbe.out.mono B2.out.size)
                  have hqN : N1 + 1 + q ≤ 100 + 128 * (k0 + 1) := by omega
                  clear hown hbe OB B2 rd7 lo7 o1b HBY
                  go_wp2_with (first
                    | (at_builtin; refine wpList_append_bw rfl _ _ rfl rfl o8 at7 q c7 ys rfl rd9 (by omega) ?_; intro g9 c9 w9 o9 _ _)
                    | (at_builtin; refine wpList_append_bw rfl _ _ rfl rfl (bw.alloc _) _ 1 1 [128 + a] rfl (one_rd wr _ hcc) (by omega) ?_; intro g8 c8 w8 o8 gr8 _; have rd9 := rd8.other gr8 (fun ad h1 _ => by have := HL7.out ad h1; have := HGL.out; omega)))
                  have B9 : Hid (Below w0.heap.size w0 w9) := B6.trans (o9.below hgb)
                  have O9 : Hid (w9.ownsRow w0.heap.size 5 1 (.slice (some ⟨g9, 0, none⟩) (N1 + 1 + q) c9) (N1 + 1 + q) ((xs ++ prn (l.take (k0 + 1))).map (Value.int .u8))) := by
                    have e : xs ++ prn (l.take (k0 + 1)) = xs ++ prn (l.take k0) ++ [128 + a] ++ ys := by rw [HE.out, HQ.out]; simp
                    rw [e]
                    exact o9.own
                  clear o9 o8 gr8 rd8 rd9 bw B6 HQ HE
                  go_wp2
                  go_roundw
                  case rel => exact ⟨k0 + 1, g9, N1 + 1 + q, c9, by omega, by go_num, rfl, hqN, O9, B9, HK1⟩
                  case measure => simp [intOf]; omega
      · have HA : Hid (pnt base out l = ([], 1)) := pnt_no (fun h => hok (h.2.2 _ hmemb))
        rw [decide_eq_false hok] at hra
        have HRA := hra
        clear hra hro hks HTK hmemb hown hb hok
        go_wp2_with (first
          | (go_at_call 31; refine HRA.mono ?_; rintro e wb ⟨rfl, hB3⟩))
        go_ret2
        rw [HA.out]
        exact ⟨_, rfl, nil_own _ _, B1.trans (hB3.mono B1.size)⟩
    · obtain rfl : k0 = n := by omega
      have e : l.take k0 = l := by rw [← hlen, List.take_length]
      rw [e] at hown hks
      have HA : Hid (pnt base out l = (prt base out l, 0)) := pnt_yes (by omega) (by omega) hks.out
      clear e
      go_wp2
      go_ret2
      rw [HA.out]
      refine ⟨_, rfl, ?_, hb.out⟩
      have e5 := hown.out
      rw [← HPR.out] at e5
      have e4 : (prt base out l).length = N1 := by have := e5.1; simpa using this
      rw [e4]
      exact e5

end Go.Proofs.Ythaibdflehnbbaa
