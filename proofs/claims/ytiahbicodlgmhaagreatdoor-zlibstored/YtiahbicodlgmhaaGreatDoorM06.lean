/- WFind, WStream, WMul. -/
import Derived.Test.YtiahbicodlgmhaaGreatDoorM05
import Derived.Test.YtiahbicodlgmhaaGreatDoorM02
/- find, Next. -/
namespace Go.Proofs.YtiahbicodlgmhaaGreatDoor
open Go.RowKit

theorem wpList_max {ops : Array Oper} {rest : List Oper} {op : Oper} {a : Act} {w : World} {Q : Exit → Act → World → Prop} (hgd : op.guard = none) (x y : Operand) (ho : op.op = .call { callee := .builtin .max, args := #[x, y], argTypes := #[3, 3] })
    (p q : Int) (hx : a.eval x = .int .i64 p) (hy : a.eval y = .int .i64 q) (ht : op.type = 3) (r : Int) (hr : r = max p q)
    (hk : wpList Tryz.prog ops Q rest (a.put op.dst (.int .i64 r)) w) : wpList Tryz.prog ops Q (op :: rest) a w := by
  refine wpList_plain hgd fun K hK => ?_
  have hk' := hK _ _ hk
  subst hr
  unfold Oper.wp
  have hm : (Builtin.max2 (.int .i64 p) (.int .i64 q)).run Tryz.prog w = .ok (.int .i64 (max p q)) w := by
    by_cases h : q < p
    · rw [show max p q = p by omega]
      simp [Builtin.max2, go_sem]; omega
    · rw [show max p q = q by omega]
      simp [Builtin.max2, go_sem]; omega
  simp [execOp, ho, resolve, invoke, builtin, hx, hy, ht, Builtin.max_, hm, Result.andThen]
  exact hk'

theorem or_bit (v b : Int) (h0 : 0 ≤ v) (h1 : v < 65536) (hb : b = 0 ∨ b = 1) : bits .or .i64 (wrap64 (v * 2)) b = 2 * v + b := by
  rw [or_comm', show v * 2 = v * 2 ^ 1 from rfl, i64_put 1 16 _ _ (by omega) (by omega) h0 (by omega) (by omega)]
  omega

theorem cc_first (ls cs sy : Value) (C F : Nat → Int) (dp : Int) (k : Nat) (h : k < 16) : ccells ls cs sy C F dp (18 + k) = .int .i64 (F k) := by
  unfold ccells
  rw [if_neg (by omega), if_neg (by omega), if_neg (by omega), if_pos (by omega), show 18 + k - 18 = k by omega]

theorem cc_count (ls cs sy : Value) (C F : Nat → Int) (dp : Int) (k : Nat) (h : k < 16) : ccells ls cs sy C F dp (2 + k) = .int .i64 (C k) := by
  unfold ccells
  rw [if_neg (by omega), if_neg (by omega), if_pos (by omega), show 2 + k - 2 = k by omega]

/-- Block R is a code of these n lengths, as far as reading asks. -/
structure IsD (w : World) (R : Nat) (L : Nat → Int) (n : Nat) (la : Option Addr) (lc cg sg : Nat) (sy : Nat → Int) (M dp : Nat) : Prop where
  row : w.rowIs R 166 36 (ccells (.slice la n lc) (.slice (some ⟨cg, 0, none⟩) n n) (.slice (some ⟨sg, 0, none⟩) M M) (C L n) (F L n) dp)
  rs : w.rowIs sg 3 M (fun j => .int .i64 (sy j))
  sym : Sym L n n sy
  m : pl L n 16 = M
  dp15 : dp ≤ 15
  dpx : ∀ j, j < n → L j ≤ dp
  dpe : dp = 0 ∨ ∃ j, j < n ∧ L j = dp
  ok : er L n = 0

/-- Block R is a code of these n lengths. -/
def Cd (w : World) (R : Nat) (L : Nat → Int) (n : Nat) : Prop := ∃ la lc cg sg sy M dp, IsD w R L n la lc cg sg sy M dp

theorem IsC.cd {w : World} {R K : Nat} {L : Nat → Int} {n : Nat} {la : Option Addr} {lc cg sg : Nat} {sy : Nat → Int} {M dp : Nat} (h : IsC w R K L n la lc cg sg sy M dp) : Cd w R L n :=
  ⟨la, lc, cg, sg, sy, M, dp, ⟨h.row, h.rs, h.sym, h.m, h.dp15, h.dpx, h.dpe, h.ok⟩⟩

theorem IsD.fr {P : Nat → Prop} {w w' : World} {R : Nat} {L : Nat → Int} {n : Nat} {la : Option Addr} {lc cg sg : Nat} {sy : Nat → Int} {M dp : Nat} (h : IsD w R L n la lc cg sg sy M dp) (hf : Fr P w w') (h1 : ¬ P R) (h2 : ¬ P sg) : IsD w' R L n la lc cg sg sy M dp :=
  ⟨rowIs_fr h.row hf h1, rowIs_fr h.rs hf h2, h.sym, h.m, h.dp15, h.dpx, h.dpe, h.ok⟩

/-- Blocks of unlike types are two. -/
theorem rowIs_ne {w : World} {a b t t' n n' : Nat} {f g : Nat → Value} (h : w.rowIs a t n f) (k : w.rowIs b t' n' g) (ht : t ≠ t') : a ≠ b := by
  rintro rfl
  obtain ⟨c, h1, _⟩ := h
  obtain ⟨c', h2, _⟩ := k
  rw [h1] at h2
  simp at h2
  exact ht h2.2

/-- Where the walk down a code stands. -/
structure At (L : Nat → Int) (n : Nat) (X : Int) (nb p mx k : Nat) (v : Int) : Prop where
  k1 : 1 ≤ k
  v0 : G L (k - 1) n ≤ v
  v1 : v < 2 ^ (k - 1)
  go : ∀ s g q, Nx L n X nb (16 - k) k v (p + (k - 1)) s g q → Nx L n X nb 15 1 0 p s g q
  le : k ≤ mx
  m15 : mx ≤ 15

theorem At.short {L : Nat → Int} {n : Nat} {X : Int} {nb p mx k : Nat} {v : Int} (h : At L n X nb p mx k v) (hs : 8 * nb < p + (k - 1) + 1) : Nx L n X nb 15 1 0 p 0 3 (p + (k - 1)) := by
  refine h.go _ _ _ ?_
  have := h.le
  have := h.m15
  rw [show 16 - k = (15 - k) + 1 by omega]
  simp only [Nx]
  exact Or.inl ⟨hs, trivial, trivial, trivial⟩

theorem At.hit {L : Nat → Int} {n : Nat} {X : Int} {nb p mx k : Nat} {v : Int} (h : At L n X nb p mx k v) (hs : p + (k - 1) + 1 ≤ 8 * nb) (i : Nat) (hi : Hit L n k (2 * v + X / 2 ^ (p + (k - 1)) % 2) i) : Nx L n X nb 15 1 0 p i 0 (p + (k - 1) + 1) := by
  refine h.go _ _ _ ?_
  have := h.le
  have := h.m15
  rw [show 16 - k = (15 - k) + 1 by omega]
  simp only [Nx]
  exact Or.inr (Or.inl ⟨hs, i, hi, rfl, trivial, trivial⟩)

theorem no_hit {L : Nat → Int} {n k : Nat} {v : Int} (hk : 0 < k) (h : G L k n ≤ v) : ∀ i, ¬ Hit L n k v i := by
  rintro i ⟨h1, h2, h3⟩
  have := (cd_between L n i k h1 h2 hk).2
  omega

theorem At.last {L : Nat → Int} {n : Nat} {X : Int} {nb p mx k : Nat} {v : Int} (h : At L n X nb p mx k v) (hs : p + (k - 1) + 1 ≤ 8 * nb) (hno : ∀ i, ¬ Hit L n k (2 * v + X / 2 ^ (p + (k - 1)) % 2) i) (hl : ∀ i, i < n → ¬ (k : Int) < L i) : Nx L n X nb 15 1 0 p 0 2 (p + (k - 1) + 1) := by
  refine h.go _ _ _ ?_
  have := h.le
  have := h.m15
  rw [show 16 - k = (15 - k) + 1 by omega]
  simp only [Nx]
  exact Or.inr (Or.inr (Or.inl ⟨hs, hno, hl, trivial, trivial, trivial⟩))

theorem At.next {L : Nat → Int} {n : Nat} {X : Int} {nb p mx k : Nat} {v : Int} (h : At L n X nb p mx k v) (hs : p + (k - 1) + 1 ≤ 8 * nb) (hG : G L k n ≤ 2 * v + X / 2 ^ (p + (k - 1)) % 2) (hk : k < mx) (hl : ∃ i, i < n ∧ (k : Int) < L i) : At L n X nb p mx (k + 1) (2 * v + X / 2 ^ (p + (k - 1)) % 2) := by
  have h1 := h.k1
  have h2 := h.v1
  have hb : 0 ≤ X / 2 ^ (p + (k - 1)) % 2 ∧ X / 2 ^ (p + (k - 1)) % 2 < 2 := by omega
  refine ⟨by omega, by rw [show k + 1 - 1 = k by omega]; exact hG, ?_, fun s g q hn => h.go _ _ _ ?_, by omega, h.m15⟩
  · rw [show k + 1 - 1 = (k - 1) + 1 by omega, Int.pow_succ]
    omega
  · have := h.m15
    rw [show 16 - k = (16 - (k + 1)) + 1 by omega]
    simp only [Nx]
    rw [show p + (k + 1 - 1) = p + (k - 1) + 1 by omega] at hn
    exact Or.inr (Or.inr (Or.inr ⟨hs, no_hit h1 hG, hl, hn⟩))

theorem get_short (R : Nat) (ao : Option Addr) (n c : Nat) (X : Int) (p : Nat) (w : World) (h : IsR w R ao n c X p) (hs : 8 * n < p + 1) :
    Calls Tryz.prog 87 #[.pointer (some ⟨R, 0, none⟩), .int .i64 1] w fun e w' => e = .returned (.tuple #[.int .i64 0, .bool false]) ∧ IsR w' R ao n c X p ∧ Fr (fun k => k = R) w w' := by
  refine (get_no R ao n c X p 1 w h (by omega)).mono ?_
  rintro e w' ⟨rfl, hw | hw⟩
  · subst hw; exact ⟨rfl, h, Fr.refl _ _⟩
  · subst hw; exact ⟨rfl, h.drew, (Fr.refl _ _).drew⟩

set_option maxRecDepth 100000 in
set_option maxHeartbeats 2000000 in
theorem find_any (R : Nat) (L : Nat → Int) (n : Nat) (Q : Nat) (ao : Option Addr) (nb c : Nat) (X : Int) (p : Nat) (w : World) (hC : Cd w R L n) (hR : IsR w Q ao nb c X p) :
    Calls Tryz.prog 124 #[.pointer (some ⟨R, 0, none⟩), .func (.func 87) #[.pointer (some ⟨Q, 0, none⟩)] #[]] w fun e w' => ∃ s g q, e = .returned (.tuple #[.int .i64 s, .int .i64 g]) ∧ Nx L n X nb 15 1 0 p s g q ∧ IsR w' Q ao nb c X q ∧ Fr (fun k => k = Q) w w' := by
  obtain ⟨la, lc, cg, sg, sy, M, dp, hC⟩ := hC
  obtain ⟨h288, hL, hf⟩ := er_zero L n hC.ok
  have hRQ := rowIs_ne hC.row hR.row (by decide)
  have hsQ := rowIs_ne hC.rs hR.row (by decide)
  obtain ⟨mx, hmx⟩ : ∃ mx : Nat, mx = max dp 1 := ⟨_, rfl⟩
  have hm15 : mx ≤ 15 := by have := hC.dp15; omega
  have h0 : At L n X nb p mx 1 0 := ⟨by omega, by rw [show 1 - 1 = 0 from rfl, G_zero]; omega, by simp, fun s g q h => by simpa using h, by omega, hm15⟩
  go_enter Tryz.func124, Tryz.ntmps124
  go_wp2
  go_loopw [6, 7, 8, 9, 10, 11] (fun cv sv kv _ _ _ wr => ∃ (k : Nat) (v : Int), kv = .int .i64 k ∧ cv = .int .i64 v ∧ sv = .int .i64 (pl L n k) ∧ k ≤ mx + 1 ∧ 1 ≤ k ∧ (At L n X nb p mx k v ∨ (k = mx + 1 ∧ Nx L n X nb 15 1 0 p 0 2 (p + (k - 1)))) ∧ IsR wr Q ao nb c X (p + (k - 1)) ∧ Fr (fun k => k = Q) w wr) (fun _ _ kv _ _ _ _ => 17 - (intOf kv).toNat)
  case atStart => exact ⟨1, 0, rfl, rfl, by simp [pl, C], by omega, by omega, .inl h0, hR, Fr.refl _ _⟩
  case round =>
    obtain ⟨k, v, rfl, rfl, rfl, hk, hk1, hat, hr, fr⟩ := hrel
    clear h0 hR
    have hC1 := hC.fr fr hRQ hsQ
    have c35 := hC1.row.cell (i := 35) (by omega)
    rw [show ccells (.slice la n lc) (.slice (some ⟨cg, 0, none⟩) n n) (.slice (some ⟨sg, 0, none⟩) M M) (C L n) (F L n) dp 35 = .int .i64 dp from rfl] at c35
    by_cases hkm : k ≤ mx
    · have hA : At L n X nb p mx k v := by
        rcases hat with h | h
        · exact h
        · omega
      clear hat
      have cF := hC1.row.cell (i := 18 + k) (by omega)
      rw [cc_first _ _ _ _ _ _ _ (by omega)] at cF
      have cC := hC1.row.cell (i := 2 + k) (by omega)
      rw [cc_count _ _ _ _ _ _ _ (by omega)] at cC
      have HMX : Hid ((mx : Int) = max (dp : Int) 1) := by
        have : (mx : Int) = max (dp : Int) 1 := by omega
        exact this
      have HC : Hid (∀ wz, Fr (fun k => k = Q) w wz → IsD wz R L n la lc cg sg sy M dp) := fun wz fz => hC.fr fz hRQ hsQ
      have HL : Hid (∀ j, j < n → Lm (L j)) := hL
      have HDP : Hid ((∀ j, j < n → L j ≤ dp) ∧ (dp = 0 ∨ ∃ j, j < n ∧ L j = dp) ∧ mx = max dp 1) := ⟨hC.dpx, hC.dpe, hmx⟩
      have HA : Hid (At L n X nb p mx k v) := hA
      have HF : Hid (Fits L n) := hf
      have HR : Hid (Fr (fun k => k = Q) w wr) := fr
      clear hC hC1 hmx hf hL hA fr cF cC
      by_cases hs : 8 * nb < p + (k - 1) + 1
      · go_wp2_with (first
          | (refine wpList_max rfl _ _ rfl (dp : Int) 1 rfl rfl rfl (mx : Int) HMX.out ?_)
          | (go_at_call 87; refine (get_short Q ao nb c X _ wr hr hs).mono ?_; rintro e w3 ⟨rfl, r3, f3⟩))
        go_ret2
        exact ⟨0, 3, _, rfl, HA.out.short hs, r3, HR.out.trans f3 (fun _ _ e => e)⟩
      · have hs' : p + (k - 1) + 1 ≤ 8 * nb := by omega
        clear hs
        have hv0 : 0 ≤ v := Int.le_trans (G_nn _ _ _) HA.out.v0
        have hv1 : v < 65536 := by
          have h1 := HA.out.v1
          have h2 := p2_le (k - 1) 15 (by omega)
          have h3 : (2 : Int) ^ 15 = 32768 := rfl
          omega
        obtain ⟨b, hb⟩ : ∃ b, b = X / 2 ^ (p + (k - 1)) % 2 := ⟨_, rfl⟩
        have hb01 : b = 0 ∨ b = 1 := by omega
        have HBt : Hid (b = X / 2 ^ (p + (k - 1)) % 2) := hb
        have HO : Hid (bits .or .i64 (wrap64 (v * 2)) b = 2 * v + b) := or_bit v b hv0 hv1 hb01
        have hge : F L n k ≤ 2 * v + b := by
          obtain ⟨m, rfl⟩ : ∃ m, k = m + 1 := ⟨k - 1, by omega⟩
          have := HA.out.v0
          simp only [F]
          simp only [Nat.add_sub_cancel] at this
          omega
        have bF := F_small L n k HF.out (by omega)
        have bC := C_nn L n k
        have bP : 0 ≤ pl L n k ∧ pl L n k ≤ 16 * 288 := by
          have h1 := pl_nn L n k
          have := Int.mul_le_mul (show (k : Int) ≤ 16 by omega) (show (n : Int) ≤ 288 by omega) (by omega) (by omega)
          omega
        go_wp2_with (refine wpList_max rfl _ _ rfl (dp : Int) 1 rfl rfl rfl (mx : Int) HMX.out ?_)
        refine (get_yes Q ao nb c X (p + (k - 1)) 1 wr hr (by omega) hs').mono ?_
        rintro e w3 ⟨rfl, r3, f3⟩
        have F3 := HR.out.trans f3 (fun _ _ e => e)
        have hC3 := HC.out w3 F3
        have cF := hC3.row.cell (i := 18 + k) (by omega)
        rw [cc_first _ _ _ _ _ _ _ (by omega)] at cF
        have cC := hC3.row.cell (i := 2 + k) (by omega)
        rw [cc_count _ _ _ _ _ _ _ (by omega)] at cC
        have c34 := hC3.row.cell (i := 34) (by omega)
        rw [show ccells (.slice la n lc) (.slice (some ⟨cg, 0, none⟩) n n) (.slice (some ⟨sg, 0, none⟩) M M) (C L n) (F L n) dp 34 = .slice (some ⟨sg, 0, none⟩) M M from rfl] at c34
        rw [show X / 2 ^ (p + (k - 1)) % 2 ^ 1 = b from hb.symm]
        clear hr c35 f3 hb
        have HO' : bits .or .i64 (v * 2) b = 2 * v + b := by
          rw [← HO.out, IntWalk.wrap64_in (v * 2) (by omega)]
        have hvb : 0 ≤ 2 * v + b ∧ 2 * v + b < 140000 := by omega
        obtain ⟨v', hv'⟩ : ∃ v', v' = 2 * v + b := ⟨_, rfl⟩
        rw [← hv'] at HO' hge hvb
        have HV : Hid (v' = 2 * v + b) := hv'
        clear hv' HO
        by_cases hlt : v' - F L n k < C L n k
        · obtain ⟨r, hr⟩ := Int.eq_ofNat_of_zero_le (show 0 ≤ v' - F L n k by omega)
          obtain ⟨i, hi, hLi, hci⟩ := cn_find L k n r (by omega) (by rw [← C_pos L n k (by omega)]; omega)
          have hnb := nb_at L (pl L n) i k hLi (by omega)
          rw [C_pos L i k (by omega), hci] at hnb
          have hlb := nbp_lt L n i hi (by omega) (HL.out i hi).2
          have hsy := hC3.sym i hi (by omega)
          rw [hnb] at hlb hsy
          obtain ⟨y, hy⟩ := Int.eq_ofNat_of_zero_le hlb.1
          have hyM : y < M := by have := hlb.2; rw [hC3.m] at this; omega
          rw [hy, Int.toNat_natCast] at hsy
          have cS := hC3.rs.cell (i := y) hyM
          rw [hsy] at cS
          have HH : Hid (Hit L n k (2 * v + X / 2 ^ (p + (k - 1)) % 2) i) := by
            refine ⟨hi, hLi, ?_⟩
            rw [cd_low L n i k hLi (by omega), hci, ← hr, ← HBt.out, ← HV.out]
            omega
          have hrC : (r : Int) < C L n k := by omega
          clear hnb hlb hsy hC3 hlt hLi hci
          go_wp2
          go_ret2
          exact ⟨i, 0, _, rfl, HA.out.hit hs' i HH.out, r3, F3⟩
        · have hG : G L k n ≤ 2 * v + X / 2 ^ (p + (k - 1)) % 2 := by
            rw [← HBt.out, ← HV.out, ← FC]
            omega
          have HG : Hid (G L k n ≤ 2 * v + X / 2 ^ (p + (k - 1)) % 2) := hG
          have HS : Hid (pl L n (k + 1) = pl L n k + C L n k) := rfl
          have hlt2 : C L n k ≤ v' - F L n k := by omega
          clear hG hC3 c34 hlt
          go_wp2
          go_roundw
          case rel =>
            refine ⟨k + 1, v', by go_num, rfl, by rw [HS.out], by omega, by omega, ?_, ?_, F3⟩
            · rw [HV.out, HBt.out]
              by_cases hlast : k = mx
              · refine .inr ⟨by omega, ?_⟩
                rw [show p + (k + 1 - 1) = p + (k - 1) + 1 by omega]
                refine HA.out.last hs' (no_hit (by omega) HG.out) (fun i hi => ?_)
                have h1 := HDP.out.1 i hi
                have h2 := HDP.out.2.2
                omega
              · refine .inl (HA.out.next hs' HG.out (by omega) ?_)
                have h2 := HDP.out.2.2
                rcases HDP.out.2.1 with h3 | ⟨j, hj, hl⟩
                · omega
                · exact ⟨j, hj, by omega⟩
            · rw [show p + (k + 1 - 1) = p + (k - 1) + 1 by omega]
              exact r3
          case measure => simp [intOf]; omega
    · have hfin : Nx L n X nb 15 1 0 p 0 2 (p + (k - 1)) := by
        rcases hat with h | h
        · have := h.le; omega
        · exact h.2
      have HMX : Hid ((mx : Int) = max (dp : Int) 1) := by
        have : (mx : Int) = max (dp : Int) 1 := by omega
        exact this
      have hkm' : mx < k := by omega
      clear hat hC hC1 hmx hf hL
      go_wp2_with (refine wpList_max rfl _ _ rfl (dp : Int) 1 rfl rfl rfl (mx : Int) HMX.out ?_)
      go_ret2
      exact ⟨0, 2, _, rfl, hfin, hr, fr⟩

theorem next_any (R : Nat) (L : Nat → Int) (n : Nat) (Q : Nat) (ao : Option Addr) (nb c : Nat) (X : Int) (p : Nat) (w : World) (hC : Cd w R L n) (hR : IsR w Q ao nb c X p) :
    Calls Tryz.prog 91 #[.pointer (some ⟨R, 0, none⟩), .pointer (some ⟨Q, 0, none⟩)] w fun e w' => ∃ s g q, e = .returned (.tuple #[.int .i64 s, .int .i64 g]) ∧ Nx L n X nb 15 1 0 p s g q ∧ IsR w' Q ao nb c X q ∧ Fr (fun k => k = Q) w w' := by
  go_enter Tryz.func91, Tryz.ntmps91
  go_wp2_with (go_at_call 124; refine (find_any R L n Q ao nb c X p w hC hR).mono ?_; rintro e w1 ⟨s, g, q, rfl, h1, h2, h3⟩)
  go_ret2
  exact ⟨s, g, q, rfl, h1, h2, h3⟩

theorem new_cd (ao : Option Addr) (n c : Nat) (L : Nat → Int) (half : Bool) (w : World) (h : Ri w ao n c L) (hn : nw L n half = 0) :
    Calls Tryz.prog 89 #[.slice ao n c, .bool half] w fun e w' => ∃ R, e = .returned (.tuple #[.pointer (some ⟨R, 0, none⟩), .int .i64 0]) ∧ Cd w' R L n ∧ Below w.heap.size w w' := by
  refine (new_yes ao n c L half w h hn).mono ?_
  rintro e w' ⟨R, K, rfl, ⟨la, lc, cg, sg, sy, M, dp, hC⟩, hb⟩
  exact ⟨R, rfl, hC.cd, hb⟩

end Go.Proofs.YtiahbicodlgmhaaGreatDoor

/- A stream in memory: what is read, what came out; get, more, number, put. -/
namespace Go.Proofs.YtiahbicodlgmhaaGreatDoor
open Go.RowKit

/-- Blocks of numbers and codes stay as they are. -/
def Kt (w w' : World) : Prop := ∀ (k : Nat) (c : Array Value) (t : TypeId) (x : Nat × Nat), w.heap[k]? = some (Obj.cells c t x) → t = 3 ∨ t = 166 → w'.heap[k]? = w.heap[k]?

theorem Kt.refl (w : World) : Kt w w := fun _ _ _ _ _ _ => rfl

theorem Kt.trans {a b c : World} (h : Kt a b) (k : Kt b c) : Kt a c := fun i d t x hi ht =>
  (k i d t x ((h i d t x hi ht).trans hi) ht).trans (h i d t x hi ht)

theorem Kt.ofFr {P : Nat → Prop} {w w' : World} (h : Fr P w w') (hP : ∀ (k : Nat) (c : Array Value) (t : TypeId) (x : Nat × Nat), P k → w.heap[k]? = some (Obj.cells c t x) → t ≠ 3 ∧ t ≠ 166) : Kt w w' := fun k c t x hk ht =>
  h.block k (Array.getElem?_eq_some_iff.1 hk).1 (fun hp => by
    have := hP k c t x hp hk
    rcases ht with e | e
    · exact this.1 e
    · exact this.2 e)

theorem Kt.ofBelow {w w' : World} (h : Below w.heap.size w w') : Kt w w' := Kt.ofFr (P := fun _ => False) (Fr.ofBelow h) (fun _ _ _ _ h => h.elim)

theorem rowIs_kt {w w' : World} {b t n : Nat} {f : Nat → Value} (h : w.rowIs b t n f) (k : Kt w w') (ht : t = 3 ∨ t = 166) : w'.rowIs b t n f := by
  obtain ⟨c, h1, h2⟩ := h
  exact ⟨c, (k b c t _ h1 ht).trans h1, h2⟩

theorem Cd.kt {w w' : World} {R : Nat} {L : Nat → Int} {n : Nat} (h : Cd w R L n) (k : Kt w w') : Cd w' R L n := by
  obtain ⟨la, lc, cg, sg, sy, M, dp, h⟩ := h
  exact ⟨la, lc, cg, sg, sy, M, dp, ⟨rowIs_kt h.row k (.inr rfl), rowIs_kt h.rs k (.inl rfl), h.sym, h.m, h.dp15, h.dpx, h.dpe, h.ok⟩⟩

theorem Kt.row {w w' : World} {b t n : Nat} {f : Nat → Value} (h : w.rowIs b t n f) (ht : t ≠ 3 ∧ t ≠ 166) (k : Fr (fun i => i = b) w w') : Kt w w' :=
  Kt.ofFr k (fun i c t' x e hi => by
    subst e
    obtain ⟨c', h1, _⟩ := h
    rw [h1] at hi
    simp only [Option.some.injEq, Obj.cells.injEq] at hi
    rw [← hi.2.1]
    exact ht)

/-- What a call on a stream leaves: all below B, all numbers and codes. -/
structure Sw (B : Nat) (w w' : World) : Prop where
  bel : Below B w w'
  kt : Kt w w'

theorem Sw.refl (B : Nat) (w : World) : Sw B w w := ⟨Below.refl _ _, Kt.refl _⟩
theorem Sw.trans {B : Nat} {a b c : World} (h : Sw B a b) (k : Sw B b c) : Sw B a c := ⟨h.bel.trans k.bel, h.kt.trans k.kt⟩
theorem Sw.drew {B : Nat} {a b : World} (h : Sw B a b) : Sw B a b.drew := ⟨h.bel.drew, h.kt⟩

/-- A stream's cells. -/
def scells (R : Nat) (v : Value) (m : Int) : Nat → Value
  | 0 => .pointer (some ⟨R, 0, none⟩)
  | 1 => v
  | _ => .int .i64 m

/-- Block S is a stream: its reader R stands at bit p of the n bytes of X, os came out, m may. All of it lies from B on. -/
structure IsS (w : World) (B S R : Nat) (ao : Option Addr) (n c : Nat) (X : Int) (p : Nat) (v : Value) (os : List Int) (m : Int) : Prop where
  row : w.rowIs S 71 3 (scells R v m)
  rd : IsR w R ao n c X p
  own : w.ownsRow 0 5 1 v os.length (os.map (Value.int .u8))
  byt : ∀ x ∈ os, 0 ≤ x ∧ x < 256
  vS : v.ownBlock ≠ some S
  vR : v.ownBlock ≠ some R
  aS : ∀ ad, ao = some ad → 0 < n → ad.block ≠ S
  av : ∀ ad, ao = some ad → 0 < n → v.ownBlock ≠ some ad.block
  bB : B ≤ w.heap.size
  bS : B ≤ S
  bR : B ≤ R
  bv : ∀ k, v.ownBlock = some k → B ≤ k

theorem IsS.RS {w : World} {B S R : Nat} {ao : Option Addr} {n c : Nat} {X : Int} {p : Nat} {v : Value} {os : List Int} {m : Int} (h : IsS w B S R ao n c X p v os m) : R ≠ S := rowIs_ne h.rd.row h.row (by decide)

theorem IsS.drew {w : World} {B S R : Nat} {ao : Option Addr} {n c : Nat} {X : Int} {p : Nat} {v : Value} {os : List Int} {m : Int} (h : IsS w B S R ao n c X p v os m) : IsS w.drew B S R ao n c X p v os m :=
  ⟨h.row.drew, h.rd.drew, ownsRow_fr h.own (Fr.refl (fun _ => False) _).drew (fun _ _ h => h), h.byt, h.vS, h.vR, h.aS, h.av, h.bB, h.bS, h.bR, h.bv⟩

/-- New memory alone. -/
theorem IsS.keep {w w' : World} {B S R : Nat} {ao : Option Addr} {n c : Nat} {X : Int} {p : Nat} {v : Value} {os : List Int} {m : Int} (h : IsS w B S R ao n c X p v os m) (hb : Below w.heap.size w w') : IsS w' B S R ao n c X p v os m :=
  ⟨h.row.of_block (hb.block _ h.row.lt), h.rd.keep hb, ownsRow_fr h.own (Fr.ofBelow (P := fun _ => False) hb) (fun _ _ h => h), h.byt, h.vS, h.vR, h.aS, h.av, Nat.le_trans h.bB hb.size, h.bS, h.bR, h.bv⟩

theorem Sw.keep {w w' : World} {B : Nat} (hB : B ≤ w.heap.size) (hb : Below w.heap.size w w') : Sw B w w' := ⟨hb.mono hB, Kt.ofBelow hb⟩

/-- The reader has gone on. -/
theorem IsS.read {w w' : World} {B S R : Nat} {ao : Option Addr} {n c : Nat} {X : Int} {p q : Nat} {v : Value} {os : List Int} {m : Int} (h : IsS w B S R ao n c X p v os m) (hr : IsR w' R ao n c X q) (hf : Fr (fun k => k = R) w w') : IsS w' B S R ao n c X q v os m ∧ Sw B w w' :=
  ⟨⟨rowIs_fr h.row hf (fun e => h.RS e.symm), hr, ownsRow_fr h.own hf (fun k hk e => h.vR (by rw [hk, e])), h.byt, h.vS, h.vR, h.aS, h.av, Nat.le_trans h.bB hf.size, h.bS, h.bR, h.bv⟩,
    ⟨hf.below B h.bB (fun i hi e => by have := h.bR; omega), Kt.row h.rd.row (by decide) hf⟩⟩

theorem s_after {wr w5 : World} {B S R : Nat} {ao : Option Addr} {n c : Nat} {X : Int} {p : Nat} {v : Value} {os : List Int} {m : Int} {O : Obj} (h : IsS wr B S R ao n c X p v os m) (gr : (wr.alloc O).grownBy w5 v.ownBlock) : w5.rowIs S 71 3 (scells R v m) :=
  rowIs_fr h.row (((Fr.refl (fun k => v.ownBlock = some k) wr).alloc _).grown gr (fun _ _ hk => hk)) h.vS

/-- Behind an append of one byte and its store. -/
theorem s_pushed {wr w5 : World} {B S R : Nat} {ao : Option Addr} {n c : Nat} {X : Int} {p : Nat} {v : Value} {os : List Int} {m : Int} {O : Obj} {g5 c5 : Nat} {b : Int} (h : IsS wr B S R ao n c X p v os m) (b0 : 0 ≤ b) (b1 : b < 256)
    (o5 : w5.ownsRow 0 5 1 (.slice (some ⟨g5, 0, none⟩) (os.length + 1) c5) (os.length + 1) (os.map (Value.int .u8) ++ [.int .u8 b])) (gr : (wr.alloc O).grownBy w5 v.ownBlock) (l5 : v.ownBlock = some g5 ∨ g5 = wr.heap.size + 1) :
    IsS (w5.setCell ⟨S, 1, none⟩ (.slice (some ⟨g5, 0, none⟩) (os.length + 1) c5)) B S R ao n c X p (.slice (some ⟨g5, 0, none⟩) (os.length + 1) c5) (os ++ [b]) m ∧
      Sw B wr (w5.setCell ⟨S, 1, none⟩ (.slice (some ⟨g5, 0, none⟩) (os.length + 1) c5)) := by
  have hSlt := h.row.lt
  have hRlt := h.rd.row.lt
  have hne : g5 ≠ S := by
    rintro rfl
    rcases l5 with e | e
    · exact h.vS e
    · omega
  have hneR : g5 ≠ R := by
    rintro rfl
    rcases l5 with e | e
    · exact h.vR e
    · omega
  have r5 := s_after h gr
  have F : Fr (fun k => k = S ∨ v.ownBlock = some k) wr (w5.setCell ⟨S, 1, none⟩ (.slice (some ⟨g5, 0, none⟩) (os.length + 1) c5)) := (((Fr.refl (fun k => k = S ∨ v.ownBlock = some k) wr).alloc _).grown gr (fun _ _ hk => .inr hk)).setCell (.inl rfl) _
  refine ⟨⟨(r5.set 1 _).congr (fun i hi => by rcases i with _ | _ | _ | i <;> first | rfl | omega), ?_, ?_, ?_, ?_, ?_, h.aS, ?_, Nat.le_trans h.bB F.size, h.bS, h.bR, ?_⟩, ⟨F.below B h.bB ?_, Kt.ofFr F ?_⟩⟩
  · exact h.rd.fr F (fun e => by rcases e with e | e; exact h.RS e; exact h.vR e) (fun ad had hn e => by rcases e with e | e; exact h.aS ad had hn e; exact h.av ad had hn e)
  · rw [List.map_append, List.length_append]
    exact ownsRow_fr o5 ((Fr.refl (fun k => k = S) w5).setCell rfl _) (fun k hk e => hne (by cases hk; exact e))
  · intro x hx
    rcases List.mem_append.1 hx with hx | hx
    · exact h.byt x hx
    · simp at hx
      omega
  · simpa [Value.ownBlock] using hne
  · simpa [Value.ownBlock] using hneR
  · intro ad had hn e
    simp [Value.ownBlock] at e
    rcases l5 with e' | e'
    · exact h.av ad had hn (by rw [e', e])
    · have hc := h.rd.rd.cells ad had 0 hn
      have := World.block_lt_of_cell? wr _ hc
      rw [show (ad.add 0).block = ad.block by unfold Addr.add; split <;> rfl] at this
      omega
  · intro k hk
    simp [Value.ownBlock] at hk
    rcases l5 with e' | e'
    · exact h.bv k (by rw [e', hk])
    · have := h.bB; omega
  · intro i hi e
    rcases e with e | e
    · have := h.bS; omega
    · have := h.bv i e; omega
  · intro k cs t x hk hc
    rcases hk with rfl | hk
    · obtain ⟨c', h1, _⟩ := h.row
      rw [h1] at hc
      simp only [Option.some.injEq, Obj.cells.injEq] at hc
      rw [← hc.2.1]
      decide
    · rcases h.own.2 with ⟨e1, e2⟩ | ⟨g, cap, cur, e1, _, e3, _⟩
      · rw [e1] at hk; simp [Value.ownBlock] at hk
      · rw [e1] at hk
        simp [Value.ownBlock] at hk
        subst hk
        rw [e3] at hc
        simp only [Option.some.injEq, Obj.cells.injEq] at hc
        rw [← hc.2.1]
        decide

/-- A stream, its slices left open. -/
def Stm (w : World) (B S R n : Nat) (X : Int) (p : Nat) (os : List Int) (m : Int) : Prop := ∃ ao c v, IsS w B S R ao n c X p v os m

theorem Stm.drew {w : World} {B S R n : Nat} {X : Int} {p : Nat} {os : List Int} {m : Int} (h : Stm w B S R n X p os m) : Stm w.drew B S R n X p os m := by
  obtain ⟨ao, c, v, h⟩ := h
  exact ⟨ao, c, v, h.drew⟩

theorem Stm.bB {w : World} {B S R n : Nat} {X : Int} {p : Nat} {os : List Int} {m : Int} (h : Stm w B S R n X p os m) : B ≤ w.heap.size := by
  obtain ⟨ao, c, v, h⟩ := h
  exact h.bB

theorem Stm.keep {w w' : World} {B S R n : Nat} {X : Int} {p : Nat} {os : List Int} {m : Int} (h : Stm w B S R n X p os m) (hb : Below w.heap.size w w') : Stm w' B S R n X p os m := by
  obtain ⟨ao, c, v, h⟩ := h
  exact ⟨ao, c, v, h.keep hb⟩

theorem sget_any (B S R n : Nat) (X : Int) (p k : Nat) (os : List Int) (m : Int) (w : World) (h : Stm w B S R n X p os m) (hk : k ≤ 24) (hl : p + k ≤ 8 * n) :
    Calls Tryz.prog 60 #[.pointer (some ⟨S, 0, none⟩), .int .i64 k] w fun e w' => e = .returned (.tuple #[.int .i64 (X / 2 ^ p % 2 ^ k), .int .i64 0]) ∧ Stm w' B S R n X (p + k) os m ∧ Sw B w w' := by
  obtain ⟨ao, c, v, h⟩ := h
  have c0 := h.row.cell (i := 0) (by omega)
  simp only [scells] at c0
  go_enter Tryz.func60, Tryz.ntmps60
  go_wp2_with (go_at_call 87; refine (get_yes R ao n c X p k w h.rd hk hl).mono ?_; rintro e w1 ⟨rfl, hr, hf⟩)
  go_ret2
  obtain ⟨h1, h2⟩ := h.read hr hf
  exact ⟨rfl, ⟨ao, c, v, h1⟩, h2⟩

theorem smore_any (B S R n : Nat) (X : Int) (p k : Nat) (b : Int) (os : List Int) (m : Int) (w : World) (h : Stm w B S R n X p os m) (hk : k ≤ 24) (hl : p + k ≤ 8 * n) (hb0 : 0 ≤ b) (hb1 : b ≤ 1000000) :
    Calls Tryz.prog 127 #[.pointer (some ⟨S, 0, none⟩), .int .i64 b, .int .i64 k] w fun e w' => e = .returned (.tuple #[.int .i64 (b + X / 2 ^ p % 2 ^ k), .int .i64 0]) ∧ Stm w' B S R n X (p + k) os m ∧ Sw B w w' := by
  have l0 := mod_nn (X / 2 ^ p) k
  have l1 := mod_lt (X / 2 ^ p) k
  have l2 := p2_le k 24 hk
  have hc := sget_any B S R n X p k os m w h hk hl
  generalize X / 2 ^ p % 2 ^ k = u at *
  have hu : u < 16777216 := by omega
  clear l1 l2
  go_enter Tryz.func127, Tryz.ntmps127
  go_wp2_with (go_at_call 60; refine hc.mono ?_; rintro e w1 ⟨rfl, hr, hf⟩)
  go_ret2
  exact ⟨by go_num, hr, hf⟩

theorem snumber_any (B S R n : Nat) (X : Int) (p k : Nat) (b : Int) (os : List Int) (m : Int) (w : World) (h : Stm w B S R n X p os m) (hk : k ≤ 24) (hl : p + k ≤ 8 * n) (hb0 : 0 ≤ b) (hb1 : b ≤ 1000000) :
    Calls Tryz.prog 140 #[.pointer (some ⟨S, 0, none⟩), .int .i64 b, .int .i64 k, .bool true] w fun e w' => e = .returned (.tuple #[.int .i64 (b + X / 2 ^ p % 2 ^ k), .int .i64 0]) ∧ Stm w' B S R n X (p + k) os m ∧ Sw B w w' := by
  have hc := smore_any B S R n X p k b os m w h hk hl hb0 hb1
  go_enter Tryz.func140, Tryz.ntmps140
  go_wp2_with (go_at_call 127; refine hc.mono ?_; rintro e w1 ⟨rfl, hr, hf⟩)
  go_ret2
  exact ⟨rfl, hr, hf⟩

theorem slice_len {w : World} {base n : Nat} {v : Value} {xs : List Value} (h : w.ownsRow base 5 1 v n xs) : ∃ ao c, v = .slice ao n c := by
  rcases h.2 with ⟨rfl, rfl⟩ | ⟨g, cap, cur, rfl, _⟩
  · exact ⟨none, 0, rfl⟩
  · exact ⟨_, _, rfl⟩

theorem sput_no (B S R n : Nat) (X : Int) (p : Nat) (b : Int) (os : List Int) (m : Int) (w : World) (h : Stm w B S R n X p os m) (hl : m ≤ os.length) :
    Calls Tryz.prog 122 #[.pointer (some ⟨S, 0, none⟩), .int .u8 b] w fun e w' => e = .returned (.int .i64 5) ∧ Sw B w w' := by
  obtain ⟨ao, c, v, h⟩ := h
  have c1 := h.row.cell (i := 1) (by omega)
  have c2 := h.row.cell (i := 2) (by omega)
  obtain ⟨vo, vc, rfl⟩ := slice_len h.own
  simp only [scells] at c1 c2
  clear h
  generalize os.length = l at *
  have d : decide (m ≤ (l : Int)) = true := by simp; omega
  go_enter Tryz.func122, Tryz.ntmps122
  go_wp2_with fail
  go_region
  go_wp2
  go_ret
  exact ⟨rfl, (Sw.refl _ _).drew⟩

set_option maxRecDepth 100000 in
set_option maxHeartbeats 1000000 in
theorem sput_yes (B S R n : Nat) (X : Int) (p : Nat) (b : Int) (os : List Int) (m : Int) (w : World) (h : Stm w B S R n X p os m) (hl : os.length < m) (hL : os.length ≤ 1000000) (b0 : 0 ≤ b) (b1 : b < 256) :
    Calls Tryz.prog 122 #[.pointer (some ⟨S, 0, none⟩), .int .u8 b] w fun e w' => e = .returned (.int .i64 0) ∧ Stm w' B S R n X p (os ++ [b]) m ∧ Sw B w w' := by
  obtain ⟨ao, c, v, h⟩ := h
  obtain ⟨i0, hi, hz0, hz1, hz2⟩ := info_parts Tryz.info5
  have c1 := h.row.cell (i := 1) (by omega)
  have c2 := h.row.cell (i := 2) (by omega)
  obtain ⟨vo, vc, rfl⟩ := slice_len h.own
  simp only [scells] at c1 c2
  have hD := h.drew
  have d : decide (m ≤ ((os.length : Nat) : Int)) = false := by simp; omega
  have HS : Hid (IsS w.drew B S R ao n c X p (.slice vo os.length vc) os m) := hD
  clear h hD
  obtain ⟨l, hle⟩ : ∃ l, l = os.length := ⟨_, rfl⟩
  have HL : Hid (l = os.length) := hle
  rw [← hle] at c1 d hl hL
  clear hle
  go_enter Tryz.func122, Tryz.ntmps122
  go_wp2_with fail
  go_region
  go_wp2_with (at_builtin; refine wpList_append_lies _ rfl _ _ 22 rfl 0 5 i0 (.int .u8 0) 1 1 Tryz.underlying22 hi hz0 hz1 hz2 rfl (by decide) (.slice vo l vc) l (os.map (Value.int .u8)) rfl (by rw [HL.out]; exact HS.out.own.alloc _) ⟨w.heap.size, 0, none⟩ 1 1 [_] rfl rfl (cell_one_new _ _ _) (by intro u hu; simp at hu; subst hu; rfl) (by omega) (by unfold maxLen; omega) (by omega) (by omega) (w.heap.size + 1) (by simp) ?_; intro g c5 w5 o5 g5 l5 s5; rw [HL.out] at o5 g5 l5; have gg : (w.drew.alloc (Obj.cells #[Value.int IntKind.u8 b] 5)).grownBy w5 (Value.slice vo os.length vc).ownBlock := g5; have k0 := (s_after HS.out gg).cell (i := 1) (by omega); have k1 := (s_after HS.out gg).frozen 1; have HO : Hid (w5.ownsRow 0 5 1 (.slice (some ⟨g, 0, none⟩) (os.length + 1) c5) (os.length + 1) (os.map (Value.int .u8) ++ [.int .u8 b]) ∧ (w.drew.alloc (Obj.cells #[Value.int IntKind.u8 b] 5)).grownBy w5 (Value.slice vo os.length vc).ownBlock ∧ ((Value.slice vo os.length vc).ownBlock = some g ∨ g = w.drew.heap.size + 1)) := ⟨o5, gg, l5⟩; clear o5 g5 l5 s5 gg)
  go_ret
  obtain ⟨h1, h2⟩ := s_pushed HS.out b0 b1 HO.out.1 HO.out.2.1 HO.out.2.2
  rw [HL.out]
  exact ⟨rfl, ⟨_, _, _, h1⟩, (Sw.refl B w).drew.trans h2⟩

end Go.Proofs.YtiahbicodlgmhaaGreatDoor

/- math/bits.Mul64 and Mul of 1 and a small number. -/
namespace Go.Proofs.YtiahbicodlgmhaaGreatDoor
open Go.RowKit

theorem mul64_one (n : Nat) (w : World) (h : n ≤ 1000000) : Calls Tryz.prog 142 #[.int .u64 1, .int .u64 n] w fun e w' => e = .returned (.tuple #[.int .u64 0, .int .u64 n]) ∧ w' = w := by
  have e1 : bits .and .u64 1 4294967295 = 1 := by decide
  have e2 : bits .and .u64 (n : Int) 4294967295 = n := by
    have := bits_mask .u64 64 (by decide) wraps_u64 32 (by decide) (n : Int) (by omega) (by omega)
    rw [show (4294967295 : Int) = 2 ^ 32 - 1 from rfl, this]
    omega
  have e3 : bits .and .u64 0 4294967295 = 0 := by decide
  have e4 : (n : Int) / 4294967296 = 0 := by omega
  have e5 : (n : Int) / 2 ^ 32 = 0 := by omega
  have e6 : IntKind.u64.wrap (n : Int) = n := wraps_u64 _ (by omega) (by omega)
  go_enter Tryz.func142, Tryz.ntmps142
  go_wp2
  go_ret2
  exact ⟨rfl, rfl⟩

theorem mul_one (n : Nat) (w : World) (h : n ≤ 1000000) : Calls Tryz.prog 126 #[.int .u64 1, .int .u64 n] w fun e w' => e = .returned (.tuple #[.int .u64 0, .int .u64 n]) ∧ w' = w := by
  have e6 : IntKind.u64.wrap (n : Int) = n := wraps_u64 _ (by omega) (by omega)
  go_enter Tryz.func126, Tryz.ntmps126
  go_wp2_with (go_at_call 142; refine (mul64_one n w h).mono ?_; rintro e w1 ⟨rfl, hw⟩; subst w1)
  go_ret2
  exact ⟨rfl, rfl⟩

end Go.Proofs.YtiahbicodlgmhaaGreatDoor
