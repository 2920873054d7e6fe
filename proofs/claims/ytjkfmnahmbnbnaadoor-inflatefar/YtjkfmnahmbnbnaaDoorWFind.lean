/- find, Next. -/
import Derived.Test.YtjkfmnahmbnbnaaDoorWNews
import Derived.Test.YtjkfmnahmbnbnaaDoorWHelp
namespace Go.Proofs.YtjkfmnahmbnbnaaDoor
open Go.RowKit

theorem wpList_max {ops : Array Oper} {rest : List Oper} {op : Oper} {a : Act} {w : World} {Q : Exit → Act → World → Prop} (hgd : op.guard = none) (x y : Operand) (ho : op.op = .call { callee := .builtin .max, args := #[x, y], argTypes := #[3, 3] })
    (p q : Int) (hx : a.eval x = .int .i64 p) (hy : a.eval y = .int .i64 q) (ht : op.type = 3) (r : Int) (hr : r = max p q)
    (hk : wpList Tryd.prog ops Q rest (a.put op.dst (.int .i64 r)) w) : wpList Tryd.prog ops Q (op :: rest) a w := by
  refine wpList_plain hgd fun K hK => ?_
  have hk' := hK _ _ hk
  subst hr
  unfold Oper.wp
  have hm : (Builtin.max2 (.int .i64 p) (.int .i64 q)).run Tryd.prog w = .ok (.int .i64 (max p q)) w := by
    by_cases h : q < p
    · rw [show max p q = p by omega]
      simp [Builtin.max2, go_sem]; omega
    · rw [show max p q = q by omega]
      simp [Builtin.max2, go_sem]; omega
  simp [execOp, ho, resolve, invoke, builtin, hx, hy, ht, Builtin.max_, hm, Result.andThen]
  exact hk'

theorem or_bit (v b : Int) (h0 : 0 ≤ v) (h1 : v < 65536) (hb : b = 0 ∨ b = 1) : bits .or .i64 (wrap64 (v * 2)) b = 2 * v + b := by
  rw [or_comm', show v * 2 = v * 2 ^ 1 from rfl, i64_put 1 16 _ _ (by omega) (by omega) h0 (by omega) (by omega)]
  omega

theorem cc_first (ls cs sy : Value) (C F : Nat → Int) (dp : Int) (k : Nat) (h : k < 16) : ccells ls cs sy C F dp (18 + k) = .int .i64 (F k) := by
  unfold ccells
  rw [if_neg (by omega), if_neg (by omega), if_neg (by omega), if_pos (by omega), show 18 + k - 18 = k by omega]

theorem cc_count (ls cs sy : Value) (C F : Nat → Int) (dp : Int) (k : Nat) (h : k < 16) : ccells ls cs sy C F dp (2 + k) = .int .i64 (C k) := by
  unfold ccells
  rw [if_neg (by omega), if_neg (by omega), if_pos (by omega), show 2 + k - 2 = k by omega]

/-- Block R is a code of these n lengths, as far as reading asks. -/
structure IsD (w : World) (R : Nat) (L : Nat → Int) (n : Nat) (la : Option Addr) (lc cg sg : Nat) (sy : Nat → Int) (M dp : Nat) : Prop where
  row : w.rowIs R 102 36 (ccells (.slice la n lc) (.slice (some ⟨cg, 0, none⟩) n n) (.slice (some ⟨sg, 0, none⟩) M M) (C L n) (F L n) dp)
  rs : w.rowIs sg 3 M (fun j => .int .i64 (sy j))
  sym : Sym L n n sy
  m : pl L n 16 = M
  dp15 : dp ≤ 15
  dpx : ∀ j, j < n → L j ≤ dp
  dpe : dp = 0 ∨ ∃ j, j < n ∧ L j = dp
  ok : er L n = 0

/-- Block R is a code of these n lengths. -/
def Cd (w : World) (R : Nat) (L : Nat → Int) (n : Nat) : Prop := ∃ la lc cg sg sy M dp, IsD w R L n la lc cg sg sy M dp

theorem IsC.cd {w : World} {R K : Nat} {L : Nat → Int} {n : Nat} {la : Option Addr} {lc cg sg : Nat} {sy : Nat → Int} {M dp : Nat} (h : IsC w R K L n la lc cg sg sy M dp) : Cd w R L n :=
  ⟨la, lc, cg, sg, sy, M, dp, ⟨h.row, h.rs, h.sym, h.m, h.dp15, h.dpx, h.dpe, h.ok⟩⟩

theorem IsD.fr {P : Nat → Prop} {w w' : World} {R : Nat} {L : Nat → Int} {n : Nat} {la : Option Addr} {lc cg sg : Nat} {sy : Nat → Int} {M dp : Nat} (h : IsD w R L n la lc cg sg sy M dp) (hf : Fr P w w') (h1 : ¬ P R) (h2 : ¬ P sg) : IsD w' R L n la lc cg sg sy M dp :=
  ⟨rowIs_fr h.row hf h1, rowIs_fr h.rs hf h2, h.sym, h.m, h.dp15, h.dpx, h.dpe, h.ok⟩

/-- Blocks of unlike types are two. -/
theorem rowIs_ne {w : World} {a b t t' n n' : Nat} {f g : Nat → Value} (h : w.rowIs a t n f) (k : w.rowIs b t' n' g) (ht : t ≠ t') : a ≠ b := by
  rintro rfl
  obtain ⟨c, h1, _⟩ := h
  obtain ⟨c', h2, _⟩ := k
  rw [h1] at h2
  simp at h2
  exact ht h2.2

/-- Where the walk down a code stands. -/
structure At (L : Nat → Int) (n : Nat) (X : Int) (nb p mx k : Nat) (v : Int) : Prop where
  k1 : 1 ≤ k
  v0 : G L (k - 1) n ≤ v
  v1 : v < 2 ^ (k - 1)
  go : ∀ s g q, Nx L n X nb (16 - k) k v (p + (k - 1)) s g q → Nx L n X nb 15 1 0 p s g q
  le : k ≤ mx
  m15 : mx ≤ 15

theorem At.short {L : Nat → Int} {n : Nat} {X : Int} {nb p mx k : Nat} {v : Int} (h : At L n X nb p mx k v) (hs : 8 * nb < p + (k - 1) + 1) : Nx L n X nb 15 1 0 p 0 3 (p + (k - 1)) := by
  refine h.go _ _ _ ?_
  have := h.le
  have := h.m15
  rw [show 16 - k = (15 - k) + 1 by omega]
  simp only [Nx]
  exact Or.inl ⟨hs, trivial, trivial, trivial⟩

theorem At.hit {L : Nat → Int} {n : Nat} {X : Int} {nb p mx k : Nat} {v : Int} (h : At L n X nb p mx k v) (hs : p + (k - 1) + 1 ≤ 8 * nb) (i : Nat) (hi : Hit L n k (2 * v + X / 2 ^ (p + (k - 1)) % 2) i) : Nx L n X nb 15 1 0 p i 0 (p + (k - 1) + 1) := by
  refine h.go _ _ _ ?_
  have := h.le
  have := h.m15
  rw [show 16 - k = (15 - k) + 1 by omega]
  simp only [Nx]
  exact Or.inr (Or.inl ⟨hs, i, hi, rfl, trivial, trivial⟩)

theorem no_hit {L : Nat → Int} {n k : Nat} {v : Int} (hk : 0 < k) (h : G L k n ≤ v) : ∀ i, ¬ Hit L n k v i := by
  rintro i ⟨h1, h2, h3⟩
  have := (cd_between L n i k h1 h2 hk).2
  omega

theorem At.last {L : Nat → Int} {n : Nat} {X : Int} {nb p mx k : Nat} {v : Int} (h : At L n X nb p mx k v) (hs : p + (k - 1) + 1 ≤ 8 * nb) (hno : ∀ i, ¬ Hit L n k (2 * v + X / 2 ^ (p + (k - 1)) % 2) i) (hl : ∀ i, i < n → ¬ (k : Int) < L i) : Nx L n X nb 15 1 0 p 0 2 (p + (k - 1) + 1) := by
  refine h.go _ _ _ ?_
  have := h.le
  have := h.m15
  rw [show 16 - k = (15 - k) + 1 by omega]
  simp only [Nx]
  exact Or.inr (Or.inr (Or.inl ⟨hs, hno, hl, trivial, trivial, trivial⟩))

theorem At.next {L : Nat → Int} {n : Nat} {X : Int} {nb p mx k : Nat} {v : Int} (h : At L n X nb p mx k v) (hs : p + (k - 1) + 1 ≤ 8 * nb) (hG : G L k n ≤ 2 * v + X / 2 ^ (p + (k - 1)) % 2) (hk : k < mx) (hl : ∃ i, i < n ∧ (k : Int) < L i) : At L n X nb p mx (k + 1) (2 * v + X / 2 ^ (p + (k - 1)) % 2) := by
  have h1 := h.k1
  have h2 := h.v1
  have hb : 0 ≤ X / 2 ^ (p + (k - 1)) % 2 ∧ X / 2 ^ (p + (k - 1)) % 2 < 2 := by omega
  refine ⟨by omega, by rw [show k + 1 - 1 = k by omega]; exact hG, ?_, fun s g q hn => h.go _ _ _ ?_, by omega, h.m15⟩
  · rw [show k + 1 - 1 = (k - 1) + 1 by omega, Int.pow_succ]
    omega
  · have := h.m15
    rw [show 16 - k = (16 - (k + 1)) + 1 by omega]
    simp only [Nx]
    rw [show p + (k + 1 - 1) = p + (k - 1) + 1 by omega] at hn
    exact Or.inr (Or.inr (Or.inr ⟨hs, no_hit h1 hG, hl, hn⟩))

theorem get_short (R : Nat) (ao : Option Addr) (n c : Nat) (X : Int) (p : Nat) (w : World) (h : IsR w R ao n c X p) (hs : 8 * n < p + 1) :
    Calls Tryd.prog 37 #[.pointer (some ⟨R, 0, none⟩), .int .i64 1] w fun e w' => e = .returned (.tuple #[.int .i64 0, .bool false]) ∧ IsR w' R ao n c X p ∧ Fr (fun k => k = R) w w' := by
  refine (get_no R ao n c X p 1 w h (by omega)).mono ?_
  rintro e w' ⟨rfl, hw | hw⟩
  · subst hw; exact ⟨rfl, h, Fr.refl _ _⟩
  · subst hw; exact ⟨rfl, h.drew, (Fr.refl _ _).drew⟩

set_option maxRecDepth 100000 in
set_option maxHeartbeats 2000000 in
theorem find_any (R : Nat) (L : Nat → Int) (n : Nat) (Q : Nat) (ao : Option Addr) (nb c : Nat) (X : Int) (p : Nat) (w : World) (hC : Cd w R L n) (hR : IsR w Q ao nb c X p) :
    Calls Tryd.prog 57 #[.pointer (some ⟨R, 0, none⟩), .func (.func 37) #[.pointer (some ⟨Q, 0, none⟩)] #[]] w fun e w' => ∃ s g q, e = .returned (.tuple #[.int .i64 s, .int .i64 g]) ∧ Nx L n X nb 15 1 0 p s g q ∧ IsR w' Q ao nb c X q ∧ Fr (fun k => k = Q) w w' := by
  obtain ⟨la, lc, cg, sg, sy, M, dp, hC⟩ := hC
  obtain ⟨h288, hL, hf⟩ := er_zero L n hC.ok
  have hRQ := rowIs_ne hC.row hR.row (by decide)
  have hsQ := rowIs_ne hC.rs hR.row (by decide)
  obtain ⟨mx, hmx⟩ : ∃ mx : Nat, mx = max dp 1 := ⟨_, rfl⟩
  have hm15 : mx ≤ 15 := by have := hC.dp15; omega
  have h0 : At L n X nb p mx 1 0 := ⟨by omega, by rw [show 1 - 1 = 0 from rfl, G_zero]; omega, by simp, fun s g q h => by simpa using h, by omega, hm15⟩
  go_enter Tryd.func57, Tryd.ntmps57
  go_wp2
  go_loopw [6, 7, 8, 9, 10, 11] (fun cv sv kv _ _ _ wr => ∃ (k : Nat) (v : Int), kv = .int .i64 k ∧ cv = .int .i64 v ∧ sv = .int .i64 (pl L n k) ∧ k ≤ mx + 1 ∧ 1 ≤ k ∧ (At L n X nb p mx k v ∨ (k = mx + 1 ∧ Nx L n X nb 15 1 0 p 0 2 (p + (k - 1)))) ∧ IsR wr Q ao nb c X (p + (k - 1)) ∧ Fr (fun k => k = Q) w wr) (fun _ _ kv _ _ _ _ => 17 - (intOf kv).toNat)
  case atStart => exact ⟨1, 0, rfl, rfl, by simp [pl, C], by omega, by omega, .inl h0, hR, Fr.refl _ _⟩
  case round =>
    obtain ⟨k, v, rfl, rfl, rfl, hk, hk1, hat, hr, fr⟩ := hrel
    clear h0 hR
    have hC1 := hC.fr fr hRQ hsQ
    have c35 := hC1.row.cell (i := 35) (by omega)
    rw [show ccells (.slice la n lc) (.slice (some ⟨cg, 0, none⟩) n n) (.slice (some ⟨sg, 0, none⟩) M M) (C L n) (F L n) dp 35 = .int .i64 dp from rfl] at c35
    by_cases hkm : k ≤ mx
    · have hA : At L n X nb p mx k v := by
        rcases hat with h | h
        · exact h
        · omega
      clear hat
      have cF := hC1.row.cell (i := 18 + k) (by omega)
      rw [cc_first _ _ _ _ _ _ _ (by omega)] at cF
      have cC := hC1.row.cell (i := 2 + k) (by omega)
      rw [cc_count _ _ _ _ _ _ _ (by omega)] at cC
      have HMX : Hid ((mx : Int) = max (dp : Int) 1) := by
        have : (mx : Int) = max (dp : Int) 1 := by omega
        exact this
      have HC : Hid (∀ wz, Fr (fun k => k = Q) w wz → IsD wz R L n la lc cg sg sy M dp) := fun wz fz => hC.fr fz hRQ hsQ
      have HL : Hid (∀ j, j < n → Lm (L j)) := hL
      have HDP : Hid ((∀ j, j < n → L j ≤ dp) ∧ (dp = 0 ∨ ∃ j, j < n ∧ L j = dp) ∧ mx = max dp 1) := ⟨hC.dpx, hC.dpe, hmx⟩
      have HA : Hid (At L n X nb p mx k v) := hA
      have HF : Hid (Fits L n) := hf
      have HR : Hid (Fr (fun k => k = Q) w wr) := fr
      clear hC hC1 hmx hf hL hA fr cF cC
      by_cases hs : 8 * nb < p + (k - 1) + 1
      · go_wp2_with (first
          | (refine wpList_max rfl _ _ rfl (dp : Int) 1 rfl rfl rfl (mx : Int) HMX.out ?_)
          | (go_at_call 37; refine (get_short Q ao nb c X _ wr hr hs).mono ?_; rintro e w3 ⟨rfl, r3, f3⟩))
        go_ret2
        exact ⟨0, 3, _, rfl, HA.out.short hs, r3, HR.out.trans f3 (fun _ _ e => e)⟩
      · have hs' : p + (k - 1) + 1 ≤ 8 * nb := by omega
        clear hs
        have hv0 : 0 ≤ v := Int.le_trans (G_nn _ _ _) HA.out.v0
        have hv1 : v < 65536 := by
          have h1 := HA.out.v1
          have h2 := p2_le (k - 1) 15 (by omega)
          have h3 : (2 : Int) ^ 15 = 32768 := rfl
          omega
        obtain ⟨b, hb⟩ : ∃ b, b = X / 2 ^ (p + (k - 1)) % 2 := ⟨_, rfl⟩
        have hb01 : b = 0 ∨ b = 1 := by omega
        have HBt : Hid (b = X / 2 ^ (p + (k - 1)) % 2) := hb
        have HO : Hid (bits .or .i64 (wrap64 (v * 2)) b = 2 * v + b) := or_bit v b hv0 hv1 hb01
        have hge : F L n k ≤ 2 * v + b := by
          obtain ⟨m, rfl⟩ : ∃ m, k = m + 1 := ⟨k - 1, by omega⟩
          have := HA.out.v0
          simp only [F]
          simp only [Nat.add_sub_cancel] at this
          omega
        have bF := F_small L n k HF.out (by omega)
        have bC := C_nn L n k
        have bP : 0 ≤ pl L n k ∧ pl L n k ≤ 16 * 288 := by
          have h1 := pl_nn L n k
          have := Int.mul_le_mul (show (k : Int) ≤ 16 by omega) (show (n : Int) ≤ 288 by omega) (by omega) (by omega)
          omega
        go_wp2_with (refine wpList_max rfl _ _ rfl (dp : Int) 1 rfl rfl rfl (mx : Int) HMX.out ?_)
        refine (get_yes Q ao nb c X (p + (k - 1)) 1 wr hr (by omega) hs').mono ?_
        rintro e w3 ⟨rfl, r3, f3⟩
        have F3 := HR.out.trans f3 (fun _ _ e => e)
        have hC3 := HC.out w3 F3
        have cF := hC3.row.cell (i := 18 + k) (by omega)
        rw [cc_first _ _ _ _ _ _ _ (by omega)] at cF
        have cC := hC3.row.cell (i := 2 + k) (by omega)
        rw [cc_count _ _ _ _ _ _ _ (by omega)] at cC
        have c34 := hC3.row.cell (i := 34) (by omega)
        rw [show ccells (.slice la n lc) (.slice (some ⟨cg, 0, none⟩) n n) (.slice (some ⟨sg, 0, none⟩) M M) (C L n) (F L n) dp 34 = .slice (some ⟨sg, 0, none⟩) M M from rfl] at c34
        rw [show X / 2 ^ (p + (k - 1)) % 2 ^ 1 = b from hb.symm]
        clear hr c35 f3 hb
        have HO' : bits .or .i64 (v * 2) b = 2 * v + b := by
          rw [← HO.out, IntWalk.wrap64_in (v * 2) (by omega)]
        have hvb : 0 ≤ 2 * v + b ∧ 2 * v + b < 140000 := by omega
        obtain ⟨v', hv'⟩ : ∃ v', v' = 2 * v + b := ⟨_, rfl⟩
        rw [← hv'] at HO' hge hvb
        have HV : Hid (v' = 2 * v + b) := hv'
        clear hv' HO
        by_cases hlt : v' - F L n k < C L n k
        · obtain ⟨r, hr⟩ := Int.eq_ofNat_of_zero_le (show 0 ≤ v' - F L n k by omega)
          obtain ⟨i, hi, hLi, hci⟩ := cn_find L k n r (by omega) (by rw [← C_pos L n k (by omega)]; omega)
          have hnb := nb_at L (pl L n) i k hLi (by omega)
          rw [C_pos L i k (by omega), hci] at hnb
          have hlb := nbp_lt L n i hi (by omega) (HL.out i hi).2
          have hsy := hC3.sym i hi (by omega)
          rw [hnb] at hlb hsy
          obtain ⟨y, hy⟩ := Int.eq_ofNat_of_zero_le hlb.1
          have hyM : y < M := by have := hlb.2; rw [hC3.m] at this; omega
          rw [hy, Int.toNat_natCast] at hsy
          have cS := hC3.rs.cell (i := y) hyM
          rw [hsy] at cS
          have HH : Hid (Hit L n k (2 * v + X / 2 ^ (p + (k - 1)) % 2) i) := by
            refine ⟨hi, hLi, ?_⟩
            rw [cd_low L n i k hLi (by omega), hci, ← hr, ← HBt.out, ← HV.out]
            omega
          have hrC : (r : Int) < C L n k := by omega
          clear hnb hlb hsy hC3 hlt hLi hci
          go_wp2
          go_ret2
          exact ⟨i, 0, _, rfl, HA.out.hit hs' i HH.out, r3, F3⟩
        · have hG : G L k n ≤ 2 * v + X / 2 ^ (p + (k - 1)) % 2 := by
            rw [← HBt.out, ← HV.out, ← FC]
            omega
          have HG : Hid (G L k n ≤ 2 * v + X / 2 ^ (p + (k - 1)) % 2) := hG
          have HS : Hid (pl L n (k + 1) = pl L n k + C L n k) := rfl
          have hlt2 : C L n k ≤ v' - F L n k := by omega
          clear hG hC3 c34 hlt
          go_wp2
          go_roundw
          case rel =>
            refine ⟨k + 1, v', by go_num, rfl, by rw [HS.out], by omega, by omega, ?_, ?_, F3⟩
            · rw [HV.out, HBt.out]
              by_cases hlast : k = mx
              · refine .inr ⟨by omega, ?_⟩
                rw [show p + (k + 1 - 1) = p + (k - 1) + 1 by omega]
                refine HA.out.last hs' (no_hit (by omega) HG.out) (fun i hi => ?_)
                have h1 := HDP.out.1 i hi
                have h2 := HDP.out.2.2
                omega
              · refine .inl (HA.out.next hs' HG.out (by omega) ?_)
                have h2 := HDP.out.2.2
                rcases HDP.out.2.1 with h3 | ⟨j, hj, hl⟩
                · omega
                · exact ⟨j, hj, by omega⟩
            · rw [show p + (k + 1 - 1) = p + (k - 1) + 1 by omega]
              exact r3
          case measure => simp [intOf]; omega
    · have hfin : Nx L n X nb 15 1 0 p 0 2 (p + (k - 1)) := by
        rcases hat with h | h
        · have := h.le; omega
        · exact h.2
      have HMX : Hid ((mx : Int) = max (dp : Int) 1) := by
        have : (mx : Int) = max (dp : Int) 1 := by omega
        exact this
      have hkm' : mx < k := by omega
      clear hat hC hC1 hmx hf hL
      go_wp2_with (refine wpList_max rfl _ _ rfl (dp : Int) 1 rfl rfl rfl (mx : Int) HMX.out ?_)
      go_ret2
      exact ⟨0, 2, _, rfl, hfin, hr, fr⟩

theorem next_any (R : Nat) (L : Nat → Int) (n : Nat) (Q : Nat) (ao : Option Addr) (nb c : Nat) (X : Int) (p : Nat) (w : World) (hC : Cd w R L n) (hR : IsR w Q ao nb c X p) :
    Calls Tryd.prog 41 #[.pointer (some ⟨R, 0, none⟩), .pointer (some ⟨Q, 0, none⟩)] w fun e w' => ∃ s g q, e = .returned (.tuple #[.int .i64 s, .int .i64 g]) ∧ Nx L n X nb 15 1 0 p s g q ∧ IsR w' Q ao nb c X q ∧ Fr (fun k => k = Q) w w' := by
  go_enter Tryd.func41, Tryd.ntmps41
  go_wp2_with (go_at_call 57; refine (find_any R L n Q ao nb c X p w hC hR).mono ?_; rintro e w1 ⟨s, g, q, rfl, h1, h2, h3⟩)
  go_ret2
  exact ⟨s, g, q, rfl, h1, h2, h3⟩

theorem new_cd (ao : Option Addr) (n c : Nat) (L : Nat → Int) (half : Bool) (w : World) (h : Ri w ao n c L) (hn : nw L n half = 0) :
    Calls Tryd.prog 39 #[.slice ao n c, .bool half] w fun e w' => ∃ R, e = .returned (.tuple #[.pointer (some ⟨R, 0, none⟩), .int .i64 0]) ∧ Cd w' R L n ∧ Below w.heap.size w w' := by
  refine (new_yes ao n c L half w h hn).mono ?_
  rintro e w' ⟨R, K, rfl, ⟨la, lc, cg, sg, sy, M, dp, hC⟩, hb⟩
  exact ⟨R, rfl, hC.cd, hb⟩

end Go.Proofs.YtjkfmnahmbnbnaaDoor
