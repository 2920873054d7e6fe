/- ZCut, ZEnc, ZHd, ZCuts. -/
import Derived.Test.YtiahbicodlgmhaaGreatDoorM32
import Derived.Test.YtiahbicodlgmhaaGreatDoorM31
/- Bits that end too early. -/
namespace Go.Proofs.YtiahbicodlgmhaaGreatDoor.Z
open Go.RowKit

/-- Fields of which not all are there. -/
structure Cut (X : Int) (n p : Nat) (l : List Fd) : Prop where
  lay : ∃ n', Lay X n' p l
  ge : p ≤ 8 * n
  sh : 8 * n < p + fb l

theorem Cut.head {X : Int} {n p : Nat} {x : Fd} {l : List Fd} (h : Cut X n p (x :: l)) : X / 2 ^ p % 2 ^ x.2 = x.1 ∧ (8 * n < p + x.2 ∨ (p + x.2 ≤ 8 * n ∧ Cut X n (p + x.2) l)) := by
  obtain ⟨⟨n', h1⟩, h2, h3⟩ := h
  obtain ⟨a, _, b⟩ := h1.head
  refine ⟨a, ?_⟩
  by_cases hc : 8 * n < p + x.2
  · exact .inl hc
  · exact .inr ⟨by omega, ⟨n', b⟩, by omega, by simp only [fb] at h3; omega⟩

theorem Cut.app {X : Int} {n p : Nat} {a b : List Fd} (h : Cut X n p (a ++ b)) : Cut X n p a ∨ (Lay X n p a ∧ Cut X n (p + fb a) b) := by
  obtain ⟨⟨n', h1⟩, h2, h3⟩ := h
  rw [fb_app] at h3
  by_cases hc : 8 * n < p + fb a
  · exact .inl ⟨⟨n', h1.front⟩, h2, hc⟩
  · exact .inr ⟨⟨h1.front.ft, by omega, h1.front.is⟩, ⟨n', h1.tail⟩, by omega, by omega⟩

theorem Nx.cut {L : Nat → Int} {m : Nat} {X : Int} {nb nb' : Nat} : ∀ {f n : Nat} {v : Int} {p : Nat} {s' s g : Int} {q' q : Nat}, Nx L m X nb' f n v p s' 0 q' → 8 * nb < q' → Nx L m X nb f n v p s g q → g = 3 ∧ s = 0 := by
  intro f
  induction f with
  | zero =>
    intro n v p s' s g q' q h _ _
    simp only [Nx] at h
    omega
  | succ f ih =>
    intro n v p s' s g q' q h hq k
    simp only [Nx] at h k
    rcases k with ⟨_, rfl, rfl, _⟩ | ⟨k1, i, k2, _⟩ | ⟨k1, k2, k3, _⟩ | ⟨k1, k2, k3, k4⟩
    · exact ⟨rfl, rfl⟩
    · rcases h with ⟨_, _, h3, _⟩ | ⟨h1, j, h2, _, _, h3⟩ | ⟨h1, h2, _⟩ | ⟨h1, h2, _⟩
      · omega
      · omega
      · exact absurd k2 (h2 i)
      · exact absurd k2 (h2 i)
    · rcases h with ⟨_, _, h3, _⟩ | ⟨h1, j, h2, _⟩ | ⟨h1, h2, _, _, h3, _⟩ | ⟨h1, h2, ⟨i, h3, h4⟩, _⟩
      · omega
      · exact absurd h2 (k2 j)
      · omega
      · exact absurd h4 (k3 i h3)
    · rcases h with ⟨_, _, h3, _⟩ | ⟨h1, j, h2, _⟩ | ⟨h1, h2, _, _, h3, _⟩ | ⟨h1, h2, _, h4⟩
      · omega
      · exact absurd h2 (k2 j)
      · omega
      · exact ih h4 hq k4

theorem nx_cut {L : Nat → Int} {m : Nat} {X : Int} {nb p i x : Nat} {s g : Int} {q : Nat} (hf : Fits L m) (hi : i < m) (hx : L i = x) (hx0 : 0 < x) (hx15 : x ≤ 15) (hp : 8 * nb < p + x) (hb : X / 2 ^ p % 2 ^ x = T (cd L m i) x) (hN : Nx L m X nb 15 1 0 p s g q) : g = 3 ∧ s = 0 := by
  have hbit : ∀ j, j < x → X / 2 ^ (p + j) % 2 = cd L m i / 2 ^ (x - 1 - j) % 2 := fun j hj => by
    have e := Int.emod_add_mul_ediv (X / 2 ^ p) (2 ^ x)
    have h2 : X / 2 ^ p / 2 ^ j % 2 ^ 1 = (X / 2 ^ p % 2 ^ x) / 2 ^ j % 2 ^ 1 := by
      conv => lhs; rw [← e]
      exact put_low _ _ j x 1 (by omega)
    rw [hb, div_div] at h2
    rw [← T_bit (cd L m i) x j hj]
    exact h2
  have h2 := Nx.code (L := L) (m := m) (X := X) (nb := nb + p + x) (i := i) (N := x) (p := p) hi hx (by omega) hbit (x - 1) 15 1 (by omega) (by omega) (by omega)
  have hc := cd_lt L m i x hf hi hx hx0 hx15
  rw [show x - 1 + 1 = x by omega, Int.ediv_eq_zero_of_lt hc.1 hc.2, show p + (1 - 1) = p by omega] at h2
  exact Nx.cut h2 hp hN

theorem sget_no (B S R n : Nat) (X : Int) (p k : Nat) (os : List Int) (m : Int) (w : World) (h : Stm w B S R n X p os m) (hl : 8 * n < p + k) :
    Calls Tryz.prog 60 #[.pointer (some ⟨S, 0, none⟩), .int .i64 k] w fun e w' => e = .returned (.tuple #[.int .i64 0, .int .i64 3]) ∧ Sw B w w' := by
  obtain ⟨ao, c, v, h⟩ := h
  have c0 := h.row.cell (i := 0) (by omega)
  simp only [scells] at c0
  go_enter Tryz.func60, Tryz.ntmps60
  go_wp2_with (go_at_call 87; refine (get_no R ao n c X p k w h.rd (by omega)).mono ?_; rintro e w1 ⟨rfl, hw⟩)
  go_ret2
  refine ⟨rfl, ?_⟩
  rcases hw with rfl | rfl
  · exact Sw.refl _ _
  · exact (Sw.refl _ _).drew

theorem smore_no (B S R n : Nat) (X : Int) (p k : Nat) (b : Int) (os : List Int) (m : Int) (w : World) (h : Stm w B S R n X p os m) (hl : 8 * n < p + k) :
    Calls Tryz.prog 127 #[.pointer (some ⟨S, 0, none⟩), .int .i64 b, .int .i64 k] w fun e w' => e = .returned (.tuple #[.int .i64 0, .int .i64 3]) ∧ Sw B w w' := by
  have hc := sget_no B S R n X p k os m w h hl
  clear hl h
  go_enter Tryz.func127, Tryz.ntmps127
  go_wp2_with (go_at_call 60; refine hc.mono ?_; rintro e w1 ⟨rfl, hf⟩)
  go_ret2
  exact ⟨rfl, hf⟩

theorem snumber_no (B S R n : Nat) (X : Int) (p k : Nat) (b : Int) (os : List Int) (m : Int) (w : World) (h : Stm w B S R n X p os m) (hl : 8 * n < p + k) :
    Calls Tryz.prog 140 #[.pointer (some ⟨S, 0, none⟩), .int .i64 b, .int .i64 k, .bool true] w fun e w' => e = .returned (.tuple #[.int .i64 0, .int .i64 3]) ∧ Sw B w w' := by
  have hc := smore_no B S R n X p k b os m w h hl
  clear hl h
  go_enter Tryz.func140, Tryz.ntmps140
  go_wp2_with (go_at_call 127; refine hc.mono ?_; rintro e w1 ⟨rfl, hf⟩)
  go_ret2
  exact ⟨rfl, hf⟩

theorem scount_no (B S R n : Nat) (X : Int) (p k : Nat) (least most : Int) (os : List Int) (m : Int) (w : World) (h : Stm w B S R n X p os m) (hl : 8 * n < p + k) :
    Calls Tryz.prog 94 #[.pointer (some ⟨S, 0, none⟩), .int .i64 k, .int .i64 least, .int .i64 most] w fun e w' => e = .returned (.tuple #[.int .i64 0, .int .i64 3]) ∧ Sw B w w' := by
  have hc := smore_no B S R n X p k least os m w h hl
  clear hl h
  go_enter Tryz.func94, Tryz.ntmps94
  go_wp2_with (go_at_call 127; refine hc.mono ?_; rintro e w1 ⟨rfl, hf⟩)
  go_ret2
  exact ⟨rfl, hf⟩

theorem snext_no (B S R n : Nat) (X : Int) (p : Nat) (os : List Int) (m : Int) (D : Nat) (L : Nat → Int) (mL i x : Nat) (w : World) (h : Stm w B S R n X p os m) (hD : Cd w D L mL) (hf : Fits L mL) (hi : i < mL) (hx : L i = x) (hx0 : 0 < x) (hx15 : x ≤ 15) (hp : 8 * n < p + x) (hb : X / 2 ^ p % 2 ^ x = T (cd L mL i) x) :
    Calls Tryz.prog 91 #[.pointer (some ⟨D, 0, none⟩), .pointer (some ⟨R, 0, none⟩)] w fun e w' => e = .returned (.tuple #[.int .i64 0, .int .i64 3]) ∧ Sw B w w' := by
  obtain ⟨ao, c, v, h⟩ := h
  refine (next_any D L mL R ao n c X p w hD h.rd).mono ?_
  rintro e w' ⟨s, g, q, rfl, hN, hr, hfr⟩
  obtain ⟨rfl, rfl⟩ := nx_cut hf hi hx hx0 hx15 hp hb hN
  obtain ⟨h1, h2⟩ := h.read hr hfr
  exact ⟨rfl, h2⟩

set_option maxRecDepth 100000 in
set_option maxHeartbeats 2000000 in
theorem srepeat_no (L : Nat → Int) (mA : Nat) (B S R n : Nat) (X : Int) (p : Nat) (os : List Int) (m : Nat) (Dd : Nat → Int) (mD : Nat) (D s v t u : Nat) (w : World) (h : Stm w B S R n X p os m) (hD : Cd w D Dd mD) (hfD : Fits Dd mD) (hok : It.okG L mA Dd mD (.cpy s v t u)) (hl : Cut X n p [((v : Int), lx s), gf Dd mD t, ((u : Int), dx t)]) :
    Calls Tryz.prog 123 #[.pointer (some ⟨S, 0, none⟩), .int .i64 s, .func (.func 91) #[.pointer (some ⟨D, 0, none⟩)] #[]] w fun e w' => e = .returned (.int .i64 3) ∧ Sw B w w' := by
  obtain ⟨hs0, hs1, _, _, _, hv, ht, htD, hd0', hd15, hu⟩ := hok
  have bl := lb_le s (by omega) hs0
  have bd := db_le t ht
  obtain ⟨e1, q1 | ⟨p1, hl1⟩⟩ := hl.head
  · have hn := snumber_no B S R n X p (lx s) (lb s) os m w h q1
    clear h hl hD e1 q1 hv hu
    go_enter Tryz.func123, Tryz.ntmps123
    go_wp2_with (first
      | (go_at_call 99; refine (length_yes s w hs0 hs1).mono ?_; rintro e w0 ⟨rfl, hw0⟩; subst w0)
      | (go_at_call 140; refine hn.mono ?_; rintro e w1 ⟨rfl, f1⟩))
    go_ret
    exact ⟨rfl, f1⟩
  obtain ⟨e2, q2⟩ := hl1.head
  simp only at e1 p1
  simp only [gf] at e2 q2
  have vv : v < 32 := Nat.lt_of_lt_of_le hv (Nat.pow_le_pow_right (by omega) (by omega : lx s ≤ 5))
  obtain ⟨len, hlen⟩ : ∃ len, len = lb s + v := ⟨_, rfl⟩
  have hlc : ((lb s : Nat) : Int) + v = len := by omega
  have c0 := h.c0
  have hsn := snumber_any B S R n X p (lx s) (lb s) os m w h (by omega) p1 (by omega) (by omega)
  rw [e1, hlc] at hsn
  have HD : Hid (Cd w D Dd mD) := hD
  clear hlen hv hu hl hl1 h hD e1 p1
  rcases q2 with q2 | ⟨p2, hl2⟩
  · go_enter Tryz.func123, Tryz.ntmps123
    go_wp2_with (first
      | (go_at_call 99; refine (length_yes s w hs0 hs1).mono ?_; rintro e w0 ⟨rfl, hw0⟩; subst w0)
      | (go_at_call 140; refine hsn.mono ?_; rintro e w1 ⟨rfl, h1, f1⟩; have c01 := h1.c0)
      | (go_at_call 91; refine (snext_no B S R n X _ os m D Dd mD t (Dd t).toNat w1 h1 (HD.out.kt f1.kt) hfD htD (by omega) (by omega) (by omega) q2 e2).mono ?_; rintro e w2 ⟨rfl, f2⟩))
    go_ret
    exact ⟨rfl, f1.trans f2⟩
  obtain ⟨e3, q3⟩ := hl2.head
  simp only at e3 q3
  rcases q3 with q3 | ⟨p3, hl3⟩
  · go_enter Tryz.func123, Tryz.ntmps123
    go_wp2_with (go_at_call 99; refine (length_yes s w hs0 hs1).mono ?_; rintro e w0 ⟨rfl, hw0⟩; subst w0)
    refine hsn.mono ?_
    rintro e w1 ⟨rfl, h1, f1⟩
    have c01 := h1.c0
    have hnx := snext_any B S R n X _ os m D Dd mD t (Dd t).toNat w1 h1 (HD.out.kt f1.kt) hfD htD (by omega) (by omega) (by omega) p2 e2
    clear h1 hsn
    go_wp2_with (first
      | (go_at_call 91; refine hnx.mono ?_; rintro e w2 ⟨rfl, h2, f2⟩)
      | (go_at_call 100; refine (distance_yes t w2 ht).mono ?_; rintro e w0 ⟨rfl, hw0⟩; subst w0))
    have hsn3 := snumber_no B S R n X _ (dx t) (db t) os m w2 h2 q3
    clear h2 hnx q3
    refine hsn3.mono ?_
    rintro e w3 ⟨rfl, f3⟩
    go_wp2
    go_ret
    exact ⟨rfl, (f1.trans f2).trans f3⟩
  · have := hl3.ge
    have := hl3.sh
    simp only [fb] at this
    omega

end Go.Proofs.YtiahbicodlgmhaaGreatDoor.Z

/- Fields as they are written and as they are read. -/
namespace Go.Proofs.YtiahbicodlgmhaaGreatDoor.Z
open Go.RowKit

theorem G_same {L M : Nat → Int} (K : Nat) : ∀ m, (∀ j, j < m → L j = M j) → G L K m = G M K m
  | 0, _ => rfl
  | m + 1, h => by simp only [G, G_same K m (fun j hj => h j (by omega)), h m (by omega)]

theorem cn_same {L M : Nat → Int} (x : Int) : ∀ m, (∀ j, j < m → L j = M j) → cn L x m = cn M x m
  | 0, _ => rfl
  | m + 1, h => by simp only [cn, cn_same x m (fun j hj => h j (by omega)), h m (by omega)]

theorem SM_same {L M : Nat → Int} : ∀ m, (∀ j, j < m → L j = M j) → SM L m = SM M m
  | 0, _ => rfl
  | m + 1, h => by simp only [SM, SM_same m (fun j hj => h j (by omega)), h m (by omega)]

theorem gf_same {L M : Nat → Int} {m i : Nat} (h : ∀ j, j < m → L j = M j) (hi : i < m) : gf L m i = gf M m i := by
  have e1 : cd L m i = cd M m i := by
    unfold cd
    rw [← h i hi, cn_same (L i) i (fun j hj => h j (by omega))]
    cases (L i).toNat with
    | zero => rfl
    | succ k => simp only [F, G_same k m h]
  unfold gf
  rw [e1, h i hi]

theorem nw_same {L M : Nat → Int} {n : Nat} {b : Bool} (h : ∀ j, j < n → L j = M j) (k : nw L n b = 0) : nw M n b = 0 := by
  have e1 : okL L n = okL M n := by
    rw [Bool.eq_iff_iff, okL_iff, okL_iff]
    constructor
    · rintro ⟨a, c⟩; exact ⟨a, fun j hj => by rw [← h j hj]; exact c j hj⟩
    · rintro ⟨a, c⟩; exact ⟨a, fun j hj => by rw [h j hj]; exact c j hj⟩
  have e2 := G_same 15 n h
  have e3 := SM_same n h
  unfold nw er fu at k ⊢
  rw [← e1, ← e2, ← e3]
  exact k

theorem nw_fits {L : Nat → Int} {n : Nat} {b : Bool} (k : nw L n b = 0) : Fits L n := (er_zero L n (nw_zero L n b k).1).2.2

/-- The same bits. -/
def Eqv (a b : List Fd) : Prop := fv a = fv b ∧ fb a = fb b

theorem Eqv.refl (a : List Fd) : Eqv a a := ⟨rfl, rfl⟩
theorem Eqv.cons {a b : List Fd} (x : Fd) (h : Eqv a b) : Eqv (x :: a) (x :: b) := ⟨by simp only [fv, h.1], by simp only [fb, h.2]⟩
theorem Eqv.zero {a b : List Fd} (h : Eqv a b) : Eqv ((0, 0) :: a) b := ⟨by simp only [fv]; rw [h.1]; simp, by simp only [fb]; rw [h.2]; omega⟩
theorem Eqv.app {a b c d : List Fd} (h : Eqv a b) (k : Eqv c d) : Eqv (a ++ c) (b ++ d) := ⟨by rw [fv_app, fv_app, h.1, h.2, k.1], by rw [fb_app, fb_app, h.2, k.2]⟩
theorem Eqv.trans {a b c : List Fd} (h : Eqv a b) (k : Eqv b c) : Eqv a c := ⟨h.1.trans k.1, h.2.trans k.2⟩

theorem lay_eqv {X : Int} {n p : Nat} {a b : List Fd} (h : Lay X n p a) (e : Eqv a b) (hb : Ft b) : Lay X n p b :=
  ⟨hb, by rw [← e.2]; exact h.le, by rw [← e.1, ← e.2]; exact h.is⟩

theorem cut_eqv {X : Int} {n p : Nat} {a b : List Fd} (h : Cut X n p a) (e : Eqv a b) (hb : Ft b) : Cut X n p b := by
  obtain ⟨⟨n', h1⟩, h2, h3⟩ := h
  exact ⟨⟨n', lay_eqv h1 e hb⟩, h2, by rw [← e.2]; exact h3⟩

theorem encS_eqv {L L' : Nat → Int} {mA : Nat} {D D' : Nat → Int} {mD : Nat} (hL : ∀ j, j < mA → L j = L' j) (hD : ∀ j, j < mD → D j = D' j) (h256 : 256 < mA) : ∀ {is : List It}, (∀ i ∈ is, i.okG L' mA D' mD) → Eqv (encS L mA D mD (stps is ++ [eos])) (encsG L' mA D' mD is ++ [gf L' mA 256])
  | [], _ => by
    have e : encS L mA D mD (stps [] ++ [eos]) = [gf L mA 256, (0, 0)] := rfl
    rw [e, gf_same hL h256]
    exact Eqv.cons _ (Eqv.zero (Eqv.refl []))
  | .lit b :: is, h => by
    have ih := encS_eqv hL hD h256 (is := is) (fun i hi => h i (by simp [hi]))
    have hb : It.okG L' mA D' mD (.lit b) := h _ (by simp)
    have e : encS L mA D mD (stps (.lit b :: is) ++ [eos]) = gf L mA b :: (0, 0) :: encS L mA D mD (stps is ++ [eos]) := rfl
    rw [e, gf_same hL hb.2.1]
    exact Eqv.cons _ (Eqv.zero ih)
  | .cpy s v d u :: is, h => by
    have ih := encS_eqv hL hD h256 (is := is) (fun i hi => h i (by simp [hi]))
    have hb : It.okG L' mA D' mD (.cpy s v d u) := h _ (by simp)
    have e : encS L mA D mD (stps (.cpy s v d u :: is) ++ [eos]) = gf L mA s :: ((v : Int), lx s) :: gf D mD d :: ((u : Int), dx d) :: encS L mA D mD (stps is ++ [eos]) := rfl
    rw [e, gf_same hL hb.2.2.1, gf_same hD hb.2.2.2.2.2.2.2.1]
    exact Eqv.cons _ (Eqv.cons _ (Eqv.cons _ (Eqv.cons _ ih)))

theorem encC_eqv {L C : Nat → Int} (hL : ∀ j, j < 19 → L j = C j) : ∀ {qs : List Cl}, (∀ q ∈ qs, q.sym < 19) → Eqv (encS L 19 L 19 (qs.map clst)) (encC C qs)
  | [], _ => Eqv.refl _
  | q :: qs, h => by
    have ih := encC_eqv hL (qs := qs) (fun i hi => h i (by simp [hi]))
    have hq := h q (by simp)
    cases q with
    | len x =>
      have e : encS L 19 L 19 ((Cl.len x :: qs).map clst) = gf L 19 x :: (0, 0) :: encS L 19 L 19 (qs.map clst) := rfl
      rw [e, gf_same (i := x) hL hq]
      exact Eqv.cons _ (Eqv.zero ih)
    | rep v =>
      have e : encS L 19 L 19 ((Cl.rep v :: qs).map clst) = gf L 19 16 :: ((v : Int), 2) :: encS L 19 L 19 (qs.map clst) := rfl
      rw [e, gf_same hL (by omega)]
      exact Eqv.cons _ (Eqv.cons _ ih)
    | few v =>
      have e : encS L 19 L 19 ((Cl.few v :: qs).map clst) = gf L 19 17 :: ((v : Int), 3) :: encS L 19 L 19 (qs.map clst) := rfl
      rw [e, gf_same hL (by omega)]
      exact Eqv.cons _ (Eqv.cons _ ih)
    | many v =>
      have e : encS L 19 L 19 ((Cl.many v :: qs).map clst) = gf L 19 18 :: ((v : Int), 7) :: encS L 19 L 19 (qs.map clst) := rfl
      rw [e, gf_same hL (by omega)]
      exact Eqv.cons _ (Eqv.cons _ ih)

/-- A code's own lengths, as they stand. -/
def vso (Lc : Nat → Int) (vn : Nat) : List Nat := (List.range vn).map (fun k => (Lc (ord k)).toNat)
/-- All lengths in one row. -/
def fso (nl nd : Nat) (L0 L1 : Nat → Int) : List Int := (List.range (nl + nd)).map (cat2 nl L0 L1)

theorem vso_at (Lc : Nat → Int) (vn k : Nat) (h : k < vn) : (vso Lc vn).getD k 0 = (Lc (ord k)).toNat := by
  simp [vso, List.getD, h]

theorem fso_at (nl nd : Nat) (L0 L1 : Nat → Int) (j : Nat) (h : j < nl + nd) : (fso nl nd L0 L1).getD j 0 = cat2 nl L0 L1 j := by
  simp [fso, List.getD, h]

theorem vfs_app : ∀ (a b : List Nat), vfs (a ++ b) = vfs a ++ vfs b
  | [], _ => rfl
  | x :: a, b => by simp only [List.cons_append, vfs, vfs_app a b]

theorem vfo_vfs (Lc : Nat → Int) : ∀ vn, (∀ k, k < vn → 0 ≤ Lc (ord k)) → vfo Lc vn = vfs (vso Lc vn)
  | 0, _ => rfl
  | vn + 1, h => by
    have ih := vfo_vfs Lc vn (fun k hk => h k (by omega))
    have e : vso Lc (vn + 1) = vso Lc vn ++ [(Lc (ord vn)).toNat] := by simp [vso, List.range_succ]
    rw [e, vfs_app, ← ih]
    have := h vn (by omega)
    simp only [vfo, vfs]
    rw [show (((Lc (ord vn)).toNat : Nat) : Int) = Lc (ord vn) by omega]

end Go.Proofs.YtiahbicodlgmhaaGreatDoor.Z

/- What a told block says, for its reader. -/
namespace Go.Proofs.YtiahbicodlgmhaaGreatDoor.Z
open Go.RowKit

theorem Tm.s0 {is : List It} {nl nd vn : Nat} {L0 L1 Lc : Nat → Int} {qs : List Cl} (h : Tm is nl nd vn L0 L1 Lc qs) {s : Stp} {i : Nat} (hs : s ∈ stps is ++ [eos]) (h1 : s.1 = 0) (h2 : s.2.1 = (i : Int)) (hi : i < 286) : i < nl ∧ 0 < L0 i ∧ L0 i ≤ 15 := by
  have hp := h.g0.pos i hi (tl_pos hs h1 h2)
  refine ⟨?_, by omega, by omega⟩
  rcases Nat.lt_or_ge i nl with h' | h'
  · exact h'
  · have := h.lz i h' hi; omega

theorem Tm.s1 {is : List It} {nl nd vn : Nat} {L0 L1 Lc : Nat → Int} {qs : List Cl} (h : Tm is nl nd vn L0 L1 Lc qs) {s : Stp} {i : Nat} (hs : s ∈ stps is ++ [eos]) (h1 : s.1 = 1) (h2 : s.2.1 = (i : Int)) (hi : i < 30) : i < nd ∧ 0 < L1 i ∧ L1 i ≤ 15 := by
  have hp := h.g1.pos i hi (tl_pos hs h1 h2)
  refine ⟨?_, by omega, by omega⟩
  rcases Nat.lt_or_ge i nd with h' | h'
  · exact h'
  · have := h.dz i h' hi; omega

theorem Tm.e0 {is : List It} {nl nd vn : Nat} {L0 L1 Lc : Nat → Int} {qs : List Cl} (h : Tm is nl nd vn L0 L1 Lc qs) : 256 < nl ∧ 0 < L0 256 ∧ L0 256 ≤ 15 :=
  h.s0 (s := eos) (i := 256) (by simp) rfl rfl (by omega)

theorem fso_lit (nl nd : Nat) (L0 L1 : Nat → Int) : (∀ j, j < nl → L0 j = (fso nl nd L0 L1).getD j 0) ∧ (∀ j, j < nd → L1 j = (fso nl nd L0 L1).getD (nl + j) 0) := by
  constructor
  · intro j hj
    rw [fso_at _ _ _ _ _ (by omega), cat2, if_pos hj]
  · intro j hj
    rw [fso_at _ _ _ _ _ (by omega), cat2, if_neg (by omega), show nl + j - nl = j by omega]

theorem Tm.okG {is : List It} {nl nd vn : Nat} {L0 L1 Lc : Nat → Int} {qs : List Cl} (h : Tm is nl nd vn L0 L1 Lc qs) (hok : ∀ i ∈ is, i.ok) : ∀ i ∈ is, i.okG (fun j => (fso nl nd L0 L1).getD j 0) nl (fun j => (fso nl nd L0 L1).getD (nl + j) 0) nd := by
  obtain ⟨q0, q1⟩ := fso_lit nl nd L0 L1
  intro i hi
  have hm : ∀ s ∈ stp i, s ∈ stps is ++ [eos] := fun s hs => List.mem_append.2 (.inl (List.mem_flatMap.2 ⟨i, hi, hs⟩))
  have ho := hok i hi
  cases i with
  | lit b =>
    have hb : b < 256 := ho
    obtain ⟨a1, a2, a3⟩ := h.s0 (hm (0, (b : Int), 0, 0) (by simp [stp])) rfl rfl (by omega)
    show b < 256 ∧ b < nl ∧ 0 < (fso nl nd L0 L1).getD b 0 ∧ (fso nl nd L0 L1).getD b 0 ≤ 15
    rw [← q0 b a1]
    exact ⟨hb, a1, a2, a3⟩
  | cpy s v d u =>
    obtain ⟨o1, o2, o3, o4, o5⟩ : 257 ≤ s ∧ s ≤ 285 ∧ v < 2 ^ lx s ∧ d < 30 ∧ u < 2 ^ dx d := ho
    obtain ⟨a1, a2, a3⟩ := h.s0 (hm (0, (s : Int), (v : Int), (lx s : Int)) (by simp [stp])) rfl rfl (by omega)
    obtain ⟨b1, b2, b3⟩ := h.s1 (hm (1, (d : Int), (u : Int), (dx d : Int)) (by simp [stp])) rfl rfl (by omega)
    show 257 ≤ s ∧ s ≤ 285 ∧ s < nl ∧ 0 < (fso nl nd L0 L1).getD s 0 ∧ (fso nl nd L0 L1).getD s 0 ≤ 15 ∧ v < 2 ^ lx s ∧ d < 30 ∧ d < nd ∧ 0 < (fso nl nd L0 L1).getD (nl + d) 0 ∧ (fso nl nd L0 L1).getD (nl + d) 0 ≤ 15 ∧ u < 2 ^ dx d
    rw [← q0 s a1, ← q1 d b1]
    exact ⟨o1, o2, a1, a2, a3, o3, o4, b1, b2, b3, o5⟩

theorem Tm.ck {is : List It} {nl nd vn : Nat} {L0 L1 Lc : Nat → Int} {qs : List Cl} (h : Tm is nl nd vn L0 L1 Lc qs) : ∀ j, j < 19 → Lc j = Go.Proofs.YtiahbicodlgmhaaGreatDoor.ck (vso Lc vn) (vso Lc vn).length j := by
  intro j hj
  have hl : (vso Lc vn).length = vn := by simp [vso]
  have ho := ord_pos j hj
  unfold Go.Proofs.YtiahbicodlgmhaaGreatDoor.ck
  rw [hl]
  by_cases hp : Go.Proofs.YtiahbicodlgmhaaGreatDoor.pos j < vn
  · rw [if_pos hp, vso_at _ _ _ hp, ho]
    have := (h.gc.lm (by omega) j hj).1
    omega
  · rw [if_neg hp]
    have hv := h.vz (Go.Proofs.YtiahbicodlgmhaaGreatDoor.pos j) (by omega) (by
      have : ∀ j, j < 19 → Go.Proofs.YtiahbicodlgmhaaGreatDoor.pos j < 19 := by decide +kernel
      exact this j hj)
    rw [ho] at hv
    exact hv

theorem Tm.hd {is : List It} {nl nd vn : Nat} {L0 L1 Lc : Nat → Int} {qs : List Cl} (h : Tm is nl nd vn L0 L1 Lc qs) : Hd (vso Lc vn) qs (fso nl nd L0 L1) nl nd := by
  have hl : (vso Lc vn).length = vn := by simp [vso]
  obtain ⟨q0, q1⟩ := fso_lit nl nd L0 L1
  obtain ⟨e1, e2, e3⟩ := h.e0
  have hfl : (fso nl nd L0 L1).length = nl + nd := by simp [fso]
  have l0 := h.l0
  have l1 := h.l1
  have d0 := h.d0
  have d1 := h.d1
  have b0 : ∀ j, j < nl + nd → 0 ≤ cat2 nl L0 L1 j ∧ cat2 nl L0 L1 j ≤ 15 := fun j hj => by
    unfold cat2
    by_cases hn : j < nl
    · rw [if_pos hn]; exact h.g0.lm (by omega) j (by omega)
    · rw [if_neg hn]; exact h.g1.lm (by omega) (j - nl) (by omega)
  have hcat : cat2 nl L0 L1 256 = L0 256 := by rw [cat2, if_pos e1]
  obtain ⟨q, hq, q', hq', hne⟩ := h.rn.two (by omega) b0 (by rw [hcat]; omega)
  have hall := h.rn.all
  have hpos : ∀ q ∈ qs, 0 < tl 0 (qs.map clst) q.sym := fun q hq => tl_pos (List.mem_map.2 ⟨q, hq, rfl⟩) (clst_sym q).1 (clst_sym q).2
  have h2 := sy_two (n := 19) (hall q hq) (hall q' hq') hne (hpos q hq) (hpos q' hq')
  have hcn : nw (Go.Proofs.YtiahbicodlgmhaaGreatDoor.ck (vso Lc vn) (vso Lc vn).length) 19 false = 0 := nw_same h.ck (h.gc.nwf (by omega) (by omega) h2)
  obtain ⟨c1, c2, _⟩ := h.rn.cls (C := Go.Proofs.YtiahbicodlgmhaaGreatDoor.ck (vso Lc vn) (vso Lc vn).length) (fs := fso nl nd L0 L1) (fun j hj => fso_at _ _ _ _ _ hj) hfl
  have han : nw (fun j => (fso nl nd L0 L1).getD j 0) nl true = 0 := nw_same q0 (nw_cut (h.g0.nw (by omega) (by omega)) l1 h.lz)
  have hdn : nw (fun j => (fso nl nd L0 L1).getD (nl + j) 0) nd true = 0 := nw_same q1 (nw_cut (h.g1.nw (by omega) (by omega)) d1 h.dz)
  refine ⟨l0, l1, d0, d1, by rw [hl]; exact h.v4, by rw [hl]; exact h.v19, hcn, nw_fits hcn, ?_, ?_, hfl, han, nw_fits han, hdn, nw_fits hdn, ?_, ?_⟩
  · refine c2 (fun q hq => ?_)
    rw [← h.ck q.sym (hall q hq)]
    have := h.gc.pos q.sym (hall q hq) (hpos q hq)
    omega
  · rw [c1, List.take_of_length_le (by omega)]
  · rw [← q0 256 e1]; exact e2
  · rw [← q0 256 e1]; exact e3

theorem Tm.fields {is : List It} {nl nd vn : Nat} {L0 L1 Lc : Nat → Int} {qs : List Cl} (h : Tm is nl nd vn L0 L1 Lc qs) (hok : ∀ i ∈ is, i.ok) :
    Eqv (tlf Lc nl nd vn qs ++ encS L0 nl L1 nd (stps is ++ [eos])) (hdf (vso Lc vn) qs nl nd ++ (encsG (fun j => (fso nl nd L0 L1).getD j 0) nl (fun j => (fso nl nd L0 L1).getD (nl + j) 0) nd is ++ [gf (fun j => (fso nl nd L0 L1).getD j 0) nl 256])) := by
  have hl : (vso Lc vn).length = vn := by simp [vso]
  obtain ⟨q0, q1⟩ := fso_lit nl nd L0 L1
  refine Eqv.app ?_ (encS_eqv q0 q1 h.e0.1 (h.okG hok))
  have e1 := vfo_vfs Lc vn (fun k hk => (h.gc.lm (by omega) (ord k) (ord_lt k (by have := h.v19; omega))).1)
  have e2 := encC_eqv h.ck h.rn.all
  unfold tlf hdf
  rw [e1, hl] at *
  simp only [List.cons_append, List.nil_append]
  exact Eqv.cons _ (Eqv.cons _ (Eqv.cons _ (Eqv.app (Eqv.refl _) e2)))

theorem fix_okG {is : List It} (hok : ∀ i ∈ is, i.ok) : ∀ i ∈ is, i.okG fl 288 dl 32 := by
  intro i hi
  have ho := hok i hi
  cases i with
  | lit b =>
    have hb : b < 256 := ho
    have := fl_pos b (by omega)
    exact ⟨hb, by omega, this.1, this.2⟩
  | cpy s v d u =>
    obtain ⟨o1, o2, o3, o4, o5⟩ : 257 ≤ s ∧ s ≤ 285 ∧ v < 2 ^ lx s ∧ d < 30 ∧ u < 2 ^ dx d := ho
    have h1 := fl_pos s (by omega)
    have h2 := dl_pos d o4
    exact ⟨o1, o2, by omega, h1.1, h1.2, o3, o4, by omega, h2.1, h2.2, o5⟩

end Go.Proofs.YtiahbicodlgmhaaGreatDoor.Z

/- Symbols of which not all are there. -/
namespace Go.Proofs.YtiahbicodlgmhaaGreatDoor.Z
open Go.RowKit

/-- What is left to be read, of what is not all there. -/
structure Sc (L : Nat → Int) (mA : Nat) (Dd : Nat → Int) (mD : Nat) (B S R n : Nat) (X : Int) (m : Nat) (w : World) (gk : Nat) (wr : World) (l : List It) (p : Nat) (os : List Int) : Prop where
  len : l.length = gk
  st : Stm wr B S R n X p os m
  lay : Cut X n p (encsG L mA Dd mD l ++ [gf L mA 256])
  ok : ∀ i ∈ l, i.okG L mA Dd mD
  pl : (play m l os).1 = 0
  ol : os.length ≤ m
  sw : Sw B w wr

theorem gf_cut {L : Nat → Int} {m : Nat} {X : Int} {n p i : Nat} {r : List Fd} (h : Cut X n p (gf L m i :: r)) (h0 : 0 < L i) : L i = (L i).toNat ∧ X / 2 ^ p % 2 ^ (L i).toNat = T (cd L m i) (L i).toNat ∧ (8 * n < p + (L i).toNat ∨ (p + (L i).toNat ≤ 8 * n ∧ Cut X n (p + (L i).toNat) r)) := by
  obtain ⟨h1, h2⟩ := h.head
  exact ⟨by omega, h1, h2⟩

set_option maxRecDepth 100000 in
set_option maxHeartbeats 2000000 in
theorem ssymbols_no (L : Nat → Int) (mA : Nat) (Dd : Nat → Int) (mD : Nat) (hfA : Fits L mA) (hfD : Fits Dd mD) (hE : 256 < mA ∧ 0 < L 256 ∧ L 256 ≤ 15) (B S R n : Nat) (X : Int) (p : Nat) (os : List Int) (m A D : Nat) (l : List It) (w : World) (h : Stm w B S R n X p os m) (hA : Cd w A L mA) (hD : Cd w D Dd mD) (hok : ∀ i ∈ l, i.okG L mA Dd mD) (hl : Cut X n p (encsG L mA Dd mD l ++ [gf L mA 256])) (hm : m ≤ 1000000) (hL : os.length ≤ m) (hG : (play m l os).1 = 0) :
    Calls Tryz.prog 90 #[.pointer (some ⟨S, 0, none⟩), .func (.func 91) #[.pointer (some ⟨A, 0, none⟩)] #[], .func (.func 91) #[.pointer (some ⟨D, 0, none⟩)] #[]] w fun e w' => e = .returned (.int .i64 3) ∧ Sw B w w' := by
  have H0 : Hid (Sc L mA Dd mD B S R n X m w l.length w l p os) := ⟨rfl, h, hl, hok, hG, hL, Sw.refl _ _⟩
  have HA : Hid (Cd w A L mA) := hA
  have HD : Hid (Cd w D Dd mD) := hD
  clear h hA hD hok hl hL hG
  go_enter Tryz.func90, Tryz.ntmps90
  go_wp2_with fail
  go_loopg [] l.length (fun gk wr => ∃ l1 p1 os1, Hid (Sc L mA Dd mD B S R n X m w gk wr l1 p1 os1))
  case atStart => exact ⟨l, p, os, H0⟩
  case round =>
    obtain ⟨l1, p1, os1, HY⟩ := hrel
    clear H0
    have hst := HY.out.st
    have c0 := hst.c0
    have A1 := HA.out.kt HY.out.sw.kt
    have D1 := HD.out.kt HY.out.sw.kt
    cases l1 with
    | nil =>
      have hlay := HY.out.lay
      simp only [encsG, List.nil_append] at hlay
      obtain ⟨e1, e3, e2 | ⟨e2, hlay2⟩⟩ := gf_cut hlay hE.2.1
      · have hn := snext_no B S R n X p1 os1 m A L mA 256 (L 256).toNat wr hst A1 hfA hE.1 e1 (by omega) (by omega) e2 e3
        clear hlay e1 e2 e3 hst A1 D1
        go_wp2_with (go_at_call 91; refine hn.mono ?_; rintro e w1 ⟨rfl, f1⟩)
        go_ret
        exact ⟨rfl, HY.out.sw.trans f1⟩
      · have := hlay2.ge
        have := hlay2.sh
        simp only [fb] at this
        omega
    | cons i l2 =>
      cases i with
      | lit b =>
        obtain ⟨hb, hbm, hb0, hb15⟩ : It.okG L mA Dd mD (.lit b) := HY.out.ok (.lit b) (by simp)
        have hlay := HY.out.lay
        simp only [encsG, It.encG, List.cons_append, List.nil_append] at hlay
        obtain ⟨e1, e3, e2 | ⟨e2, hlay2⟩⟩ := gf_cut hlay hb0
        · have hn := snext_no B S R n X p1 os1 m A L mA b (L b).toNat wr hst A1 hfA hbm e1 (by omega) (by omega) e2 e3
          clear hlay e1 e2 e3 hst A1 D1
          go_wp2_with (go_at_call 91; refine hn.mono ?_; rintro e w1 ⟨rfl, f1⟩)
          go_ret
          exact ⟨rfl, HY.out.sw.trans f1⟩
        have hn := snext_any B S R n X p1 os1 m A L mA b (L b).toNat wr hst A1 hfA hbm e1 (by omega) (by omega) e2 e3
        have hpl := HY.out.pl
        have q1 : ((b : Int) == 256) = false := by simp; omega
        have q2 : (b : Int) < 256 := by omega
        have q3 : IntKind.u8.wrap (b : Int) = b := by simp [IntKind.wrap, IntKind.bits, IntKind.signed]; omega
        have HL2 : Hid (Cut X n (p1 + (L b).toNat) (encsG L mA Dd mD l2 ++ [gf L mA 256])) := hlay2
        clear hlay hlay2 e1 e2 e3 hst A1 D1
        by_cases hroom : os1.length < m
        · rw [play, if_pos hroom] at hpl
          have HP : Hid ((play m l2 (os1 ++ [(b : Int)])).1 = 0) := hpl
          clear hpl
          go_wp2_with (first
            | (go_at_call 122; refine (sput_yes B S R n X _ b os1 m w1 h1 (by omega) (by omega) (by omega) (by omega)).mono ?_; rintro e w2 ⟨rfl, h2, f2⟩)
            | (go_at_call 91; refine hn.mono ?_; rintro e w1 ⟨rfl, h1, f1⟩))
          have hs2 : Hid (Sc L mA Dd mD B S R n X m w l2.length w2 l2 (p1 + (L b).toNat) (os1 ++ [(b : Int)])) :=
            ⟨rfl, h2, HL2.out, fun j hj => HY.out.ok j (by simp [hj]), HP.out, by simp; omega, (HY.out.sw.trans f1).trans f2⟩
          have hgk : Hid (l2.length < gk) := by
            have := HY.out.len
            simp at this
            show l2.length < gk
            omega
          clear h1 h2 f1 f2 HY HP HL2 hn
          go_wp2_with fail
          go_roundg l2.length
          case measure => exact hgk.out
          case rel => exact ⟨l2, _, _, hs2⟩
        · rw [play, if_neg hroom] at hpl
          simp at hpl
      | cpy s v t u =>
        have hit : It.okG L mA Dd mD (.cpy s v t u) := HY.out.ok (.cpy s v t u) (by simp)
        have hs0 := hit.1
        have hs1 := hit.2.1
        have hlay := HY.out.lay
        have hsm := hit.2.2.1
        have hsl := hit.2.2.2.1
        have hsl15 := hit.2.2.2.2.1
        simp only [encsG, It.encG, List.cons_append, List.nil_append] at hlay
        obtain ⟨e1, e3, e2 | ⟨e2, hlay2⟩⟩ := gf_cut hlay hsl
        · have hn := snext_no B S R n X p1 os1 m A L mA s (L s).toNat wr hst A1 hfA hsm e1 (by omega) (by omega) e2 e3
          clear hlay e1 e2 e3 hst A1 D1
          go_wp2_with (go_at_call 91; refine hn.mono ?_; rintro e w1 ⟨rfl, f1⟩)
          go_ret
          exact ⟨rfl, HY.out.sw.trans f1⟩
        have hn := snext_any B S R n X p1 os1 m A L mA s (L s).toNat wr hst A1 hfA hsm e1 (by omega) (by omega) e2 e3
        have hl3 : Cut X n (p1 + (L s).toNat) ([((v : Int), lx s), gf Dd mD t, ((u : Int), dx t)] ++ (encsG L mA Dd mD l2 ++ [gf L mA 256])) := hlay2
        have q1 : ((s : Int) == 256) = false := by simp; omega
        have q2 : ¬ (s : Int) < 256 := by omega
        rcases hl3.app with hc3 | ⟨hc3, hc4⟩
        · have HC3 : Hid (Cut X n (p1 + (L s).toNat) [((v : Int), lx s), gf Dd mD t, ((u : Int), dx t)]) := hc3
          clear hlay hlay2 hl3 e1 e2 e3 hst A1 hc3
          go_wp2_with (go_at_call 91; refine hn.mono ?_; rintro e w1 ⟨rfl, h1, f1⟩)
          refine (srepeat_no L mA B S R n X _ os1 m Dd mD D s v t u w1 h1 (D1.kt f1.kt) hfD hit HC3.out).mono ?_
          rintro e w2 ⟨rfl, f2⟩
          clear h1 hn hit D1
          go_wp2
          go_ret
          exact ⟨rfl, (HY.out.sw.trans f1).trans f2⟩
        have HL3 : Hid (Lay X n (p1 + (L s).toNat) [((v : Int), lx s), gf Dd mD t, ((u : Int), dx t)]) := hc3
        have HL4 : Hid (Cut X n (p1 + (L s).toNat + lx s + (Dd t).toNat + dx t) (encsG L mA Dd mD l2 ++ [gf L mA 256])) := by
          have := hc4
          simp only [fb, gf] at this
          rw [show p1 + (L s).toNat + lx s + (Dd t).toNat + dx t = p1 + (L s).toNat + (lx s + ((Dd t).toNat + (dx t + 0))) by omega]
          exact this
        have hpl := HY.out.pl
        rw [play] at hpl
        have HPL : Hid ((if os1.length < db t + u then ((2 : Int), os1) else if os1.length + (lb s + v) ≤ m then play m l2 (cps (lb s + v) (db t + u) os1) else (5, os1)).1 = 0) := hpl
        have hol := HY.out.ol
        clear hlay hlay2 hl3 e1 e2 e3 hst A1 hpl hc3 hc4
        go_wp2_with (go_at_call 91; refine hn.mono ?_; rintro e w1 ⟨rfl, h1, f1⟩)
        refine (srepeat_g L mA B S R n X _ os1 m Dd mD D s v t u w1 h1 (D1.kt f1.kt) hfD hit HL3.out hm (by omega)).mono ?_
        rintro e w2 ⟨g, rfl, hg, h2, f2⟩
        rcases hg with ⟨r1, rfl⟩ | ⟨r1, r2, rfl⟩ | ⟨r1, r2, rfl⟩
        · have := HPL.out
          rw [if_pos r1] at this
          simp at this
        · have hgo : (play m l2 (cps (lb s + v) (db t + u) os1)).1 = 0 := by
            have := HPL.out
            rw [if_neg (by omega), if_pos r2] at this
            exact this
          have hs2 : Hid (Sc L mA Dd mD B S R n X m w l2.length w2 l2 (p1 + (L s).toNat + lx s + (Dd t).toNat + dx t) (cps (lb s + v) (db t + u) os1)) :=
            ⟨rfl, h2 rfl, HL4.out, fun j hj => HY.out.ok j (by simp [hj]), hgo, by rw [cps_len]; omega, (HY.out.sw.trans f1).trans f2⟩
          have hgk : Hid (l2.length < gk) := by
            have := HY.out.len
            simp at this
            show l2.length < gk
            omega
          clear h1 h2 f1 f2 HY HPL HL3 HL4 hn hit D1 hgo
          go_wp2
          go_roundg l2.length
          case measure => exact hgk.out
          case rel => exact ⟨l2, _, _, hs2⟩
        · have := HPL.out
          rw [if_neg (by omega), if_neg (by omega)] at this
          simp at this

theorem scoded_no (L : Nat → Int) (mA : Nat) (Dd : Nat → Int) (mD : Nat) (hnA : nw L mA true = 0) (hnD : nw Dd mD true = 0) (hfA : Fits L mA) (hfD : Fits Dd mD) (hE : 256 < mA ∧ 0 < L 256 ∧ L 256 ≤ 15) (B S R n : Nat) (X : Int) (p : Nat) (os : List Int) (m : Nat) (la : Option Addr) (lc : Nat) (da : Option Addr) (dc : Nat) (l : List It) (w : World) (h : Stm w B S R n X p os m) (hA : Ri w la mA lc L) (hD : Ri w da mD dc Dd) (hok : ∀ i ∈ l, i.okG L mA Dd mD) (hl : Cut X n p (encsG L mA Dd mD l ++ [gf L mA 256])) (hm : m ≤ 1000000) (hL : os.length ≤ m) (hG : (play m l os).1 = 0) :
    Calls Tryz.prog 62 #[.pointer (some ⟨S, 0, none⟩), .slice la mA lc, .slice da mD dc] w fun e w' => e = .returned (.int .i64 3) ∧ Sw B w w' := by
  go_enter Tryz.func62, Tryz.ntmps62
  go_wp2_with fail
  refine (new_cd la mA lc L true w hA hnA).mono ?_
  rintro e w1 ⟨a, rfl, c1, b1⟩
  have hD1 := hD.keep b1
  have h1 := h.keep b1
  have s1 := Sw.keep h.bB b1
  clear h hA hD b1
  go_wp2_with fail
  refine (new_cd da mD dc Dd true w1 hD1 hnD).mono ?_
  rintro e w2 ⟨d, rfl, c2, b2⟩
  have h2 := h1.keep b2
  have c1' := c1.kt (Kt.ofBelow b2)
  have s2 := s1.trans (Sw.keep h1.bB b2)
  clear h1 hD1 b2 c1 s1
  go_wp2_with (go_at_call 90; refine (ssymbols_no L mA Dd mD hfA hfD hE B S R n X p os m a d l w2 h2 c1' c2 hok hl hm hL hG).mono ?_; rintro e w3 ⟨rfl, s3⟩)
  go_ret
  exact ⟨rfl, s2.trans s3⟩

end Go.Proofs.YtiahbicodlgmhaaGreatDoor.Z
