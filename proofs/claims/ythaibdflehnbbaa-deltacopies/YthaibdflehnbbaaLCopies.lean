/- DeltaCopies. -/
import Derived.Test.YthaibdflehnbbaaXPrint
import Derived.Test.YthaibdflehnbbaaWKnown
import Derived.Test.YthaibdflehnbbaaArgs
namespace Go.Proofs.Ythaibdflehnbbaa
open Go.RowKit

theorem own_apart {w : World} {B B' e e' s s' n n' : Nat} {v v' : Value} {xs xs' : List Value} (h : w.ownsRow B e s v n xs) (h' : w.ownsRow B' e' s' v' n' xs') (hne : e ≠ e') (g : Nat) (hg : v.ownBlock = some g) : v'.ownBlock ≠ some g := by
  intro hg'
  rcases h.2 with ⟨rfl, _⟩ | ⟨g1, cap, cur, rfl, _, hh, _⟩
  · cases hg
  · rcases h'.2 with ⟨rfl, _⟩ | ⟨g2, cap2, cur2, rfl, _, hh2, _⟩
    · cases hg'
    · have e1 : g1 = g := by simpa [Value.ownBlock] using hg
      have e2 : g2 = g := by simpa [Value.ownBlock] using hg'
      subst e1 e2
      rw [hh] at hh2
      simp at hh2
      exact hne hh2.2

/-- A copy that the law makes. -/
abbrev isK (o : Op) : Prop := o.cp = true ∧ 0 ≤ o.fr ∧ o.fr ≤ 601 ∧ 1 ≤ o.n ∧ o.n ≤ 600 ∧ o.da = []

theorem isK.okp {o : Op} (h : isK o) : okp o := .inl ⟨h.1, h.2.1, by have := h.2.2.1; omega, h.2.2.2.1, by have := h.2.2.2.2.1; omega, by rw [h.2.2.2.2.2]; rfl⟩
theorem isK.okr {o : Op} (h : isK o) : okr o := ⟨fun _ => ⟨h.2.1, by have := h.2.2.1; omega, h.2.2.2.1, by have := h.2.2.2.2.1; omega, h.2.2.2.2.2⟩, (fun e => by rw [h.1] at e; cases e), (fun x hx => by rw [h.2.2.2.2.2] at hx; cases hx)⟩

theorem apy_cop {bs : List Int} {l : List Op} {N t : Nat} (hl : ∀ o ∈ l, isK o) (hN : bs.length = N) (ht : (t : Int) = tot l) (h65 : N ≤ 600) (h66 : t ≤ 6000) :
    apy bs (prt N t l) 16384 = if wins N l then (mks bs l, 0) else ([], 2) := by
  have hp := prs_prt (N : Int) (t : Int) l (by omega) (by omega) (by omega) (by omega) (fun o ho => (hl o ho).okp)
  by_cases hw : wins N l
  · rw [if_pos hw]
    have := apy_yes bs (prt N t l) 16384 (by rw [hp]) (by rw [hp, hN]) (by rw [hp]; show ¬ (16384 : Int) < (t : Int); omega) (by rw [hp, hN]; exact hw) (by rw [hp]; exact ht.symm)
    rw [this, hp]
  · rw [if_neg hw]
    exact apy_no bs (prt N t l) 16384 (by rw [hp]) (by rw [hp, hN]) (by rw [hp]; show ¬ (16384 : Int) < (t : Int); omega) (fun hh => hw (by have := hh.1; rw [hp, hN] at this; exact this))

/-- The way of the law. -/
structure Cw (w1 wr : World) (bs : List Int) (lv wv : Value) (ok : Bool) (k t q : Nat) (ms : List MO) (l : List Op) (ys : List Int) : Prop where
  own : OwO wr 53 w1.heap.size lv k ms l
  want : wr.ownsRow w1.heap.size 5 1 wv q (ys.map (Value.int .u8))
  bel : Below w1.heap.size w1 wr
  dat : ∀ j, j < k → (ms.getD j mz).m = 0
  isk : ∀ o ∈ l, isK o
  tt : (t : Int) = tot l
  yes : ok = true ↔ wins bs.length l
  ans : ok = true → ys = mks bs l
  byt : ∀ y ∈ ys, 0 ≤ y ∧ y < 256

theorem dat_app {ms : List MO} {k : Nat} (hl : ms.length = k) (h : ∀ j, j < k → (ms.getD j mz).m = 0) (f kk : Int) : ∀ j, j < k + 1 → ((ms ++ [(⟨true, f, kk, none, 0, 0⟩ : MO)]).getD j mz).m = 0 := fun j hj => by
  by_cases hjn : j < k
  · rw [getD_app1 ms _ mz j (by omega)]
    exact h j hjn
  · have : j = ms.length := by omega
    subst this
    rw [getD_app2]

theorem isk_app {l : List Op} (h : ∀ o ∈ l, isK o) {f kk : Nat} (hf : f ≤ 601) (h1 : 1 ≤ kk) (h2 : kk ≤ 600) : ∀ o ∈ l ++ [(⟨true, f, kk, []⟩ : Op)], isK o := fun o ho => by
  rcases List.mem_append.1 ho with h' | h'
  · exact h o h'
  · rw [List.mem_singleton.1 h']
    refine ⟨rfl, ?_, ?_, ?_, ?_, rfl⟩ <;> simp only <;> omega

theorem tot_one (l : List Op) (t kk f : Nat) (h : (t : Int) = tot l) : ((t + kk : Nat) : Int) = tot (l ++ [⟨true, f, kk, []⟩]) := by
  rw [tot_app, ← h]
  simp [tot, osz]

theorem wins_app (N : Nat) (l : List Op) (f kk : Nat) : wins N (l ++ [(⟨true, f, kk, []⟩ : Op)]) ↔ wins N l ∧ f + kk ≤ N := by
  constructor
  · intro h
    refine ⟨fun o ho => h o (by simp [ho]), ?_⟩
    have := h ⟨true, f, kk, []⟩ (by simp) rfl
    simp only at this
    omega
  · rintro ⟨h1, h2⟩ o ho
    rcases List.mem_append.1 ho with h' | h'
    · exact h1 o h'
    · rw [List.mem_singleton.1 h']
      intro _
      simp only
      omega

theorem Cw.over {w1 wr w5 : World} {bs : List Int} {lv wv v5 : Value} {ok : Bool} {k t q : Nat} {ms : List MO} {l : List Op} {ys : List Int} (h : Cw w1 wr bs lv wv ok k t q ms l ys) {f kk : Nat} (hf : f ≤ 601) (h1 : 1 ≤ kk) (h2 : kk ≤ 600)
    (O5 : OwO w5 53 w1.heap.size v5 (k + 1) (ms ++ [⟨true, f, kk, none, 0, 0⟩]) (l ++ [⟨true, f, kk, []⟩])) (W5 : w5.ownsRow w1.heap.size 5 1 wv q (ys.map (Value.int .u8))) (B5 : Below w1.heap.size w1 w5) (hov : bs.length < f + kk) :
    Cw w1 w5 bs v5 wv false (k + 1) (t + kk) q (ms ++ [⟨true, f, kk, none, 0, 0⟩]) (l ++ [⟨true, f, kk, []⟩]) ys :=
  ⟨O5, W5, B5, dat_app h.own.lenx h.dat _ _, isk_app h.isk hf h1 h2, tot_one l t kk f h.tt, ⟨(fun e => by cases e), fun e => absurd ((wins_app _ _ _ _).1 e).2 (by omega)⟩, (fun e => by cases e), h.byt⟩

theorem Cw.under {w1 wr w5 : World} {bs : List Int} {lv wv v5 v6 : Value} {ok : Bool} {k t q : Nat} {ms : List MO} {l : List Op} {ys : List Int} (h : Cw w1 wr bs lv wv ok k t q ms l ys) {f kk : Nat} (hf : f ≤ 601) (h1 : 1 ≤ kk) (h2 : kk ≤ 600)
    (O5 : OwO w5 53 w1.heap.size v5 (k + 1) (ms ++ [⟨true, f, kk, none, 0, 0⟩]) (l ++ [⟨true, f, kk, []⟩])) (W5 : w5.ownsRow w1.heap.size 5 1 v6 (q + kk) ((ys ++ (bs.drop f).take kk).map (Value.int .u8))) (B5 : Below w1.heap.size w1 w5) (hov : f + kk ≤ bs.length) (hb : ∀ x ∈ bs, 0 ≤ x ∧ x < 256) :
    Cw w1 w5 bs v5 v6 ok (k + 1) (t + kk) (q + kk) (ms ++ [⟨true, f, kk, none, 0, 0⟩]) (l ++ [⟨true, f, kk, []⟩]) (ys ++ (bs.drop f).take kk) :=
  ⟨O5, W5, B5, dat_app h.own.lenx h.dat _ _, isk_app h.isk hf h1 h2, tot_one l t kk f h.tt, ⟨fun e => (wins_app _ _ _ _).2 ⟨h.yes.1 e, hov⟩, fun e => h.yes.2 ((wins_app _ _ _ _).1 e).1⟩,
    (fun e => by rw [mks_app, mks_one, ← h.ans e]; simp [mk1]),
    (fun y hy => by
      rcases List.mem_append.1 hy with h' | h'
      · exact h.byt y h'
      · exact hb y (List.mem_of_mem_drop (List.mem_of_mem_take h')))⟩

/-- The numbers. -/
def Nu (w : World) (a : Option Addr) (n : Nat) (V : Nat → Nat) : Prop := ∀ j, j < n → V j < 65536 ∧ ∃ b off, a = some ⟨b, off, none⟩ ∧ w.cell? ⟨b, off + j, none⟩ = some (.int .u16 (V j))

theorem copies_skip (bo : Option Addr) (N C : Nat) (a : Option Addr) (M E : Nat) (w : World) (h : N = 0 ∨ 600 < N ∨ 20 < M) :
    Calls Try.prog 8 #[.slice bo N C, .slice a M E] w fun e w' => e = .returned (.bool true) ∧ Below w.heap.size w w' := by
  by_cases h0 : N = 0
  · subst h0
    go_enter Try.func8, Try.ntmps8
    go_wp2_with (first | (go_at_call 9; refine (known_any w).mono ?_; rintro e w1 ⟨rfl, hB⟩))
    go_ret
    exact ⟨rfl, hB⟩
  · have z0 : ((N : Int) == 0) = false := by simp; omega
    by_cases h1 : 600 < N
    · have z : (600 : Int) < N := by omega
      go_enter Try.func8, Try.ntmps8
      go_wp2_with (first | (go_at_call 9; refine (known_any w).mono ?_; rintro e w1 ⟨rfl, hB⟩))
      go_ret
      exact ⟨rfl, hB⟩
    · have z1 : decide ((600 : Int) < (N : Int)) = false := decide_eq_false (by omega)
      have z : (20 : Int) < M := by omega
      go_enter Try.func8, Try.ntmps8
      go_wp2_with (first | (go_at_call 9; refine (known_any w).mono ?_; rintro e w1 ⟨rfl, hB⟩))
      go_ret
      exact ⟨rfl, hB⟩

set_option maxRecDepth 100000 in
set_option maxHeartbeats 2000000 in
theorem copies_go (bo : Option Addr) (N C : Nat) (bs : List Int) (a : Option Addr) (M E : Nat) (V : Nat → Nat) (w : World) (hb : Rd w bo N C bs) (h : Nu w a M V) (h0 : 1 ≤ N) (hN : N ≤ 600) (hM : M ≤ 20) :
    Calls Try.prog 8 #[.slice bo N C, .slice a M E] w fun e w' => e = .returned (.bool true) ∧ Below w.heap.size w w' := by
  obtain ⟨i0, hi0, hz0, hz1, hz2⟩ := info_parts Try.info53
  have z0 : ((N : Int) == 0) = false := by simp; omega
  have z1 : decide ((600 : Int) < (N : Int)) = false := decide_eq_false (by omega)
  have z2 : decide ((20 : Int) < (M : Int)) = false := decide_eq_false (by omega)
  have hbl := hb.len
  have HT : Hid (Nu w a M V) := h
  have HB : Hid (Rd w bo N C bs) := hb
  clear h hb
  go_enter Try.func8, Try.ntmps8
  go_wp2_with fail
  refine (known_any w).mono ?_
  rintro e w1 ⟨rfl, B1⟩
  have HB1 : Hid (Below w.heap.size w w1) := B1
  have H0 : Hid (Cw w1 w1 bs (.slice none 0 0) (.slice none 0 0) true 0 0 0 [] [] []) := ⟨OwO.nil _ _ _, by simpa using World.ownsRow_nil w1 w1.heap.size 5 1, Below.refl _ _, (fun j hj => by omega), (fun o ho => by cases ho), rfl, ⟨(fun _ o ho => by cases ho), (fun _ => rfl)⟩, (fun _ => rfl), (fun o ho => by cases ho)⟩
  clear B1
  go_wp2_with fail
  go_loopw [5, 6, 7, 8, 9] (fun lv wv okv nv iv wr => ∃ (p k t q : Nat) (ok : Bool) (ms : List MO) (l : List Op) (ys : List Int), p ≤ M ∧ k ≤ p ∧ p = 2 * k ∧ iv = .int .i64 p ∧ nv = .int .i64 t ∧ t ≤ 600 * k ∧ q ≤ 600 * k ∧ okv = .bool ok ∧ Hid (Cw w1 wr bs lv wv ok k t q ms l ys)) (fun _ _ _ _ iv _ => M + 2 - (intOf iv).toNat)
  case atStart => exact ⟨0, 0, 0, 0, true, [], [], [], by omega, by omega, by omega, rfl, rfl, by omega, by omega, rfl, H0⟩
  case round =>
    clear H0
    obtain ⟨p, k, t, q, ok, ms, l, ys, hp, hkp, hpk, rfl, rfl, ht, hq, rfl, HY⟩ := hrel
    have HPK : Hid (p = 2 * k) := hpk
    clear hpk
    by_cases hlt : p + 1 < M
    · obtain ⟨hv0, b, off, rfl, hcell0⟩ := HT.out p (by omega)
      obtain ⟨hv1, b', off', e', hcell1⟩ := HT.out (p + 1) (by omega)
      obtain ⟨rfl, rfl⟩ : b = b' ∧ off = off' := by simpa using e'
      have hBw := HB1.out.trans (HY.out.bel.mono HB1.out.size)
      have hc0 : wr.cell? ⟨b, off + p, none⟩ = some (.int .u16 (V p)) := by rw [hBw.cell (World.block_lt_of_cell? w _ hcell0)]; exact hcell0
      have hc1 : wr.cell? ⟨b, off + (p + 1), none⟩ = some (.int .u16 (V (p + 1))) := by rw [hBw.cell (World.block_lt_of_cell? w _ hcell1)]; exact hcell1
      clear hcell0 hcell1 e'
      generalize V p = x at *
      generalize V (p + 1) = y at *
      have zl : (p : Int) + 1 < M := by omega
      obtain ⟨f, hf⟩ : ∃ f, f = x % (N + 2) := ⟨_, rfl⟩
      obtain ⟨r, hr⟩ : ∃ r, r = y % N := ⟨_, rfl⟩
      obtain ⟨kk, hkk⟩ : ∃ kk, kk = 1 + r := ⟨_, rfl⟩
      have ef : (x : Int) % ((N : Int) + 2) = (f : Int) := by rw [hf]; first | rfl | norm_cast
      have er : (y : Int) % (N : Int) = (r : Int) := by rw [hr]; first | rfl | norm_cast
      have ek : (1 : Int) + (r : Int) = (kk : Int) := by rw [hkk]; omega
      have hf1 : f ≤ 601 := by have := Nat.mod_lt x (show N + 2 > 0 by omega); omega
      have hr1 : r < N := by rw [hr]; exact Nat.mod_lt y (by omega)
      have hk1 : 1 ≤ kk := by omega
      have hk2 : kk ≤ 600 := by omega
      have hszw : w1.heap.size ≤ wr.heap.size := HY.out.bel.size
      have hk10 : k ≤ 10 := by have := HPK.out; omega
      have HBY : Hid (∀ x ∈ bs, 0 ≤ x ∧ x < 256) := HB.out.byt
      clear hf hr hkk hBw
      by_cases hov : N < f + kk
      · have zo : (N : Int) < (f : Int) + (kk : Int) := by omega
        go_wp2_with (first
          | (at_builtin; refine wpList_append_lies _ rfl _ _ 32 rfl w1.heap.size 53 i0 (.agg #[.bool false, .int .i64 0, .int .i64 0, .slice none 0 0]) 4 48 Try.underlying32 hi0 hz0 hz1 hz2 rfl (by decide) u5 k _ rfl (HY.out.own.own.alloc _) ⟨wr.heap.size, 0, none⟩ 1 1 (oc ⟨true, f, kk, none, 0, 0⟩) rfl rfl (cell_four_new _ _ _ _ _ _) (oc_oneCell _) (by omega) (by unfold maxLen; omega) (by omega) (by simp; omega) (wr.heap.size + 1) (by simp) ?_; intro g5 c5 w5 o5 gr5 l5 s5))
        have O5 := (HY.out.own.keep (new_below wr _)).push (x := ⟨true, f, kk, none, 0, 0⟩) (o := ⟨true, f, kk, []⟩) ⟨rfl, rfl, rfl, Rd.nil _⟩ (fun q hq ad e => by cases e) o5 gr5 l5 (by simp)
        have B5 : Below w1.heap.size w1 w5 := (HY.out.bel.alloc HY.out.bel.size _).grown gr5 (by simp; omega) (fun q hq => (HY.out.own.own.lt q hq).1)
        have W5 : w5.ownsRow w1.heap.size 5 1 u6 q (ys.map (Value.int .u8)) := ownsRow_fr (P := fun q => u5.ownBlock = some q) (HY.out.want.alloc _) ((Fr.refl _ _).grown gr5 (fun _ _ e => e)) (fun q hq e => own_apart HY.out.want HY.out.own.own (by decide) q hq e)
        have HN : Hid (Cw w1 w5 bs _ u6 false (k + 1) (t + kk) q _ _ ys) := HY.out.over hf1 hk1 hk2 O5 W5 B5 (by omega)
        clear O5 B5 W5 o5 gr5 l5 s5 HY
        go_wp2
        go_roundw
        case rel => exact ⟨p + 2, k + 1, t + kk, q, false, _, _, ys, by omega, by omega, by have := HPK.out; omega, by go_num, by go_num, by omega, by omega, rfl, HN⟩
        case measure => simp [intOf]; omega
      · have zo : decide ((N : Int) < (f : Int) + (kk : Int)) = false := decide_eq_false (by omega)
        have zo' : (f : Int) + (kk : Int) ≤ N := by omega
        have hfk : f + kk ≤ N := by omega
        go_wp2_with (first
          | (refine wpList_sub rfl _ _ _ rfl R5.out f kk hfk rfl (.inl rfl) (.inl (by rw [Int.natCast_add]; rfl)) ?_; intro ao2 c2 hr2 _)
          | (at_builtin; refine wpList_append_v rfl _ _ rfl w1.heap.size q u6 ys rfl W5.out ao2 kk c2 _ rfl hr2 (by omega) B5.out.size ?_; intro v6 w6 o6 gr6)
          | (at_builtin; refine wpList_append_lies _ rfl _ _ 32 rfl w1.heap.size 53 i0 (.agg #[.bool false, .int .i64 0, .int .i64 0, .slice none 0 0]) 4 48 Try.underlying32 hi0 hz0 hz1 hz2 rfl (by decide) u5 k _ rfl (HY.out.own.own.alloc _) ⟨wr.heap.size, 0, none⟩ 1 1 (oc ⟨true, f, kk, none, 0, 0⟩) rfl rfl (cell_four_new _ _ _ _ _ _) (oc_oneCell _) (by omega) (by unfold maxLen; omega) (by omega) (by simp; omega) (wr.heap.size + 1) (by simp) ?_; intro g5 c5 w5 o5 gr5 l5 s5; have O5 : Hid (OwO w5 53 w1.heap.size (.slice (some ⟨g5, 0, none⟩) (k + 1) c5) (k + 1) (ms ++ [⟨true, f, kk, none, 0, 0⟩]) (l ++ [⟨true, f, kk, []⟩])) := (HY.out.own.keep (new_below wr _)).push (x := ⟨true, f, kk, none, 0, 0⟩) (o := ⟨true, f, kk, []⟩) ⟨rfl, rfl, rfl, Rd.nil _⟩ (fun q hq ad e => by cases e) o5 gr5 l5 (by simp); have B5 : Hid (Below w1.heap.size w1 w5) := (HY.out.bel.alloc HY.out.bel.size _).grown gr5 (by simp; omega) (fun q hq => (HY.out.own.own.lt q hq).1); have W5 : Hid (w5.ownsRow w1.heap.size 5 1 u6 q (ys.map (Value.int .u8))) := ownsRow_fr (P := fun q => u5.ownBlock = some q) (HY.out.want.alloc _) ((Fr.refl _ _).grown gr5 (fun _ _ e => e)) (fun q hq e => own_apart HY.out.want HY.out.own.own (by decide) q hq e); have R5 : Hid (Rd w5 bo N C bs) := HB.out.keep (HB1.out.trans (B5.out.mono HB1.out.size)); clear o5 gr5 l5 s5))
        have B6 : Below w1.heap.size w1 w6 := B5.out.grown gr6 B5.out.size (fun q hq => (W5.out.lt q hq).1)
        have hdat := dat_app HY.out.own.lenx HY.out.dat f kk
        have O6 := O5.out.fr (P := fun q => u6.ownBlock = some q) ((Fr.refl _ _).grown gr6 (fun _ _ e => e)) (fun q hq => own_apart O5.out.own W5.out (by decide) q hq) (fun j hj ad e hm e2 => by have := hdat j hj; omega)
        have HN : Hid (Cw w1 w6 bs _ v6 ok (k + 1) (t + kk) (q + kk) _ _ _) := HY.out.under hf1 hk1 hk2 O6 o6 B6 (by omega) HBY.out
        clear O6 o6 gr6 B6 hdat O5 B5 W5 R5 HY
        go_wp2
        go_roundw
        case rel => exact ⟨p + 2, k + 1, t + kk, q + kk, ok, _, _, _, by omega, by omega, by have := HPK.out; omega, by go_num, by go_num, by omega, by omega, rfl, HN⟩
        case measure => simp [intOf]; omega
    · have zl : decide ((p : Int) + 1 < M) = false := decide_eq_false (by omega)
      have hk10 : k ≤ 10 := by have := HPK.out; omega
      have hBw := HB1.out.trans (HY.out.bel.mono HB1.out.size)
      obtain ⟨la, lc, elv, hlc, hOs, _⟩ := HY.out.own.os
      obtain ⟨wa, wcp, ewv, wrd, _⟩ := own_rd HY.out.want HY.out.byt
      subst elv ewv
      have hokp : ∀ o ∈ l, okp o := fun o ho => (HY.out.isk o ho).okp
      have hdl : (prt (N : Int) (t : Int) l).length ≤ 1000000 := by
        have h1 := sz_len_le 9 (N : Int)
        have h2 := sz_len_le 9 (t : Int)
        have h3 := prn_len l hokp
        have h4 := hOs.len
        unfold prt
        simp only [List.length_append]
        omega
      have hdb : ∀ x ∈ prt (N : Int) (t : Int) l, 0 ≤ x ∧ x < 256 := prt_byt N t l (by omega) (by omega) hokp (fun o ho x hx => by rw [(HY.out.isk o ho).2.2.2.2.2] at hx; cases hx)
      have hap := apy_cop (bs := bs) (t := t) HY.out.isk hbl HY.out.tt hN (by omega)
      have HYES : Hid (ok = true ↔ wins N l) := by rw [← hbl]; exact HY.out.yes
      have HANS : Hid (ok = true → ys = mks bs l) := HY.out.ans
      have HBYT : Hid (∀ y ∈ ys, 0 ≤ y ∧ y < 256) := HY.out.byt
      have i1 := rPrint_any (N : Int) (t : Int) la k lc ms l wr hOs (by omega) (by omega) (by omega)
      rw [pnt_yes (by omega) (by omega) hokp] at i1
      clear HY hlc hokp
      go_wp2_with fail
      refine i1.mono ?_
      rintro e w2 ⟨v2, rfl, o2, g2⟩
      have B2 := hBw.trans (g2.mono hBw.size)
      obtain ⟨da, dc, rfl, rd2, _⟩ := own_rd o2 hdb
      obtain ⟨dn, hdn⟩ : ∃ dn, dn = (prt (N : Int) (t : Int) l).length := ⟨_, rfl⟩
      rw [← hdn] at hdl rd2 ⊢
      have wrd2 := wrd.keep g2
      have b2 := HB.out.keep B2
      clear i1 o2 hdn wrd hOs
      have i2 := Apply_any bo N C bs da dn dc _ 16384 w2 b2 rd2 (by omega) hdl (by omega)
      rw [hap] at i2
      clear hap hdb
      cases ok with
      | true =>
        rw [if_pos (HYES.out.1 rfl), ← HANS.out rfl] at i2
        go_wp2_with fail
        refine i2.mono ?_
        rintro e w3 ⟨v3, rfl, o3, g3⟩
        have B3 := B2.trans (g3.mono B2.size)
        obtain ⟨xa, xc, rfl, x3, _⟩ := own_rd o3 HBYT.out
        have sx := x3.str
        have sw := (wrd2.keep g3).str
        clear i2 o3 wrd2 b2 rd2 x3
        go_wp2
        go_ret
        exact ⟨rfl, B3⟩
      | false =>
        rw [if_neg (fun hw => by have := HYES.out.2 hw; cases this)] at i2
        go_wp2_with fail
        refine i2.mono ?_
        rintro e w3 ⟨v3, rfl, o3, g3⟩
        have B3 := B2.trans (g3.mono B2.size)
        obtain ⟨xa, xc, rfl, x3, _⟩ := own_rd o3 (fun x hx => by cases hx)
        clear i2 o3 wrd2 b2 rd2 x3
        go_wp2
        go_ret
        exact ⟨rfl, B3⟩

end Go.Proofs.Ythaibdflehnbbaa
