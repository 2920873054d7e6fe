/- Find. -/
import Derived.Test.YtgdodphpomkakaaWLong
namespace Go.Proofs.Ytgdodphpomkakaa
open Go.RowKit Go.Maps

theorem lits_good (xs : List Int) (k : Nat) (hk : k ≤ xs.length) (hb : ∀ x ∈ xs, 0 ≤ x ∧ x < 256) : Fnd xs k (lits (xs.take k)) := by
  induction k with
  | zero => simp [lits]; exact Fnd.nil xs
  | succ k ih =>
    have h := (ih (by omega)).step hb (by omega) (t := (xs.getD k 0, 0, 0)) (.inl rfl)
    have e : lits (xs.take (k + 1)) = lits (xs.take k) ++ [(xs.getD k 0, 0, 0)] := by
      rw [take_one xs 0 k (by omega)]
      simp [lits]
    have e1 : sz (xs.getD k 0, 0, 0) = 1 := by simp [sz]
    rw [e1] at h
    rw [e]
    exact h

theorem lits_all (xs : List Int) (hb : ∀ x ∈ xs, 0 ≤ x ∧ x < 256) : Fnd xs xs.length (lits xs) := by
  have := lits_good xs xs.length (Nat.le_refl _) hb
  rwa [List.take_length] at this

theorem own_ne {w : World} {base e s n : Nat} {v : Value} {xs : List Value} (h : w.ownsRow base e s v n xs) {r t m : Nat} {f : Nat → Value} (hr : w.rowIs r t m f) (hne : e ≠ t) : v.ownBlock ≠ some r := by
  intro e1
  rcases h.2 with ⟨rfl, _⟩ | ⟨g, cap, cur, rfl, _, hh, _⟩
  · cases e1
  · cases e1
    rw [rowIs_block hr] at hh
    simp at hh
    exact hne hh.2.symm

theorem own_nm {w : World} {base e s n : Nat} {v : Value} {xs : List Value} (h : w.ownsRow base e s v n xs) {r : Nat} {es : Array MapEntry} {clock : Nat} (hr : w.heap[r]? = some (.map es clock)) : v.ownBlock ≠ some r := by
  intro e1
  rcases h.2 with ⟨rfl, _⟩ | ⟨g, cap, cur, rfl, _, hh, _⟩
  · cases e1
  · cases e1
    rw [hr] at hh
    simp at hh

/-- Tokens of the call's own lie apart from the chains. -/
theorem IsCh.own {w : World} {B R : Nat} {ao : Option Addr} {N c M g : Nat} {b : List Int} {A : Nat → Int} {D : DataW Unit} {p : Nat} (h : IsCh w B R ao N c M g b A D p) {base s n : Nat} {v : Value} {xs : List Value} (ho : w.ownsRow base 40 s v n xs) : v.ownBlock ≠ some R ∧ v.ownBlock ≠ some M ∧ v.ownBlock ≠ some g := by
  obtain ⟨es, clock, hM, _⟩ := h.map
  exact ⟨own_ne ho h.row (by decide), own_nm ho hM, own_ne ho h.ahd (by decide)⟩

/-- What Find answers. -/
structure Fd (b : List Int) (eff : Int) (ts : List Tok) : Prop where
  fnd : Fnd b b.length ts
  lit : eff ≤ 0 → ts.length = b.length
  few : ∀ q, Per b q → 1 ≤ q → (q : Int) ≤ eff → q ≤ 32768 → Few b.length q b.length ts.length

set_option maxRecDepth 100000 in
set_option maxHeartbeats 4000000 in
theorem find_any (ao : Option Addr) (N c : Nat) (b : List Int) (eff : Int) (w : World) (h : Rd w ao N c b) (hN : N ≤ 262144) (he1 : eff < 9223372036854775808) :
    Calls Try.prog 15 #[.slice ao N c, .int .i64 eff] w fun e w' => ∃ v ts, e = .returned v ∧ Fd b eff ts ∧ w'.ownsRow w.heap.size 40 3 v ts.length (tcs ts) ∧ Below w.heap.size w w' := by
  have hlen := h.len
  by_cases he : eff ≤ 0
  · have hl := literals_any ao N c b w h (by omega)
    have HF : Hid (Fd b eff (lits b)) := ⟨lits_all b h.byt, fun _ => lits_len b, fun q _ q1 q2 => by omega⟩
    have HL : Hid ((lits b).length = N) := by rw [lits_len]; exact hlen
    clear h hlen
    go_enter Try.func15, Try.ntmps15
    go_wp2_with (go_at_call 21; refine hl.mono ?_; rintro e w1 ⟨v, rfl, o1, b1⟩)
    go_ret
    exact ⟨_, lits b, rfl, HF.out, by rw [HL.out]; exact o1, b1⟩
  · have hnew := newChains_any ao N c b w h (by omega)
    have HR : Hid (Rd w ao N c b) := h
    have HLN : Hid (b.length = N) := hlen
    clear h hlen
    obtain ⟨i0, hi, hz0, hz1, hz2⟩ := info_parts Try.info40
    go_enter Try.func15, Try.ntmps15
    go_wp2_with (go_at_call 22; refine hnew.mono ?_; rintro e w1 ⟨R, M, g, rfl, hc1, b1⟩)
    have HC1 : Hid (IsCh w1 w.heap.size R ao N c M g b (fun _ => 0) (.map []) 0) := hc1
    have HB1 : Hid (Below w.heap.size w w1) := b1
    clear hc1 b1 hnew
    go_loopw [5, 7] (fun lv av wr => ∃ (p : Nat) (A : Nat → Int) (D : DataW Unit) (ts : List Tok), p ≤ N ∧ av = .int .i64 p ∧ Hid (IsCh wr w.heap.size R ao N c M g b A D p) ∧ Hid (wr.ownsRow w.heap.size 40 3 lv ts.length (tcs ts)) ∧ Hid (Fnd b p ts ∧ ∀ q, Per b q → 1 ≤ q → (q : Int) ≤ eff → q ≤ 32768 → Few N q p ts.length) ∧ Hid (Below w.heap.size w wr)) (fun _ av _ => N - (intOf av).toNat)
    case atStart => exact ⟨0, _, _, [], by omega, rfl, HC1, World.ownsRow_nil _ _ _ _, ⟨Fnd.nil b, fun q _ _ _ _ => by unfold Few; simp⟩, HB1⟩
    case round =>
      clear HC1 HB1
      obtain ⟨p, A, D, ts, hp, rfl, HC, HO, HF, HB⟩ := hrel
      by_cases hlt : p < N
      · have hlg := longest_any w.heap.size R ao N c M g b A D p eff wr HC.out (by omega) hlt (by omega) he1
        go_wp2_with fail
        refine hlg.mono ?_
        rintro e w2 ⟨l, n, d, rfl, hgood, hfew, hb2⟩
        have HC2 := HC.out.keep hb2
        have HO2 := own_keep HO.out hb2
        have B2 : Below w.heap.size w w2 := HB.out.trans (hb2.mono HB.out.size)
        have hap := HC2.own HO2
        have hlt2 : ∀ q, u5.ownBlock = some q → w.heap.size ≤ q ∧ q < w2.heap.size := HO2.lt
        have hposn := hgood.pos (by rw [HLN.out]; exact hlt)
        rw [HLN.out] at hposn
        have hcnt := HF.out.1.cnt
        have HF2 : Hid (Fnd b (p + sz (l, n, d)) (ts ++ [(l, n, d)]) ∧ ∀ q, Per b q → 1 ≤ q → (q : Int) ≤ eff → q ≤ 32768 → Few N q (p + sz (l, n, d)) (ts ++ [(l, n, d)]).length) := by
          refine ⟨HF.out.1.step HR.out.byt (by rw [HLN.out]; exact hlt) hgood, fun q q0 q1 q2 q3 => ?_⟩
          rw [List.length_append]
          exact (HF.out.2 q q0 q1 q2 q3).step hcnt hlt hposn.1 hposn.2 (fun a1 a2 => hfew q q0 q1 q2 q3 a1 a2)
        obtain ⟨C, hCC⟩ : ∃ C, C = ts.length := ⟨_, rfl⟩
        have HCC : Hid (C = ts.length) := hCC
        rw [← hCC] at HO2 hcnt
        have b3 : Below w2.heap.size w2 (w2.alloc (Obj.cells #[Value.int .u8 l, Value.int .i64 n, Value.int .i64 d] 40)) := (Below.refl _ _).alloc (Nat.le_refl _) _
        have b4 := b3.alloc b3.size (Obj.cells #[Value.int .u8 l, Value.int .i64 n, Value.int .i64 d] 40)
        have e3 : (w2.alloc (Obj.cells #[Value.int .u8 l, Value.int .i64 n, Value.int .i64 d] 40)).heap.size = w2.heap.size + 1 := by simp
        have HN3 : Hid (∀ j u, [Value.int .u8 l, Value.int .i64 n, Value.int .i64 d][j]? = some u → ((w2.alloc (Obj.cells #[Value.int .u8 l, Value.int .i64 n, Value.int .i64 d] 40)).alloc (Obj.cells #[Value.int .u8 l, Value.int .i64 n, Value.int .i64 d] 40)).cell? ((⟨w2.heap.size + 1, 0, none⟩ : Addr).add j) = some u) := by
          have := cell_three_new (w2.alloc (Obj.cells #[Value.int .u8 l, Value.int .i64 n, Value.int .i64 d] 40)) (.int .u8 l) (.int .i64 n) (.int .i64 d) 40
          rw [e3] at this
          exact this
        have HX4 : Hid (Bx ((w2.alloc (Obj.cells #[Value.int .u8 l, Value.int .i64 n, Value.int .i64 d] 40)).alloc (Obj.cells #[Value.int .u8 l, Value.int .i64 n, Value.int .i64 d] 40)) w2.heap.size (.int .u8 l) (.int .i64 n) (.int .i64 d)) := (Bx.new w2 (.int .u8 l) (.int .i64 n) (.int .i64 d) 40).alloc _
        have HC4 : Hid (IsCh ((w2.alloc (Obj.cells #[Value.int .u8 l, Value.int .i64 n, Value.int .i64 d] 40)).alloc (Obj.cells #[Value.int .u8 l, Value.int .i64 n, Value.int .i64 d] 40)) w.heap.size R ao N c M g b A D p) := HC2.keep b4
        have HO4 : Hid (((w2.alloc (Obj.cells #[Value.int .u8 l, Value.int .i64 n, Value.int .i64 d] 40)).alloc (Obj.cells #[Value.int .u8 l, Value.int .i64 n, Value.int .i64 d] 40)).ownsRow w.heap.size 40 3 u5 C (tcs ts)) := own_keep HO2 b4
        have HB4 : Hid (Below w.heap.size w ((w2.alloc (Obj.cells #[Value.int .u8 l, Value.int .i64 n, Value.int .i64 d] 40)).alloc (Obj.cells #[Value.int .u8 l, Value.int .i64 n, Value.int .i64 d] 40))) := B2.trans (b4.mono B2.size)
        have HAP : Hid ((u5.ownBlock ≠ some R ∧ u5.ownBlock ≠ some M ∧ u5.ownBlock ≠ some g) ∧ ∀ q, u5.ownBlock = some q → w.heap.size ≤ q ∧ q < w2.heap.size) := ⟨hap, hlt2⟩
        have hsz := fun W => size_any (l, n, d) W
        obtain ⟨s, hs⟩ : ∃ s, s = sz (l, n, d) := ⟨_, rfl⟩
        have HS : Hid (s = sz (l, n, d)) := hs
        simp only [← hs] at hsz
        rw [← hs] at hposn HF2
        have hC9 : C ≤ 262144 := by omega
        clear HC HO HF HB hlg hgood hfew hb2 HC2 HO2 B2 hap hlt2 hCC b3 b4 e3 hs hcnt
        go_wp2_with (first | (at_builtin; refine wpList_append_own _ rfl _ _ 22 rfl w.heap.size 40 i0 (.agg #[.int .u8 0, .int .i64 0, .int .i64 0]) 3 24 Try.underlying22 hi hz0 hz1 hz2 rfl (by decide) u5 C _ rfl HO4.out ⟨w2.heap.size + 1, 0, none⟩ 1 1 [.int .u8 l, .int .i64 n, .int .i64 d] rfl rfl HN3.out (by intro u hu; simp at hu; rcases hu with rfl | rfl | rfl <;> rfl) (by unfold maxLen; omega) (by omega) HB4.out.size ?_; intro v5 w5 o5 g5 n5; obtain ⟨x0, x1, x2⟩ := HX4.out.grown g5 (fun e => by have := (HAP.out.2 _ e).2; omega)) | (go_at_call 20; refine (hsz _).mono ?_; rintro e w6 ⟨rfl, hb6⟩))
        have F5 : Fr (fun k => u5.ownBlock = some k) _ w5 := (Fr.refl _ _).grown g5 (fun k _ e => e)
        have HC6 : Hid (IsCh w6 w.heap.size R ao N c M g b A D p) := (HC4.out.fr F5 HAP.out.1.1 HAP.out.1.2.1 HAP.out.1.2.2 (fun k hk e => by have := (HAP.out.2 _ e).1; omega)).keep hb6
        have B5 : Below w.heap.size w w5 := HB4.out.grown g5 HB4.out.size (fun q hq => (HAP.out.2 q hq).1)
        have HB6 : Hid (Below w.heap.size w w6) := B5.trans (hb6.mono B5.size)
        have HO6 : Hid (w6.ownsRow w.heap.size 40 3 v5 (ts ++ [(l, n, d)]).length (tcs (ts ++ [(l, n, d)]))) := by
          have := own_keep o5 hb6
          rw [HCC.out] at this
          rw [List.length_append, tcs_app, tcs_one]
          exact this
        generalize ts ++ [(l, n, d)] = us at *
        clear F5 B5 o5 g5 n5 x0 x1 x2 hb6 HC4 HO4 HB4 HX4 HN3 HAP hsz HS HCC
        go_loopw [7, 32] (fun av qv wq => ∃ (q : Nat) (A' : Nat → Int) (D' : DataW Unit), q ≤ s ∧ av = .int .i64 (p + q : Nat) ∧ qv = .int .i64 q ∧ Hid (IsCh wq w.heap.size R ao N c M g b A' D' (p + q)) ∧ Hid (wq.ownsRow w.heap.size 40 3 v5 us.length (tcs us)) ∧ Hid (Below w.heap.size w wq)) (fun _ qv _ => s - (intOf qv).toNat)
        case atStart => exact ⟨0, A, D, by omega, rfl, rfl, HC6, HO6, HB6⟩
        case round =>
          clear HC6 HO6 HB6
          obtain ⟨q, A', D', hq, rfl, rfl, HCq, HOq, HBq⟩ := hrel
          by_cases hql : q < s
          · have hadd := add_any w.heap.size R ao N c M g b A' D' (p + q) wr HCq.out (by omega) (by omega)
            go_wp2_with (go_at_call 24; refine hadd.mono ?_; rintro e w7 ⟨A7, D7, rfl, hc7, f7⟩)
            have hap := HCq.out.own HOq.out
            have HC7 : Hid (IsCh w7 w.heap.size R ao N c M g b A7 D7 (p + q + 1)) := hc7
            have HO7 : Hid (w7.ownsRow w.heap.size 40 3 v5 us.length (tcs us)) := ownsRow_fr HOq.out f7 (fun k hk e => by rcases e with rfl | rfl; exact hap.2.1 hk; exact hap.2.2 hk)
            have HB7 : Hid (Below w.heap.size w w7) := HBq.out.trans (f7.below w.heap.size HBq.out.size (fun k hk e => by have := HCq.out.low; omega))
            clear hc7 f7 hap HCq HOq HBq hadd
            go_roundw
            case rel => exact ⟨q + 1, A7, D7, by omega, by go_num, by go_num, HC7, HO7, HB7⟩
            case measure => simp [intOf]; omega
          · obtain rfl : q = s := by omega
            clear hql
            go_wp2
            go_roundw
            case rel => exact ⟨p + q, A', D', us, by omega, rfl, HCq, HOq, HF2, HBq⟩
            case measure => simp [intOf]; omega
      · obtain rfl : p = N := by omega
        have hF : Fd b eff ts := ⟨by rw [HLN.out]; exact HF.out.1, (fun h => by omega), by rw [HLN.out]; exact HF.out.2⟩
        have HFD : Hid (Fd b eff ts) := hF
        clear hF
        go_wp2
        go_ret
        exact ⟨_, ts, rfl, HFD.out, HO.out, HB.out⟩

end Go.Proofs.Ytgdodphpomkakaa
