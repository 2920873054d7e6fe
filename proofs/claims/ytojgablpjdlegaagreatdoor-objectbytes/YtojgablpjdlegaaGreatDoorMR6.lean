/- Oa, Ob, Oc, Od, Olg. -/
import Derived.Test.YtojgablpjdlegaaGreatDoorMR5
import Derived.Test.YtojgablpjdlegaaGreatDoorMC10
import Derived.Test.YtojgablpjdlegaaGreatDoorMC06
import Derived.Test.YtojgablpjdlegaaGreatDoorMC07
import Derived.Test.YtojgablpjdlegaaGreatDoorMT06
import Derived.Test.YtojgablpjdlegaaGreatDoorMR0
import Derived.Test.YtojgablpjdlegaaGreatDoorMR4
import Derived.Test.YtojgablpjdlegaaGreatDoorMC12
import Derived.Test.YtojgablpjdlegaaGreatDoorMT07
import Derived.Test.YtojgablpjdlegaaGreatDoorM19
import Derived.Test.YtojgablpjdlegaaGreatDoorM08
/- Any bytes, read by both: a tree, a commit, a tag. -/
namespace Go.Proofs.YtojgablpjdlegaaGreatDoor
open Go.RowKit Go.Shelf

/-- A tree, read by both. -/
structure AgT (ao : Option Addr) (n c : Nat) (xs : List Int) (d : List En) (e : Int) : Prop where
  len : d.length < 20000
  parse : ∀ W, Ts W → Rd W ao n c xs → Calls Tryz.prog 56 #[.int .i64 2, .slice ao n c] W fun ex w' => ∃ f, ex = .returned (.tuple #[row f 50, .int .i64 e]) ∧ (∀ j, (f j).oneCell' = true) ∧ Pe (W.heap.size + 1) e d f w' ∧ Below W.heap.size W w'
  ref : ∀ W, Ts W → Rd W ao n c xs → Calls Tryz.prog 22 #[.slice ao n c] W fun ex w' => ∃ v, ex = .returned (.tuple #[v, .int .i64 e]) ∧ Dx W.heap.size w' v d.toArray ∧ Below W.heap.size W w'
  no : e ≠ 0 → d = []
  far : 16384 < n → e = 5

theorem agT (ao : Option Addr) (n c : Nat) (xs : List Int) (hl : xs.length = n) (hb : ∀ b ∈ xs, 0 ≤ b ∧ b < 256) : ∃ d e, AgT ao n c xs d e := by
  by_cases hn : n ≤ 16384
  · have hlt : (tb xs).length = n := by rw [tb_len, hl]
    by_cases h : ∃ d, isT xs d
    · obtain ⟨d, hd⟩ := h
      have hE : Ens (tb xs) 0 d 0 := by
        have := ens_sd d hd.1
        rwa [hd.2] at this
      have hdl := ens_len hE
      have het := tef_tc xs d hd
      by_cases h0 : tc d true = 0
      · refine ⟨d, 0, ⟨by omega, fun W ht hr => ?_, fun W ht hr => ?_, fun h => absurd rfl h, fun h => absurd hn (by omega)⟩⟩
        · have := parse_tree ao n c xs d 0 W ht hr hn hE
          rw [het, h0] at this
          exact this
        · refine (rdecT_yes ao n c xs W hr hn d hd).mono ?_
          rintro ex w' ⟨v, rfl, g1, _, g3⟩
          exact ⟨v, by rw [h0], g1 h0, g3⟩
      · refine ⟨[], tc d true, ⟨by simp, fun W ht hr => ?_, fun W ht hr => ?_, fun _ => rfl, fun h => absurd hn (by omega)⟩⟩
        · have := parse_tree ao n c xs d 0 W ht hr hn hE
          rw [het] at this
          refine this.mono ?_
          rintro ex w' ⟨f, rfl, g1, g2, g3⟩
          exact ⟨f, rfl, g1, ⟨fun h => absurd h h0, g2.no⟩, g3⟩
        · refine (rdecT_yes ao n c xs W hr hn d hd).mono ?_
          rintro ex w' ⟨v, rfl, _, g2, g3⟩
          exact ⟨v, rfl, by rw [g2 h0]; exact dx_nil _ _, g3⟩
    · have hno : ∀ d, ¬ isT xs d := fun d hd => h ⟨d, hd⟩
      obtain ⟨es, e1, hE⟩ := ens_ex _ (tb xs) 0 (Nat.le_refl _)
      have het := tef_no xs hb es e1 hE hno
      refine ⟨[], 2, ⟨by simp, fun W ht hr => ?_, fun W ht hr => ?_, fun _ => rfl, fun h => absurd hn (by omega)⟩⟩
      · have := parse_tree ao n c xs es e1 W ht hr hn hE
        rw [het] at this
        refine this.mono ?_
        rintro ex w' ⟨f, rfl, g1, g2, g3⟩
        exact ⟨f, rfl, g1, ⟨fun h => absurd h (by omega), g2.no⟩, g3⟩
      · refine (rdecT_no ao n c xs W hr hn hno).mono ?_
        rintro ex w' ⟨rfl, g3⟩
        exact ⟨nlv, rfl, dx_nil _ _, g3⟩
  · refine ⟨[], 5, ⟨by simp, fun W ht hr => ?_, fun W ht hr => ?_, fun _ => rfl, fun _ => rfl⟩⟩
    · refine (parse_far 2 rfl ao n c W ht.gs (by omega)).mono ?_
      rintro ex w' ⟨rfl, g⟩
      exact ⟨ps0, rfl, fun j => ps0_one j, ⟨fun h => absurd h (by omega), fun _ => rfl⟩, g⟩
    · refine (rdecT_far ao n c W (by omega)).mono ?_
      rintro ex w' ⟨rfl, g⟩
      exact ⟨nlv, rfl, dx_nil _ _, g⟩

/-- A commit, read by both. -/
structure AgC (ao : Option Addr) (n c : Nat) (xs : List Int) (T : List Int) (DS : List (List Int)) (A C M : List UInt8) (e : Int) : Prop where
  id : IsId T
  len : DS.length < 20000
  parse : ∀ W, Ts W → Rd W ao n c xs → Calls Tryz.prog 56 #[.int .i64 1, .slice ao n c] W fun ex w' => ∃ f, ex = .returned (.tuple #[row f 50, .int .i64 e]) ∧ (∀ j, (f j).oneCell' = true) ∧ Pc (W.heap.size + 1) e T DS A C M f w' ∧ Below W.heap.size W w'
  ref : ∀ W, Ts W → Rd W ao n c xs → Calls Tryz.prog 24 #[.slice ao n c] W fun ex w' => ∃ v, ex = .returned (.tuple #[cmv T v A C M, .int .i64 e]) ∧ (e ≠ 0 → v = nlv) ∧ Dn W.heap.size w' v DS.toArray ∧ Below W.heap.size W w'
  no : e ≠ 0 → T = z20 ∧ DS = [] ∧ A = [] ∧ C = [] ∧ M = []
  far : 16384 < n → e = 5

theorem agC (ao : Option Addr) (n c : Nat) (xs : List Int) : ∃ T DS A C M e, AgC ao n c xs T DS A C M e := by
  by_cases hn : n ≤ 16384
  · by_cases h : nocm xs
    · obtain ⟨T, DS, A, C, M, e, hE⟩ := cmg_ex (tb xs) 0
      have he : e = 2 := by
        rcases cmg_err hE with rfl | rfl
        · obtain ⟨h1, h2, h3, h4⟩ := cmg_inv hE
          exact absurd h1 (h T DS A C M h3 h4 h2)
        · rfl
      subst he
      refine ⟨z20, [], [], [], [], 2, ⟨kz_id, by simp, fun W ht hr => ?_, fun W ht hr => ?_, fun _ => ⟨rfl, rfl, rfl, rfl, rfl⟩, fun h => absurd hn (by omega)⟩⟩
      · refine (parse_commit ao n c xs T DS A C M 2 W ht.gs hr hn hE).mono ?_
        rintro ex w' ⟨f, rfl, g1, g2, g3⟩
        exact ⟨f, rfl, g1, ⟨fun h => absurd h (by omega), g2.no⟩, g3⟩
      · refine (rdecC_no ao n c xs W hr hn h).mono ?_
        rintro ex w' ⟨rfl, g3⟩
        exact ⟨nlv, rfl, fun _ => rfl, dn_nil _ _, g3⟩
    · obtain ⟨T, DS, A, C, M, h1, h2, h3, h4⟩ : ∃ T DS A C M, IsId T ∧ (∀ x ∈ DS, IsId x) ∧ mb A C DS = true ∧ enc T DS A C M = tb xs := by
        apply Classical.byContradiction
        intro hc
        exact h fun T DS A C M a1 a2 a3 a4 => hc ⟨T, DS, A, C, M, a1, a2, a3, a4⟩
      have hE : Cmg (tb xs) 0 T DS A C M 0 := by
        rw [← h4]
        exact cmg_enc T DS A C M h1 h2 h3
      refine ⟨T, DS, A, C, M, 0, ⟨h1, ?_, fun W ht hr => ?_, fun W ht hr => ?_, fun h => absurd rfl h, fun h => absurd hn (by omega)⟩⟩
      · unfold mb at h3
        simp only [Bool.and_eq_true, decide_eq_true_eq] at h3
        omega
      · exact parse_commit ao n c xs T DS A C M 0 W ht.gs hr hn hE
      · refine (rdecC_yes ao n c xs W hr hn T DS A C M h1 h2 h3 h4).mono ?_
        rintro ex w' ⟨v, rfl, g2, g3⟩
        exact ⟨v, rfl, fun h => absurd rfl h, g2, g3⟩
  · refine ⟨z20, [], [], [], [], 5, ⟨kz_id, by simp, fun W ht hr => ?_, fun W ht hr => ?_, fun _ => ⟨rfl, rfl, rfl, rfl, rfl⟩, fun _ => rfl⟩⟩
    · refine (parse_far 1 rfl ao n c W ht.gs (by omega)).mono ?_
      rintro ex w' ⟨rfl, g⟩
      exact ⟨ps0, rfl, fun j => ps0_one j, ⟨fun h => absurd h (by omega), fun _ => rfl⟩, g⟩
    · refine (rdecC_far ao n c W (by omega)).mono ?_
      rintro ex w' ⟨rfl, g⟩
      exact ⟨nlv, rfl, fun _ => rfl, dn_nil _ _, g⟩

/-- A tag, read by both. -/
structure AgG (ao : Option Addr) (n c : Nat) (xs : List Int) (T : List Int) (K : Int) (N G M : List UInt8) (e : Int) : Prop where
  id : IsId T
  parse : ∀ W, Ts W → Rd W ao n c xs → Calls Tryz.prog 56 #[.int .i64 4, .slice ao n c] W fun ex w' => ∃ f, ex = .returned (.tuple #[row f 50, .int .i64 e]) ∧ (∀ j, (f j).oneCell' = true) ∧ Pt (W.heap.size + 1) e T K N G M f w' ∧ Below W.heap.size W w'
  ref : ∀ W, Ts W → Rd W ao n c xs → Calls Tryz.prog 26 #[.slice ao n c] W fun ex w' => ex = .returned (.tuple #[tmv T K N G M, .int .i64 e]) ∧ Below W.heap.size W w'
  no : e ≠ 0 → T = z20 ∧ K = 0 ∧ N = [] ∧ G = [] ∧ M = []
  far : 16384 < n → e = 5

theorem agG (ao : Option Addr) (n c : Nat) (xs : List Int) : ∃ T K N G M e, AgG ao n c xs T K N G M e := by
  by_cases hn : n ≤ 16384
  · by_cases h : notg xs
    · obtain ⟨T, K, N, G, M, e, hE⟩ := tgg_ex (tb xs) 0
      have he : e = 2 := by
        rcases tgg_err hE with rfl | rfl
        · obtain ⟨h1, h2, h3⟩ := tgg_inv hE
          exact absurd h1 (h T K N G M h3 h2)
        · rfl
      subst he
      refine ⟨z20, 0, [], [], [], 2, ⟨kz_id, fun W ht hr => ?_, fun W ht hr => ?_, fun _ => ⟨rfl, rfl, rfl, rfl, rfl⟩, fun h => absurd hn (by omega)⟩⟩
      · refine (parse_tag ao n c xs T K N G M 2 W ht.gs hr hn hE).mono ?_
        rintro ex w' ⟨f, rfl, g1, g2, g3⟩
        exact ⟨f, rfl, g1, ⟨fun h => absurd h (by omega), g2.no⟩, g3⟩
      · exact rdecG_no ao n c xs W hr hn h
    · obtain ⟨T, K, N, G, M, h1, h2, h3⟩ : ∃ T K N G M, IsId T ∧ mbT K N G = true ∧ encT T K N G M = tb xs := by
        apply Classical.byContradiction
        intro hc
        exact h fun T K N G M a1 a2 a3 => hc ⟨T, K, N, G, M, a1, a2, a3⟩
      have hE : Tgg (tb xs) 0 T K N G M 0 := by
        rw [← h3]
        exact tgg_enc T K N G M h1 h2
      refine ⟨T, K, N, G, M, 0, ⟨h1, fun W ht hr => ?_, fun W ht hr => ?_, fun h => absurd rfl h, fun h => absurd hn (by omega)⟩⟩
      · exact parse_tag ao n c xs T K N G M 0 W ht.gs hr hn hE
      · exact rdecG_yes ao n c xs W hr hn T K N G M h1 h2 h3
  · refine ⟨z20, 0, [], [], [], 5, ⟨kz_id, fun W ht hr => ?_, fun W ht hr => ?_, fun _ => ⟨rfl, rfl, rfl, rfl, rfl⟩, fun _ => rfl⟩⟩
    · refine (parse_far 4 rfl ao n c W ht.gs (by omega)).mono ?_
      rintro ex w' ⟨rfl, g⟩
      exact ⟨ps0, rfl, fun j => ps0_one j, ⟨fun h => absurd h (by omega), fun _ => rfl⟩, g⟩
    · exact rdecG_far ao n c W (by omega)

end Go.Proofs.YtojgablpjdlegaaGreatDoor

/- Any bytes of any kind: what they lead to, whether they are one, by both. -/
namespace Go.Proofs.YtojgablpjdlegaaGreatDoor
open Go.RowKit Go.Shelf

set_option maxRecDepth 100000 in
theorem decTree_gen (e : Int) (ES : List En) (ao : Option Addr) (n c : Nat) (w : World)
    (hpa : Calls Tryz.prog 56 #[.int .i64 2, .slice ao n c] w fun ex w' => ∃ f, ex = .returned (.tuple #[row f 50, .int .i64 e]) ∧ (∀ j, (f j).oneCell' = true) ∧ Pe (w.heap.size + 1) e ES f w' ∧ Below w.heap.size w w') :
    Calls Tryz.prog 21 #[.slice ao n c] w fun ex w' => ∃ v, ex = .returned (.tuple #[v, .int .i64 e]) ∧ (e = 0 → De (w.heap.size + 1) w' v ES.toArray) ∧ (e ≠ 0 → v = nlv) ∧ Below w.heap.size w w' := by
  have hz := zero107
  go_enter Tryz.func21, Tryz.ntmps21
  go_wp2_with fail
  refine hpa.mono ?_
  rintro ex w1 ⟨f, rfl, hone, hq, b1⟩
  have z1 := rowIs_vals w1 ps0 50 107
  have HB1 : Hid (Below w.heap.size w w1) := b1
  have HQ : Hid (Pe (w.heap.size + 1) e ES f w1) := hq
  obtain ⟨pa, pm, pb, hpp⟩ : ∃ a m b, f 0 = .slice a m b := by
    by_cases he : e = 0
    · obtain ⟨ev, edv, h1, h2, _⟩ := hq.ok he
      obtain ⟨a, b, hev⟩ := h2.shape
      exact ⟨a, _, b, by rw [h1, ← hev]; rfl⟩
    · exact ⟨none, 0, 0, by rw [hq.no he]; rfl⟩
  have HP : Hid (f 0 = .slice pa pm pb) := hpp
  clear hpa b1 hq hpp
  go_wp2_with ((refine wpList_st rfl 107 _ _ rfl w1.heap.size rfl f rfl z1 (by kernel_rfl) hone ?_; intro w2 r2 f2; have HB2 : Hid (Below w.heap.size w w2) := HB1.out.trans ((new_fr f2).mono HB1.out.size); have HK2 : Hid (Below w1.heap.size w1 w2) := new_fr f2; have k2 : w2.cell? ⟨w1.heap.size, 0, none⟩ = some (.slice pa pm pb) := (by rw [r2.cell (i := 0) (by omega), HP.out]); clear r2 f2))
  go_ret2
  refine ⟨.slice pa pm pb, rfl, fun he => ?_, fun he => ?_, HB2.out⟩
  · obtain ⟨ev, edv, h1, h2, _⟩ := HQ.out.ok he
    have h3 := HP.out
    rw [h1] at h3
    have h4 : ev = .slice pa pm pb := h3
    rw [← h4]
    exact h2.keep HK2.out
  · have h3 := HP.out
    rw [HQ.out.no he] at h3
    exact h3.symm

theorem AgT.prog {ao : Option Addr} {n c : Nat} {xs : List Int} {d : List En} {e : Int} (h : AgT ao n c xs d e) (W : World) (ht : Ts W) (hr : Rd W ao n c xs) :
    Calls Tryz.prog 21 #[.slice ao n c] W fun ex w' => ∃ v, ex = .returned (.tuple #[v, .int .i64 e]) ∧ De W.heap.size w' v d.toArray ∧ Below W.heap.size W w' := by
  refine (decTree_gen e d ao n c W (h.parse W ht hr)).mono ?_
  rintro ex w' ⟨v, rfl, g1, g2, g3⟩
  refine ⟨v, rfl, ?_, g3⟩
  by_cases h0 : e = 0
  · exact (g1 h0).low (by omega)
  · rw [g2 h0, h.no h0]
    exact de_nil _ _

theorem AgC.prog {ao : Option Addr} {n c : Nat} {xs : List Int} {T : List Int} {DS : List (List Int)} {A C M : List UInt8} {e : Int} (h : AgC ao n c xs T DS A C M e) (W : World) (ht : Ts W) (hr : Rd W ao n c xs) :
    Calls Tryz.prog 23 #[.slice ao n c] W fun ex w' => ∃ v, ex = .returned (.tuple #[cmv T v A C M, .int .i64 e]) ∧ Dp W.heap.size w' v DS.toArray ∧ Below W.heap.size W w' := by
  refine (decodeCommit_gen e ao n c W (fun f w' => Pc (W.heap.size + 1) e T DS A C M f w') (fun f w1 w2 h hb => h.keep hb) (fun V hV => ?_)).mono ?_
  · refine (h.parse V (ht.keep hV) (hr.keep hV)).mono ?_
    rintro ex w' ⟨f, rfl, h1, h2, h3⟩
    exact ⟨f, rfl, h1, ⟨fun he => by obtain ⟨v, ve, g1, g2, g3⟩ := h2.ok he; exact ⟨v, ve, g1, g2.low (by have := hV.size; omega), g3.low (by have := hV.size; omega)⟩, h2.no⟩, h3⟩
  · rintro ex w' ⟨f, rfl, ⟨w1, hq, hf, hs⟩, hb⟩
    by_cases he : e = 0
    · obtain ⟨v, ve, rfl, g2, g3⟩ := hq.ok he
      refine ⟨v, ?_, (g2.fr hf (fun k hk e => by omega)).low (by omega), hb⟩
      rw [psf_cf]
    · have h0 := hq.no he
      subst h0
      obtain ⟨rfl, rfl, rfl, rfl, rfl⟩ := h.no he
      refine ⟨nlv, ?_, dp_nil _ _, hb⟩
      show Ending.returned (.tuple #[row (fun j => psf nlv (cf z20 nlv [] [] []) (tf z20 0 [] [] []) nlv (1 + j)) 24, .int .i64 e]) = _
      rw [psf_cf]

theorem AgG.prog {ao : Option Addr} {n c : Nat} {xs : List Int} {T : List Int} {K : Int} {N G M : List UInt8} {e : Int} (h : AgG ao n c xs T K N G M e) (W : World) (ht : Ts W) (hr : Rd W ao n c xs) :
    Calls Tryz.prog 25 #[.slice ao n c] W fun ex w' => ex = .returned (.tuple #[tmv T K N G M, .int .i64 e]) ∧ Below W.heap.size W w' := by
  refine (decodeTag_gen e ao n c W (fun f w' => Pt (W.heap.size + 1) e T K N G M f w') (fun f w1 w2 h hb => h.keep hb) (fun V hV => ?_)).mono ?_
  · refine (h.parse V (ht.keep hV) (hr.keep hV)).mono ?_
    rintro ex w' ⟨f, rfl, h1, h2, h3⟩
    exact ⟨f, rfl, h1, ⟨fun he => by obtain ⟨ve, g1, g3⟩ := h2.ok he; exact ⟨ve, g1, g3.low (by have := hV.size; omega)⟩, h2.no⟩, h3⟩
  · rintro ex w' ⟨f, rfl, ⟨w1, hq, hf, hs⟩, hb⟩
    by_cases he : e = 0
    · obtain ⟨ve, rfl, g3⟩ := hq.ok he
      refine ⟨?_, hb⟩
      rw [psf_tf]
    · have h0 := hq.no he
      subst h0
      obtain ⟨rfl, rfl, rfl, rfl, rfl⟩ := h.no he
      refine ⟨?_, hb⟩
      show Ending.returned (.tuple #[row (fun j => psf nlv (cf z20 nlv [] [] []) (tf z20 0 [] [] []) nlv (25 + j)) 24, .int .i64 e]) = _
      rw [psf_tf]

/-- A kind's bytes: what they lead to, whether they are one, by both. -/
structure AgK (k : Int) (ao : Option Addr) (n c : Nat) (xs : List Int) (MS DS : List (List Int)) (e : Int) : Prop where
  len : MS.length < 90000 ∧ DS.length < 90000
  parse : ∀ W, Ts W → Rd W ao n c xs → Calls Tryz.prog 56 #[.int .i64 k, .slice ao n c] W fun ex w' => ∃ f, ex = .returned (.tuple #[row f 50, .int .i64 e]) ∧ (∀ j, (f j).oneCell' = true) ∧ ((e = 0 → Is w' (f 49) MS.toArray) ∧ Dp W.heap.size w' (f 21) DS.toArray) ∧ Below W.heap.size W w'
  check : ∀ W, Ts W → Rd W ao n c xs → Calls Tryz.prog 34 #[.int .i64 k, .slice ao n c] W fun ex w' => ex = .returned (.int .i64 e) ∧ Below W.heap.size W w'
  edges : ∀ W, Ts W → Rd W ao n c xs → Calls Tryz.prog 31 #[.int .i64 k, .slice ao n c] W fun ex w' => ∃ v d, ex = .returned (.tuple #[v, .int .i64 e]) ∧ Dn W.heap.size w' v d ∧ Up d ∧ (∀ x, x ∈ d.toList ↔ x ∈ MS) ∧ Below W.heap.size W w'
  parents : ∀ W, Ts W → Rd W ao n c xs → Calls Tryz.prog 36 #[.int .i64 k, .slice ao n c] W fun ex w' => ∃ v, ex = .returned v ∧ Dn W.heap.size w' v DS.toArray ∧ Below W.heap.size W w'
  no : e ≠ 0 → MS = []

/-- The document's Edges of what is none. -/
theorem edges_no (k e : Int) (h0 : e ≠ 0) (ao : Option Addr) (n c : Nat) (xs : List Int) (hc : ∀ W, Ts W → Rd W ao n c xs → Calls Tryz.prog 34 #[.int .i64 k, .slice ao n c] W fun ex w' => ex = .returned (.int .i64 e) ∧ Below W.heap.size W w') :
    ∀ W, Ts W → Rd W ao n c xs → Calls Tryz.prog 31 #[.int .i64 k, .slice ao n c] W fun ex w' => ∃ v d, ex = .returned (.tuple #[v, .int .i64 e]) ∧ Dn W.heap.size w' v d ∧ Up d ∧ (∀ x, x ∈ d.toList ↔ x ∈ ([] : List (List Int))) ∧ Below W.heap.size W w' := by
  intro W ht hr
  refine (redges_bad k e h0 ao n c W (hc W ht hr)).mono ?_
  rintro ex w' ⟨rfl, g⟩
  exact ⟨nlv, #[], rfl, dn_nil _ _, up_nil, fun x => by simp, g⟩

/-- The document's Parents of what is no commit. -/
theorem parents_no (k : Int) (hk : k ≠ 1) (ao : Option Addr) (n c : Nat) (W : World) :
    Calls Tryz.prog 36 #[.int .i64 k, .slice ao n c] W fun ex w' => ∃ v, ex = .returned v ∧ Dn W.heap.size w' v ([] : List (List Int)).toArray ∧ Below W.heap.size W w' := by
  refine (rparents_none k hk ao n c W).mono ?_
  rintro ex w' ⟨rfl, g⟩
  exact ⟨nlv, rfl, dn_nil _ _, g⟩

theorem agK_none (k : Int) (hk : isK k = false) (ao : Option Addr) (n c : Nat) (xs : List Int) : AgK k ao n c xs [] [] 1 := by
  have hc : ∀ W, Ts W → Rd W ao n c xs → Calls Tryz.prog 34 #[.int .i64 k, .slice ao n c] W fun ex w' => ex = .returned (.int .i64 1) ∧ Below W.heap.size W w' := fun W _ _ => rcheck_none k hk ao n c W
  refine ⟨by simp, fun W ht hr => ?_, hc, edges_no k 1 (by omega) ao n c xs hc, fun W _ _ => parents_no k (fun e => by subst e; exact absurd hk (by decide)) ao n c W, fun _ => rfl⟩
  refine (parse_none k hk ao n c W ht.gs).mono ?_
  rintro ex w' ⟨rfl, g⟩
  exact ⟨ps0, rfl, fun j => ps0_one j, ⟨fun h => absurd h (by omega), dp_nil _ _⟩, g⟩

theorem agK_blob (ao : Option Addr) (n c : Nat) (xs : List Int) : ∃ MS DS e, AgK 3 ao n c xs MS DS e := by
  by_cases hn : n ≤ 16384
  · refine ⟨[], [], 0, ⟨by simp, fun W ht hr => ?_, fun W _ _ => rcheck_blob ao n c W hn, fun W _ _ => ?_, fun W _ _ => parents_no 3 (by omega) ao n c W, fun _ => rfl⟩⟩
    · refine (parse_blob ao n c xs W ht.gs hr hn).mono ?_
      rintro ex w' ⟨rfl, g⟩
      exact ⟨ps0, rfl, fun j => ps0_one j, ⟨fun _ => (dp_nil 0 _).is, dp_nil _ _⟩, g⟩
    · refine (redges_blob ao n c W (rcheck_blob ao n c W hn)).mono ?_
      rintro ex w' ⟨rfl, g⟩
      exact ⟨nlv, #[], rfl, dn_nil _ _, up_nil, fun x => by simp, g⟩
  · have hc : ∀ W, Ts W → Rd W ao n c xs → Calls Tryz.prog 34 #[.int .i64 3, .slice ao n c] W fun ex w' => ex = .returned (.int .i64 5) ∧ Below W.heap.size W w' := fun W _ _ => rcheck_far 3 rfl ao n c W (by omega)
    refine ⟨[], [], 5, ⟨by simp, fun W ht hr => ?_, hc, edges_no 3 5 (by omega) ao n c xs hc, fun W _ _ => parents_no 3 (by omega) ao n c W, fun _ => rfl⟩⟩
    refine (parse_far 3 rfl ao n c W ht.gs (by omega)).mono ?_
    rintro ex w' ⟨rfl, g⟩
    exact ⟨ps0, rfl, fun j => ps0_one j, ⟨fun h => absurd h (by omega), dp_nil _ _⟩, g⟩

end Go.Proofs.YtojgablpjdlegaaGreatDoor

/- Any bytes of any kind, by both: trees, commits, tags. -/
namespace Go.Proofs.YtojgablpjdlegaaGreatDoor
open Go.RowKit Go.Shelf

theorem agK_tree (ao : Option Addr) (n c : Nat) (xs : List Int) (d : List En) (e : Int) (h : AgT ao n c xs d e) : AgK 2 ao n c xs (eds d) [] e := by
  have hc : ∀ W, Ts W → Rd W ao n c xs → Calls Tryz.prog 34 #[.int .i64 2, .slice ao n c] W fun ex w' => ex = .returned (.int .i64 e) ∧ Below W.heap.size W w' := by
    intro W ht hr
    by_cases hn : n ≤ 16384
    · refine rcheck_tree ao n c W hn e ((h.ref W ht hr).mono ?_)
      rintro ex w' ⟨v, rfl, _, g⟩
      exact ⟨⟨v, rfl⟩, g⟩
    · rw [h.far (by omega)]
      exact rcheck_far 2 rfl ao n c W (by omega)
  refine ⟨⟨by have := eds_len d; have := h.len; omega, by simp⟩, fun W ht hr => ?_, hc, ?_, fun W _ _ => parents_no 2 (by omega) ao n c W, fun h0 => by rw [h.no h0]; rfl⟩
  · refine (h.parse W ht hr).mono ?_
    rintro ex w' ⟨f, rfl, g1, g2, g3⟩
    refine ⟨f, rfl, g1, ⟨fun h0 => ?_, ?_⟩, g3⟩
    · obtain ⟨ev, edv, rfl, _, q⟩ := g2.ok h0
      exact q.is
    · by_cases h0 : e = 0
      · obtain ⟨ev, edv, rfl, _, q⟩ := g2.ok h0
        exact dp_nil _ _
      · rw [g2.no h0]
        exact dp_nil _ _
  · by_cases h0 : e = 0
    · subst h0
      intro W ht hr
      refine (redges_tree ao n c W d h.len (hc W ht hr) (fun V hV => h.ref V (ht.keep hV) (hr.keep hV))).mono ?_
      rintro ex w' ⟨v, r, rfl, g1, g2, g3, _, g5⟩
      exact ⟨v, r, rfl, g1, g2, g3, g5⟩
    · rw [h.no h0]
      exact edges_no 2 e h0 ao n c xs hc

theorem agK_commit (ao : Option Addr) (n c : Nat) (xs : List Int) (T : List Int) (DS : List (List Int)) (A C M : List UInt8) (e : Int) (h : AgC ao n c xs T DS A C M e) : ∃ MS, AgK 1 ao n c xs MS DS e := by
  have hc : ∀ W, Ts W → Rd W ao n c xs → Calls Tryz.prog 34 #[.int .i64 1, .slice ao n c] W fun ex w' => ex = .returned (.int .i64 e) ∧ Below W.heap.size W w' := by
    intro W ht hr
    by_cases hn : n ≤ 16384
    · refine rcheck_commit ao n c W hn e ((h.ref W ht hr).mono ?_)
      rintro ex w' ⟨v, rfl, _, _, g⟩
      exact ⟨⟨_, rfl⟩, g⟩
    · rw [h.far (by omega)]
      exact rcheck_far 1 rfl ao n c W (by omega)
  by_cases h0 : e = 0
  · subst h0
    have href : ∀ W, Ts W → Rd W ao n c xs → Calls Tryz.prog 24 #[.slice ao n c] W fun ex w' => ∃ v, ex = .returned (.tuple #[cmv T v A C M, .int .i64 0]) ∧ Dn W.heap.size w' v DS.toArray ∧ Below W.heap.size W w' := by
      intro W ht hr
      refine (h.ref W ht hr).mono ?_
      rintro ex w' ⟨v, rfl, _, g1, g⟩
      exact ⟨v, rfl, g1, g⟩
    refine ⟨T :: DS, ⟨⟨by have := h.len; simp; omega, by have := h.len; omega⟩, fun W ht hr => ?_, hc, fun W ht hr => ?_, fun W ht hr => rparents_yes ao n c W T DS A C M (href W ht hr), fun h0 => absurd rfl h0⟩⟩
    · refine (h.parse W ht hr).mono ?_
      rintro ex w' ⟨f, rfl, g1, g2, g3⟩
      obtain ⟨v, ve, rfl, q1, q2⟩ := g2.ok rfl
      exact ⟨_, rfl, g1, ⟨fun _ => q2.is, q1.low (by omega)⟩, g3⟩
    · refine (redges_commit ao n c W T DS A C M h.id h.len (hc W ht hr) (fun V hV => href V (ht.keep hV) (hr.keep hV))).mono ?_
      rintro ex w' ⟨v, r, rfl, g1, g2, g3, _, g5⟩
      exact ⟨v, r, rfl, g1, g2, g3, g5⟩
  · obtain ⟨rfl, rfl, rfl, rfl, rfl⟩ := h.no h0
    refine ⟨[], ⟨by simp, fun W ht hr => ?_, hc, edges_no 1 e h0 ao n c xs hc, fun W ht hr => ?_, fun _ => rfl⟩⟩
    · refine (h.parse W ht hr).mono ?_
      rintro ex w' ⟨f, rfl, g1, g2, g3⟩
      rw [g2.no h0]
      exact ⟨_, rfl, fun j => ps0_one j, ⟨fun h => absurd h h0, dp_nil _ _⟩, g3⟩
    · refine (rparents_bad ao n c W e h0 ((h.ref W ht hr).mono ?_)).mono ?_
      · rintro ex w' ⟨v, rfl, hv, _, g⟩
        rw [hv h0]
        exact ⟨rfl, g⟩
      · rintro ex w' ⟨rfl, g⟩
        exact ⟨nlv, rfl, dn_nil _ _, g⟩

theorem agK_tag (ao : Option Addr) (n c : Nat) (xs : List Int) (T : List Int) (K : Int) (N G M : List UInt8) (e : Int) (h : AgG ao n c xs T K N G M e) : ∃ MS, AgK 4 ao n c xs MS [] e := by
  have hc : ∀ W, Ts W → Rd W ao n c xs → Calls Tryz.prog 34 #[.int .i64 4, .slice ao n c] W fun ex w' => ex = .returned (.int .i64 e) ∧ Below W.heap.size W w' := by
    intro W ht hr
    by_cases hn : n ≤ 16384
    · refine rcheck_tag ao n c W hn e ((h.ref W ht hr).mono ?_)
      rintro ex w' ⟨rfl, g⟩
      exact ⟨⟨_, rfl⟩, g⟩
    · rw [h.far (by omega)]
      exact rcheck_far 4 rfl ao n c W (by omega)
  by_cases h0 : e = 0
  · subst h0
    refine ⟨[T], ⟨⟨by simp, by simp⟩, fun W ht hr => ?_, hc, fun W ht hr => ?_, fun W _ _ => parents_no 4 (by omega) ao n c W, fun h0 => absurd rfl h0⟩⟩
    · refine (h.parse W ht hr).mono ?_
      rintro ex w' ⟨f, rfl, g1, g2, g3⟩
      obtain ⟨ve, rfl, q2⟩ := g2.ok rfl
      exact ⟨_, rfl, g1, ⟨fun _ => q2.is, dp_nil _ _⟩, g3⟩
    · refine (redges_tag ao n c W T K N G M h.id (hc W ht hr) (fun V hV => h.ref V (ht.keep hV) (hr.keep hV))).mono ?_
      rintro ex w' ⟨v, r, rfl, g1, g2, g3, _, g5⟩
      exact ⟨v, r, rfl, g1, g2, g3, g5⟩
  · refine ⟨[], ⟨by simp, fun W ht hr => ?_, hc, edges_no 4 e h0 ao n c xs hc, fun W _ _ => parents_no 4 (by omega) ao n c W, fun _ => rfl⟩⟩
    refine (h.parse W ht hr).mono ?_
    rintro ex w' ⟨f, rfl, g1, g2, g3⟩
    rw [g2.no h0]
    exact ⟨_, rfl, fun j => ps0_one j, ⟨fun h => absurd h h0, dp_nil _ _⟩, g3⟩

/-- Any bytes of any kind. -/
theorem agK_ex (k : Int) (ao : Option Addr) (n c : Nat) (xs : List Int) (hl : xs.length = n) (hb : ∀ b ∈ xs, 0 ≤ b ∧ b < 256) : ∃ MS DS e, AgK k ao n c xs MS DS e := by
  by_cases hk : isK k = false
  · exact ⟨_, _, _, agK_none k hk ao n c xs⟩
  · have : k = 1 ∨ k = 2 ∨ k = 3 ∨ k = 4 := by
      unfold isK at hk
      simp at hk
      omega
    rcases this with rfl | rfl | rfl | rfl
    · obtain ⟨T, DS, A, C, M, e, h⟩ := agC ao n c xs
      obtain ⟨MS, g⟩ := agK_commit ao n c xs T DS A C M e h
      exact ⟨_, _, _, g⟩
    · obtain ⟨d, e, h⟩ := agT ao n c xs hl hb
      exact ⟨_, _, _, agK_tree ao n c xs d e h⟩
    · exact agK_blob ao n c xs
    · obtain ⟨T, K, N, G, M, e, h⟩ := agG ao n c xs
      obtain ⟨MS, g⟩ := agK_tag ao n c xs T K N G M e h
      exact ⟨_, _, _, g⟩

theorem AgK.p33 {k : Int} {ao : Option Addr} {n c : Nat} {xs : List Int} {MS DS : List (List Int)} {e : Int} (h : AgK k ao n c xs MS DS e) (W : World) (ht : Ts W) (hr : Rd W ao n c xs) :
    Calls Tryz.prog 33 #[.int .i64 k, .slice ao n c] W fun ex w' => ex = .returned (.int .i64 e) ∧ Below W.heap.size W w' :=
  check_gen k e ao n c W (fun f w' => (e = 0 → Is w' (f 49) MS.toArray) ∧ Dp W.heap.size w' (f 21) DS.toArray) (h.parse W ht hr)

theorem AgK.p35 {k : Int} {ao : Option Addr} {n c : Nat} {xs : List Int} {MS DS : List (List Int)} {e : Int} (h : AgK k ao n c xs MS DS e) (W : World) (ht : Ts W) (hr : Rd W ao n c xs) :
    Calls Tryz.prog 35 #[.int .i64 k, .slice ao n c] W fun ex w' => ∃ v, ex = .returned v ∧ Dp W.heap.size w' v DS.toArray ∧ Below W.heap.size W w' := by
  refine (parents_gen k e ao n c W (fun f w' => (e = 0 → Is w' (f 49) MS.toArray) ∧ Dp W.heap.size w' (f 21) DS.toArray) (fun f w' h => by obtain ⟨a, c, e⟩ := h.2.shape; exact ⟨_, _, _, e⟩) (h.parse W ht hr)).mono ?_
  rintro ex w' ⟨f, w1, rfl, hq, hb1, hb⟩
  exact ⟨_, rfl, hq.2.keep hb1, hb⟩

theorem AgK.p30 {k : Int} {ao : Option Addr} {n c : Nat} {xs : List Int} {MS DS : List (List Int)} {e : Int} (h : AgK k ao n c xs MS DS e) (W : World) (ht : Ts W) (hr : Rd W ao n c xs) :
    Calls Tryz.prog 30 #[.int .i64 k, .slice ao n c] W fun ex w' => ∃ v r, ex = .returned (.tuple #[v, .int .i64 e]) ∧ Srt MS.toArray r ∧ Nw W.heap.size w' v r ∧ Below W.heap.size W w' := by
  by_cases h0 : e = 0
  · subst h0
    refine edges_gen k ao n c W (fun f w' => ((0 : Int) = 0 → Is w' (f 49) MS.toArray) ∧ Dp W.heap.size w' (f 21) DS.toArray) MS.toArray (by have := h.len; simp; omega) (fun f w' h => h.1 rfl) (h.parse W ht hr)
  · refine (edges_bad k e h0 ao n c W _ (h.parse W ht hr)).mono ?_
    rintro ex w' ⟨rfl, g⟩
    exact ⟨nlv, #[], rfl, by rw [h.no h0]; exact ⟨by simp [Inc], fun x => Iff.rfl⟩, .inl ⟨rfl, none, 0, rfl⟩, g⟩

end Go.Proofs.YtojgablpjdlegaaGreatDoor

/- The law's ObjectBytes: the document's entries and tags compared; an entry cut out. -/
namespace Go.Proofs.YtojgablpjdlegaaGreatDoor
open Go.RowKit Go.Shelf

theorem part66m (x : En) (w : World) : (part 3 (vals (ecl x) 22).toArray 0).run Tryz.prog w = .ok (.int .i64 x.m) w := by kernel_rfl
theorem part66n (x : En) (w : World) : (part 9 (vals (ecl x) 22).toArray 1).run Tryz.prog w = .ok (sv x.nm) w := by kernel_rfl
theorem part66i (x : En) (w : World) : (part 26 (vals (ecl x) 22).toArray 2).run Tryz.prog w = .ok (idv x.id) w := by kernel_rfl

theorem eql_en66 (x : En) (w : World) : (Op.equalIn 10000 66 (eV x) (eV x)).run Tryz.prog w = .ok true w := by
  have h1 : (Op.equalIn 9999 26 (idv x.id) (idv x.id)).run Tryz.prog w = .ok true w := by
    have := eq_loop 26 Tryz.underlying26 9997 x.id x.id w
    rw [this]
    simp
  have hF : Tryz.prog.fieldsOf 66 = #[{ name := "Mode", type := 3, offset := 0, embedded := false, tag := "", pkgPath := "", byteOffset := 0 }, { name := "Name", type := 9, offset := 1, embedded := false, tag := "", pkgPath := "", byteOffset := 8 }, { name := "ID", type := 26, offset := 2, embedded := false, tag := "", pkgPath := "", byteOffset := 24 }] := by kernel_rfl
  rw [run_equalIn_struct w 9999 66 _ _ (by rw [hF]; kernel_rfl) (by kernel_rfl), hF]
  simp [Op.eqFields, part66m, part66n, part66i, h1, run_equalIn_int w 9998 3 .i64 .i64 x.m x.m Tryz.underlying3, run_equalIn_string w 9998 9 _ _ Tryz.underlying9]

theorem neq_en66 (u : En) (w : World) : (binOp .neq 66 (.agg (vals (ecl u) 22).toArray) (.agg (vals (ecl u) 22).toArray)).run Tryz.prog w = .ok (.bool false) w := by
  have he := eql_en66 u w
  obtain ⟨A, hA⟩ : ∃ A, (vals (ecl u) 22).toArray = A := ⟨_, rfl⟩
  unfold eV row at he
  rw [hA] at he
  rw [hA, run_neq_struct, he]
  rfl

theorem part60 (x : List Int) (k : Int) (N G M : List UInt8) (w : World) : (part 26 (vals (tf x k N G M) 24).toArray 0).run Tryz.prog w = .ok (idv x) w := by kernel_rfl
theorem part60k (x : List Int) (k : Int) (N G M : List UInt8) (w : World) : (part 3 (vals (tf x k N G M) 24).toArray 20).run Tryz.prog w = .ok (.int .i64 k) w := by kernel_rfl
theorem part60a (x : List Int) (k : Int) (N G M : List UInt8) (w : World) : (part 9 (vals (tf x k N G M) 24).toArray 21).run Tryz.prog w = .ok (sv N) w := by kernel_rfl
theorem part60b (x : List Int) (k : Int) (N G M : List UInt8) (w : World) : (part 9 (vals (tf x k N G M) 24).toArray 22).run Tryz.prog w = .ok (sv G) w := by kernel_rfl
theorem part60c (x : List Int) (k : Int) (N G M : List UInt8) (w : World) : (part 9 (vals (tf x k N G M) 24).toArray 23).run Tryz.prog w = .ok (sv M) w := by kernel_rfl

theorem eql_tmv60 (x : List Int) (k : Int) (N G M : List UInt8) (w : World) : (Op.equalIn 10000 60 (tmv x k N G M) (tmv x k N G M)).run Tryz.prog w = .ok true w := by
  obtain ⟨F, hF⟩ : ∃ F, Tryz.prog.fieldsOf 60 = F := ⟨_, rfl⟩
  have hf : F = #[{ name := "Object", type := 26, offset := 0, embedded := false, tag := "", pkgPath := "", byteOffset := 0 }, { name := "Kind", type := 3, offset := 20, embedded := false, tag := "", pkgPath := "", byteOffset := 24 }, { name := "Name", type := 9, offset := 21, embedded := false, tag := "", pkgPath := "", byteOffset := 32 }, { name := "Tagger", type := 9, offset := 22, embedded := false, tag := "", pkgPath := "", byteOffset := 48 }, { name := "Message", type := 9, offset := 23, embedded := false, tag := "", pkgPath := "", byteOffset := 64 }] := by rw [← hF]; kernel_rfl
  rw [hf] at hF
  have h1 : (Op.equalIn 9999 26 (idv x) (idv x)).run Tryz.prog w = .ok true w := by
    have := eq_loop 26 Tryz.underlying26 9997 x x w
    rw [this]
    simp
  rw [run_equalIn_struct w 9999 60 _ _ (by rw [hF]; kernel_rfl) (by kernel_rfl), hF]
  simp [Op.eqFields, part60, part60k, part60a, part60b, part60c, h1, run_equalIn_int w 9998 3 .i64 .i64 k k Tryz.underlying3, run_equalIn_string w 9998 9 _ _ Tryz.underlying9]

theorem neq_tmv60 (x : List Int) (k : Int) (N G M : List UInt8) (w : World) : (binOp .neq 60 (.agg (vals (tf x k N G M) 24).toArray) (.agg (vals (tf x k N G M) 24).toArray)).run Tryz.prog w = .ok (.bool false) w := by
  have he := eql_tmv60 x k N G M w
  obtain ⟨A, hA⟩ : ∃ A, (vals (tf x k N G M) 24).toArray = A := ⟨_, rfl⟩
  unfold tmv row at he
  rw [hA] at he
  rw [hA, run_neq_struct, he]
  rfl

theorem run_sl39 (b n c k : Nat) (hk : k < n) (hc : n ≤ c) (w : World) : (Instr.sliceAt 39 (.slice (some ⟨b, 0, none⟩) n c) (some (.int .i64 (k : Int))) (some (.int .i64 ((k + 1 : Nat) : Int))) none).run Tryz.prog w = .ok (.slice (some ⟨b, k * 22, none⟩) 1 (c - k)) w := by
  have hz : ∀ w, (sizeOf 79).run Tryz.prog w = .ok 22 w := fun w => by simp [go_sem]
  have e3 : 0 ≤ ((k + 1 : Nat) : Int) ∧ ((k + 1 : Nat) : Int) ≤ (c : Int) := by omega
  have e4 : 0 ≤ (k : Int) ∧ (k : Int) ≤ ((k + 1 : Nat) : Int) := by omega
  unfold Instr.sliceAt Instr.slice Instr.sliceBounds
  simp only [run_underlying Tryz.underlying39, Instr.sliceBound, asIntOf, hz, Result.andThen_ok, Sem.run_bind, Sem.run_pure, Option.isSome_none, Int.toNat_natCast]
  simp only [if_pos e3, Sem.run_pure, Result.andThen_ok, if_pos e4]
  rw [if_neg (by omega)]
  simp [Addr.add_lit]

/-- One entry of a slice. -/
theorem es_one {B : Nat} {w : World} {b c : Nat} {d : Array En} (h : De B w (.slice (some ⟨b, 0, none⟩) d.size c) d) (k : Nat) (hk : k < d.size) : Es w (.slice (some ⟨b, k * 22, none⟩) 1 (c - k)) #[d[k]!] ∧ d.size ≤ c := by
  obtain ⟨ao, c', e, h1, h2, h3⟩ := h.es.sh
  injection e with e1 e2 e3
  subst e1 e3
  refine ⟨⟨⟨_, c - k, rfl, by simp; omega, (fun e => by cases e), fun ad had i hi j hj => ?_⟩, fun i hi => ?_⟩, h1⟩
  · cases had
    have hi0 : i = 0 := by simpa using hi
    subst hi0
    have := h3 _ rfl k hk j hj
    rw [Addr.add_lit] at this ⊢
    simpa [Nat.add_comm] using this
  · have hi0 : i = 0 := by simpa using hi
    subst hi0
    simpa using h.ok k hk

theorem yi_sl39 {ops : Array Oper} {S : World → Prop} {o : Oper} {a : Act} (hw : Region.wanted o (yielded ops a.tmps) = true) (x : Operand) (lo hi : Option Operand) (ho : o.op = .slice 39 x lo hi none) (u v : Value) (ol oh : Option Value) (hx : a.eval x = u) (hl : lo.map a.eval = ol) (hh : hi.map a.eval = oh)
    (hr : ∀ V, S V → (Instr.sliceAt 39 u ol oh none).run Tryz.prog V = .ok v V) : YieldsIf Tryz.prog ops S o v a := by
  refine Or.inl ⟨hw, fun V hV => ?_⟩
  unfold execOp
  simp only [ho, hx, hl, hh, Option.map_none, hr V hV, Sem.run_bind, Result.andThen_ok, Sem.run_pure]

theorem yi_neq66 {ops : Array Oper} {S : World → Prop} {o : Oper} {a : Act} (hw : Region.wanted o (yielded ops a.tmps) = true) (x y : Operand) (t : TypeId) (ho : o.op = .binOp .neq 66 x y t) (u : En) (hx : a.eval x = eV u) (hy : a.eval y = eV u) : YieldsIf Tryz.prog ops S o (.bool false) a := by
  refine Or.inl ⟨hw, fun V _ => ?_⟩
  have hb := neq_en66 u V
  have hm : Tryz.prog.eqGuardType Tryz.prog.depth 66 = false := by kernel_rfl
  obtain ⟨A, hA⟩ : ∃ A, (vals (ecl u) 22).toArray = A := ⟨_, rfl⟩
  unfold eV row at hx hy
  rw [hA] at hb hx hy
  have hg := run_eqGuard_agg (P := Tryz.prog) V .neq 66 x y A A hm
  unfold execOp
  simp only [ho, hx, hy, Sem.run_bind, hg, hb, Result.andThen_ok, Sem.run_pure]

theorem oq_len {o : Oper} {a : Act} {C : World → Prop} {K : Act → Prop} (x : Operand) (ts : Array TypeId) (ho : o.op = .call { callee := .builtin .len, args := #[x], argTypes := ts }) (ao : Option Addr) (n c : Nat) (hx : a.eval x = .slice ao n c) (hl : ∀ w, (Builtin.len_ ts o.type #[.slice ao n c]).run Tryz.prog w = .ok (.int .i64 (n : Int)) w) (hk : K (a.put o.dst (.int .i64 (n : Int)))) : o.quiet Tryz.prog a C K := by
  refine ⟨_, fun w hC => ?_, hk⟩
  unfold Oper.quietAt execOp
  simp only [ho, resolve, List.map_toArray, List.map_cons, List.map_nil, hx]
  simp [go_sem, Oper.quietUpon, hl]

theorem oq_not {o : Oper} {a : Act} {C : World → Prop} {K : Act → Prop} (x : Operand) (ho : o.op = .unOp .not 4 x) (b : Bool) (hx : a.eval x = .bool b) (hk : K (a.put o.dst (.bool (!b)))) : o.quiet Tryz.prog a C K := by
  refine ⟨_, fun w hC => ?_, hk⟩
  unfold Oper.quietAt execOp
  simp only [ho, hx]
  simp [go_sem, Oper.quietUpon]

end Go.Proofs.YtojgablpjdlegaaGreatDoor

/- Is a list of bytes not played? -/
namespace Go.Proofs.YtojgablpjdlegaaGreatDoor
open Go.RowKit Go.Shelf

/-- Is a list of so many bytes not played? -/
def lgB (n : Nat) : Bool := decide (3000 < n ∧ n ≤ 16384 ∨ 32768 < n)

set_option maxRecDepth 100000 in
theorem longB_any (ao : Option Addr) (n c : Nat) (w : World) : Calls Tryz.prog 10 #[.slice ao n c] w fun e w' => e = .returned (.bool (lgB n)) ∧ w' = w := by
  by_cases h1 : n ≤ 3000
  · have d1 : decide ((3000 : Int) < n) = false := by simp; omega
    have d2 : decide (3000 < n) = false := by simp; omega
    have d3 : decide ((32768 : Int) < n) = false := by simp; omega
    have d4 : decide (32768 < n) = false := by simp; omega
    have e : lgB n = false := by unfold lgB; simp; omega
    rw [e]
    clear e h1
    go_enter Tryz.func10, Tryz.ntmps10
    go_wp2
    go_ret
    exact ⟨rfl, rfl⟩
  have d1 : decide ((3000 : Int) < n) = true := by simp; omega
  have d2 : decide (3000 < n) = true := by simp; omega
  by_cases h2 : n ≤ 16384
  · have d3 : decide ((n : Int) ≤ 16384) = true := by simp; omega
    have d4 : decide (n ≤ 16384) = true := by simp; omega
    have e : lgB n = true := by unfold lgB; simp; omega
    rw [e]
    clear e h1 h2
    go_enter Tryz.func10, Tryz.ntmps10
    go_wp2
    go_ret
    exact ⟨rfl, rfl⟩
  have d3 : decide ((n : Int) ≤ 16384) = false := by simp; omega
  have d4 : decide (n ≤ 16384) = false := by simp; omega
  by_cases h3 : n ≤ 32768
  · have d5 : decide ((32768 : Int) < n) = false := by simp; omega
    have d6 : decide (32768 < n) = false := by simp; omega
    have e : lgB n = false := by unfold lgB; simp; omega
    rw [e]
    clear e h1 h2 h3
    go_enter Tryz.func10, Tryz.ntmps10
    go_wp2
    go_ret
    exact ⟨rfl, rfl⟩
  · have d5 : decide ((32768 : Int) < n) = true := by simp; omega
    have d6 : decide (32768 < n) = true := by simp; omega
    have e : lgB n = true := by unfold lgB; simp; omega
    rw [e]
    clear e h1 h2 h3
    go_enter Tryz.func10, Tryz.ntmps10
    go_wp2
    go_ret
    exact ⟨rfl, rfl⟩

end Go.Proofs.YtojgablpjdlegaaGreatDoor
