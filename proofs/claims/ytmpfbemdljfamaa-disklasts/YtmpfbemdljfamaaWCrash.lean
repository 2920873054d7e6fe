/- Crash. -/
import Derived.Test.YtmpfbemdljfamaaDCrash
namespace Go.Proofs.Ytmpfbemdljfamaa
open Go.RowKit Go.Maps Go.Sort

theorem strKeys_len (D : DataW Unit) : (strKeys D).length = Maps.size D := by
  cases D <;> simp [strKeys, Maps.size]

set_option maxRecDepth 100000 in
set_option maxHeartbeats 3000000 in
theorem crash_any (d : Nat) (O : Nat → Prop) (S : St) (ao : Option Addr) (n c : Nat) (ps : List Int) (w : World) (h : Dk w O d S) (hr : Ri w ao n c (fun j => ps.getD j 0)) (hn : ps.length = n) (na : ∀ ad, ao = some ad → 0 < n → ¬ O ad.block) (hz : Maps.size S.rws ≤ 1000000000)
    (hs : ∀ l a l2 S1 ps1, sk S.rws = l ++ a :: l2 → Sets l (offed S) ps S1 ps1 → ∃ r x, look S1.rws (key a) = some r ∧ S1.R r = some x ∧ Maps.size S1.last + x.cs.length < 1000000000 ∧ (key a).size ≤ maxLen)
    (hfit : ∀ S1 ps1, Sets (sk S.rws) (offed S) ps S1 ps1 → Maps.size S1.last ≤ 1000000000 ∧ ∀ a ∈ sk S1.last, (key a).size ≤ maxLen ∧ ∃ f x, look S1.last (key a) = some f ∧ S.F f = some x) (hlen : ∀ f x, S.F f = some x → x.xs.length ≤ 140737488351232) :
    Calls Try.prog 13 #[.pointer (some ⟨d, 0, none⟩), .slice ao n c] w fun e w' => e = .returned (.tuple #[]) ∧ ∃ S1 ps1 nb S2 ps2, Sets (sk S.rws) (offed S) ps S1 ps1 ∧ Cuts (sk S1.last) { S1 with now := S1.last, nb := nb } ps1 S2 ps2 ∧ Dk w' (Ow O w w') d S2 ∧ Fr O w w' := by
  have Hh : Hid (Dk w O d S) := h
  have hdO := h.own.1
  have HR : Hid (Ri w ao n c (fun j => ps.getD j 0)) := hr
  have HS : Hid (∀ l a l2 S1 ps1, sk S.rws = l ++ a :: l2 → Sets l (offed S) ps S1 ps1 → ∃ r x, look S1.rws (key a) = some r ∧ S1.R r = some x ∧ Maps.size S1.last + x.cs.length < 1000000000 ∧ (key a).size ≤ maxLen) := hs
  have hlimO := h.lim
  have harm := arm_no d O S 0 none 0 0 w h (by omega)
  clear h hr hs
  go_enter Try.func13, Try.ntmps13
  go_wp2_with fail
  refine harm.mono ?_
  rintro e w1 ⟨rfl, D1, f1⟩
  have zw1 := f1.size
  have c4 := D1.row.cell (i := 4) (by omega)
  have f4 := D1.row.frozen 4
  simp only [dc] at c4
  have hr2 := set_row (g := dc (offed S)) D1.row 4 (.bool true) (by
    intro j hj
    match j, hj with
    | 0, _ | 1, _ | 2, _ | 3, _ | 4, _ | 5, _ | 6, _ | 7, _ => rfl)
  have hf2 := set_fr w1 d 4 (.bool true)
  have D2 := D1.setRow (S' := offed S) hr2 hf2 rfl rfl rfl rfl rfl rfl rfl rfl (World.ownsRow_nil _ _ _ _) (fun g e => by cases e)
  have f2 : Fr O w (w1.setCell ⟨d, 4, none⟩ (.bool true)) := (f1.trans hf2 (fun _ _ e => e)).weak (fun i e => by subst e; exact hdO)
  have hR2 := HR.out.fr f2 na
  have hpk := picker_any O ao n c ps _ hR2 hn na D2.lim
  obtain ⟨W2, hW2⟩ : ∃ W, W = w1.setCell ⟨d, 4, none⟩ (.bool true) := ⟨_, rfl⟩
  have HW2 : Hid (W2 = w1.setCell ⟨d, 4, none⟩ (.bool true)) := hW2
  rw [← hW2] at D2 f2 hpk
  clear hW2 harm D1 f1 hr2 hf2 hR2
  go_wp2_with fail
  rw [← HW2.out]
  refine hpk.mono ?_
  rintro e w3 ⟨pb, rfl, hpb, P3, b3⟩
  have D3 := D2.keep b3
  have f3 : Fr O w w3 := f2.trans (Fr.ofBelow b3) (fun _ _ e => e)
  have c3 := D3.row.cell (i := 3) (by omega)
  simp only [dc] at c3
  have hkeys := keys40 (some S.rb) w3
  have hsort := sorted40 S.rb S.rws w3 D3.rws hz
  clear hpk D2 f2 c4 f4
  go_wp2_with (first
    | (go_at_call 40; refine hkeys.mono ?_; rintro e w4 ⟨rfl, rfl⟩)
    | (go_at_call 39; refine hsort.mono ?_; rintro e w5 ⟨v, ss, rfl, hperm, hrow, b5⟩; obtain ⟨va, vc, rfl⟩ := own_shape hrow))
  have hl : (sk S.rws).length = ss.length := by rw [sk_len, hperm.length_eq]
  rw [sk_perm hperm] at hrow
  have T5 : Tx w5 (fun b => O b ∨ b = pb) (.slice va ss.length vc) (sk S.rws) := by
    refine ⟨?_, ?_⟩
    · rw [hl]; exact own0 hrow
    · rintro g e (ho | ho)
      · have h1 := own_ge hrow e
        have h2 := D3.lim g ho
        omega
      · have h1 := own_ge hrow e
        obtain ⟨_, _, _, h3, _⟩ := P3.ex
        have := h3.lt
        omega
  have HT5 : Hid (Tx w5 (fun b => O b ∨ b = pb) (.slice va ss.length vc) (sk S.rws)) := T5
  have D5 := D3.keep b5
  have P5 := P3.keep b5
  have f5 : Fr O w w5 := f3.trans (Fr.ofBelow b5) (fun _ _ e => e)
  have hpb' : w.heap.size ≤ pb := Nat.le_trans (by have := HW2.out; rw [this]; simpa using (show w.heap.size ≤ w1.heap.size from zw1)) hpb
  obtain ⟨N, hN⟩ : ∃ N, N = ss.length := ⟨_, rfl⟩
  rw [← hN] at HT5 hl
  have hNb : N ≤ 1000000000 := by rw [← hl, sk_len, strKeys_len]; exact hz
  clear T5 hrow hperm hkeys hsort D3 P3 f3 b5 b3 c3
  simp only [← hN]
  clear hN
  go_loopw [24] (fun s24 wr => ∃ (i : Nat) (S1 : St) (ps1 : List Int), s24 = .int .i64 i ∧ i ≤ N ∧ Sets ((sk S.rws).take i) (offed S) ps S1 ps1 ∧ Dk wr O d S1 ∧ Pik wr O pb ps1 ∧ Fr O w wr ∧ Tx wr (fun b => O b ∨ b = pb) (.slice va N vc) (sk S.rws))
    (fun s24 _ => N - (Lib.intOf s24).toNat)
  case atStart => exact ⟨0, _, _, rfl, Nat.zero_le _, Sets.nil _ _, D5, P5, f5, HT5.out⟩
  case round =>
    obtain ⟨i, S1, ps1, rfl, hiN, hsets, D6, P6, f6, T6⟩ := hrel
    by_cases hlt : i < N
    · have hil : i < (sk S.rws).length := by omega
      obtain ⟨g, gc, hv, hcell⟩ := tx_cell T6 i hil
      rw [hl] at hv
      injection hv with hv1 hv2 hv3
      subst hv1
      obtain ⟨r, x, hlk, hx, hsz, hks⟩ := HS.out ((sk S.rws).take i) ((sk S.rws)[i]) ((sk S.rws).drop (i + 1)) S1 ps1 (by rw [← List.drop_eq_getElem_cons hil, List.take_append_drop]) hsets
      obtain ⟨a, ha⟩ : ∃ a, a = (sk S.rws)[i] := ⟨_, rfl⟩
      rw [← ha] at hcell hlk hks
      have hk := look46 D6.rws (key a) hks
      rw [hlk] at hk
      simp only [pv, Option.map_some] at hk
      have hR := D6.rs.is r x hx
      have c0 := hR.row.cell (i := 0) (by omega)
      simp only [rc] at c0
      obtain ⟨cl, hcl, -⟩ := hR.chs
      obtain ⟨av, cv, hcv⟩ := own_shape hcl
      rw [hcv] at c0
      have c3 := D6.row.cell (i := 3) (by omega)
      simp only [dc] at c3
      have hpick := pick_any O pb ps1 x.cs.length wr P6 (by omega)
      have hle := pick1_le ps1 x.cs.length
      have hset := fun W (hW : Dk W O d S1) => settle_any d O S1 (key a) r x (pick1 ps1 x.cs.length).1 W hW hks hlk hx hle hsz
      have hsets' : Sets ((sk S.rws).take (i + 1)) (offed S) ps (settled S1 (key a) x (pick1 ps1 x.cs.length).1) (pick1 ps1 x.cs.length).2 := by
        rw [List.take_succ_eq_append_getElem hil, ← ha]
        exact Sets.snoc a r x hsets hlk hx
      clear ha
      have q1 : decide ((i : Int) < (N : Int)) = true := by simp; omega
      have q2 : IntKind.i64.wrap ((i : Int) + 1) = ((i + 1 : Nat) : Int) := by rw [IntKind.wrap_i64]; omega
      have q3 : wrap64 ((i : Int) + 1) = ((i + 1 : Nat) : Int) := by rw [IntWalk.wrap64_in _ (by omega)]; omega
      have H6 : Hid (Dk wr O d S1) := D6
      have HT6 : Hid (Tx wr (fun b => O b ∨ b = pb) (.slice (some ⟨g, 0, none⟩) N vc) (sk S.rws)) := T6
      have HP6 : Hid (Pik wr O pb ps1) := P6
      have HF6 : Hid (Fr O w wr) := f6
      have hnp : ∀ j, j < w.heap.size → j = pb → O j := fun j hj e => (Nat.lt_irrefl pb (Nat.lt_of_lt_of_le (e ▸ hj) hpb')).elim
      clear D6 T6 hR hcl hcv hv2 hv3 hsets hlk hx P6 f6 hl hNb hz hil hpb' hsz zw1
      generalize x.cs.length = m at *
      generalize (pick1 ps1 m).1 = k1 at *
      generalize (pick1 ps1 m).2 = ps2 at *
      go_wp2_with (first
        | (go_at_call 58; refine hpick.mono ?_; rintro e w6 ⟨rfl, P7, f7⟩; have D7 := settle_pik H6.out f7 HP6.out.nb)
        | (go_at_call 37; refine (hset w6 D7).mono ?_; rintro e w8 ⟨rfl, D8, f8⟩))
      go_roundw
      case rel => exact ⟨i + 1, _, _, by simp, by omega, hsets', D8, P7.fr f8, (HF6.out.trans f7 hnp).trans f8 (fun _ _ e => e), (HT6.out.fr (f7.weak (fun j e => .inr e))).fr (f8.weak (fun j e => .inl e))⟩
      case measure => simpa [Lib.intOf] using meas hlt
    · obtain rfl : i = N := by omega
      have hS1 : Sets (sk S.rws) (offed S) ps S1 ps1 := by
        have e : (sk S.rws).take i = sk S.rws := by rw [← hl, List.take_length]
        rw [e] at hsets
        exact hsets
      obtain ⟨hz1, hfit1⟩ := hfit S1 ps1 hS1
      have hsame := sets_same hS1
      have q1 : decide ((i : Int) < (i : Int)) = false := by simp
      have c2 := D6.row.cell (i := 2) (by omega)
      simp only [dc] at c2
      have hcl := mclone S1.lb S1.last wr D6.last
      have H6 : Hid (Dk wr O d S1) := D6
      have HP6 : Hid (Pik wr O pb ps1) := P6
      have HF6 : Hid (Fr O w wr) := f6
      have HFit : Hid (∀ a ∈ sk S1.last, (key a).size ≤ maxLen ∧ ∃ f x, look S1.last (key a) = some f ∧ S.F f = some x) := hfit1
      have HSame : Hid (S1.F = S.F ∧ S1.R = S.R ∧ S1.now = S.now ∧ S1.nb = S.nb ∧ S1.lb = S.lb ∧ S1.rb = S.rb) := hsame
      have HS1 : Hid (Sets (sk S.rws) (offed S) ps S1 ps1) := hS1
      have HLen : Hid (∀ f x, S.F f = some x → x.xs.length ≤ 140737488351232) := hlen
      clear hsets D6 P6 f6 T6 hl hNb hz HS hS1 hfit hfit1 hsame hlen
      go_wp2_with fail
      refine hcl.mono ?_
      rintro e w8 ⟨rfl, m8, _, b8⟩
      have D8 := H6.out.keep b8
      have c1 := D8.row.cell (i := 1) (by omega)
      have f1 := D8.row.frozen 1
      simp only [dc] at c1
      have hr9 := set_row (g := dc { S1 with now := S1.last, nb := wr.heap.size }) D8.row 1 (.map (some wr.heap.size)) (by
        intro j hj
        match j, hj with
        | 0, _ | 1, _ | 2, _ | 3, _ | 4, _ | 5, _ | 6, _ | 7, _ => rfl)
      have hf9 := set_fr w8 d 1 (.map (some wr.heap.size))
      have D9 := H6.out.newNow b8 m8 (Nat.le_refl _) hr9 hf9
      have P9 : ∀ Q : Nat → Prop, Q d → (∀ b, b < wr.heap.size → ¬ O b → ¬ Q b) → Pik (w8.setCell ⟨d, 1, none⟩ (.map (some wr.heap.size))) Q pb ps1 := fun Q hd hq => ((HP6.out.to hq).keep b8).fr (hf9.weak (fun j e => by subst e; exact hd))
      have F9 : Fr O w (w8.setCell ⟨d, 1, none⟩ (.map (some wr.heap.size))) := (HF6.out.trans (Fr.ofBelow b8) (fun _ _ e => e)).trans hf9 (fun j _ e => by subst e; exact hdO)
      have z9 : wr.heap.size < (w8.setCell ⟨d, 1, none⟩ (.map (some wr.heap.size))).heap.size := by simpa using m8.lt
      clear hcl m8 D8 hr9 hf9 b8 c2
      obtain ⟨W9, hW9⟩ : ∃ W, W = w8.setCell ⟨d, 1, none⟩ (.map (some wr.heap.size)) := ⟨_, rfl⟩
      have HW9 : Hid (W9 = w8.setCell ⟨d, 1, none⟩ (.map (some wr.heap.size))) := hW9
      rw [← hW9] at D9 P9 F9 z9
      clear hW9
      obtain ⟨nb, hnb⟩ : ∃ nb, nb = wr.heap.size := ⟨_, rfl⟩
      rw [← hnb] at D9 z9
      have HNb : Hid (nb = wr.heap.size) := hnb
      clear hnb
      have hkeys := keys42 (some nb) W9
      have hsort := sorted42 nb S1.last W9 D9.now hz1
      have c1' := D9.row.cell (i := 1) (by omega)
      simp only [dc] at c1'
      go_wp2_with fail
      rw [← HW9.out, ← HNb.out]
      refine hkeys.mono ?_
      rintro e w10 ⟨rfl, rfl⟩
      go_wp2_with fail
      refine hsort.mono ?_
      rintro e w11 ⟨v2, ss2, rfl, hperm2, hrow2, b11⟩
      obtain ⟨va2, vc2, rfl⟩ := own_shape hrow2
      go_wp2_with fail
      have hl2 : (sk S1.last).length = ss2.length := by rw [sk_len, hperm2.length_eq]
      rw [sk_perm hperm2] at hrow2
      have z11 : W9.heap.size ≤ w11.heap.size := b11.size
      have zpb : pb < wr.heap.size := by
        obtain ⟨_, _, _, h3, _⟩ := HP6.out.ex
        exact h3.lt
      have zpb' : pb < nb := by have := HNb.out; omega
      obtain ⟨Q, hQ⟩ : ∃ Q : Nat → Prop, Q = fun b => O b ∨ b = nb ∨ w11.heap.size ≤ b := ⟨_, rfl⟩
      have T11 : Tx w11 (fun b => Q b ∨ b = pb) (.slice va2 ss2.length vc2) (sk S1.last) := by
        refine ⟨?_, ?_⟩
        · rw [hl2]; exact own0 hrow2
        · intro g e hg
          have g1 := own_ge hrow2 e
          have g2 := own_lt hrow2 e
          rw [hQ] at hg
          rcases hg with (ho | ho | ho) | ho
          · have := D9.lim g (.inl ho)
            omega
          · omega
          · omega
          · omega
      have hQd : Q d := by rw [hQ]; exact .inl hdO
      have P11 : Pik w11 Q pb ps1 := (P9 Q hQd (fun b hb hO hq => by
        rw [hQ] at hq
        have := HNb.out
        rcases hq with e | e | e
        · exact hO e
        · omega
        · omega)).keep b11
      have D11 := D9.keep b11
      have F11 : Fr O w w11 := F9.trans (Fr.ofBelow b11) (fun _ _ e => e)
      have hOf : ∀ f x, S.F f = some x → O f := fun f x hx => (Hh.out.fs.is f x hx).own.1
      have hQO : ∀ b, O b → Q b := fun b hb => by rw [hQ]; exact .inl hb
      have hQK : ∀ b, w11.heap.size ≤ b → Q b := fun b hb => by rw [hQ]; exact .inr (.inr hb)
      have hOQ : ∀ b, (O b ∨ b = nb) → Q b := fun b hb => by rw [hQ]; exact hb.elim .inl fun e => .inr (.inl e)
      have hQn : ∀ b, Q b → O b ∨ w.heap.size ≤ b := fun b hb => by
        rw [hQ] at hb
        have z0 := HF6.out.size
        have := HNb.out
        rcases hb with e | e | e
        · exact .inl e
        · exact .inr (by omega)
        · exact .inr (by omega)
      obtain ⟨N2, hN2⟩ : ∃ N, N = ss2.length := ⟨_, rfl⟩
      rw [← hN2] at T11 hl2
      simp only [← hN2]
      have hN2b : N2 ≤ 1000000000 := by rw [← hl2, sk_len, strKeys_len]; exact hz1
      have HT11 : Hid (Tx w11 (fun b => Q b ∨ b = pb) (.slice va2 N2 vc2) (sk S1.last)) := T11
      clear hN2 hrow2 hperm2 hkeys hsort P9 D9 F9 z9 b11 T11 hQ zpb zpb' z11 c1 f1 c1'
      have hnp : ∀ j, j < w.heap.size → j = pb → O j := fun j hj e => (Nat.lt_irrefl pb (Nat.lt_of_lt_of_le (e ▸ hj) hpb')).elim
      clear hpb' hpb zw1
      go_loopw [59] (fun s59 wz => ∃ (i : Nat) (S2 : St) (ps2 : List Int) (Oi : Nat → Prop), s59 = .int .i64 i ∧ i ≤ N2 ∧ Cuts ((sk S1.last).take i) { S1 with now := S1.last, nb := nb } ps1 S2 ps2 ∧ Dk wz Oi d S2 ∧ (∀ b, Oi b → Q b) ∧ Pik wz Q pb ps2 ∧ Fr O w wz ∧ Tx wz (fun b => Q b ∨ b = pb) (.slice va2 N2 vc2) (sk S1.last) ∧ w11.heap.size ≤ wz.heap.size)
        (fun s59 _ => N2 - (Lib.intOf s59).toNat)
      case atStart => exact ⟨0, _, _, _, rfl, Nat.zero_le _, Cuts.nil _ _, D11, hOQ, P11, F11, HT11.out, Nat.le_refl _⟩
      case round =>
        obtain ⟨k, S2, ps2, Oi, rfl, hkN, hcuts, D12, hOi, P12, F12, T12, z12⟩ := hrel
        by_cases hlt2 : k < N2
        · have hil : k < (sk S1.last).length := by omega
          obtain ⟨g, gc, hv, hcell⟩ := tx_cell T12 k hil
          rw [hl2] at hv
          injection hv with hv1 hv2 hv3
          subst hv1
          obtain ⟨a, ha⟩ : ∃ a, a = (sk S1.last)[k] := ⟨_, rfl⟩
          rw [← ha] at hcell
          obtain ⟨hks, f, x0, hlk0, hx0⟩ := HFit.out a (by rw [ha]; exact List.getElem_mem hil)
          have hcs := cuts_same hcuts
          have hlk : look S2.now (key a) = some f := by rw [hcs.1]; exact hlk0
          have hx0' : S1.F f = some x0 := by rw [HSame.out.1]; exact hx0
          obtain ⟨x, hx⟩ := cuts_some hcuts f x0 hx0'
          have hxl := cuts_len 140737488351232 hcuts (fun f x hx => HLen.out f x (by have := HSame.out.1; rw [← this]; exact hx)) f x hx
          have hIF := D12.fs.is f x hx
          have hsyn := hIF.syn
          have hOff := hOf f x0 hx0
          have c1 := D12.row.cell (i := 1) (by omega)
          simp only [dc] at c1
          have hk := look45 D12.now (key a) hks
          rw [hlk] at hk
          simp only [pv, Option.map_some] at hk
          have hls := fun W (hW : IsF W Oi f x) => loose_any f Oi x W hW hxl
          have htake : (sk S1.last).take (k + 1) = (sk S1.last).take k ++ [a] := by rw [List.take_succ_eq_append_getElem hil, ha]
          have q1 : decide ((k : Int) < (N2 : Int)) = true := by simp; omega
          have q2 : IntKind.i64.wrap ((k : Int) + 1) = ((k + 1 : Nat) : Int) := by rw [IntKind.wrap_i64]; omega
          have q3 : wrap64 ((k : Int) + 1) = ((k + 1 : Nat) : Int) := by rw [IntWalk.wrap64_in _ (by omega)]; omega
          have HD12 : Hid (Dk wr Oi d S2) := D12
          have HI : Hid (IsF wr Oi f x) := hIF
          have HP12 : Hid (Pik wr Q pb ps2) := P12
          have HF12 : Hid (Fr O w wr) := F12
          have HT12 : Hid (Tx wr (fun b => Q b ∨ b = pb) (.slice (some ⟨g, 0, none⟩) N2 vc2) (sk S1.last)) := T12
          have HX : Hid (S2.F f = some x) := hx
          have HLk : Hid (look S2.now (key a) = some f) := hlk
          have HCu : Hid (Cuts ((sk S1.last).take k) { S1 with now := S1.last, nb := nb } ps1 S2 ps2) := hcuts
          have HTk : Hid ((sk S1.last).take (k + 1) = (sk S1.last).take k ++ [a]) := htake
          clear D12 T12 hIF P12 F12 hx hlk hcuts hcs hx0 hx0' hlk0 ha hv2 hv3 hl2 hN2b hil htake HT11 hz1
          by_cases hlo : (x.xs.length : Int) = x.s
          · have hz0 : (x.xs.length : Int) - x.s = 0 := by omega
            have hls1 := hls wr HI.out
            rw [hz0] at hls1
            have HLo : Hid ((x.xs.length : Int) = x.s) := hlo
            clear hls hlo hz0
            go_wp2_with (go_at_call 43; refine hls1.mono ?_; rintro e w13 ⟨rfl, b13⟩)
            go_roundw
            case rel =>
              exact ⟨k + 1, S2, ps2, Oi, by simp, hlt2, by rw [HTk.out]; exact Cuts.skip a f x HCu.out HLk.out HX.out HLo.out, HD12.out.keep b13, hOi, HP12.out.keep b13, HF12.out.trans (Fr.ofBelow b13) (fun _ _ e => e), HT12.out.fr (Fr.ofBelow b13), Nat.le_trans z12 b13.size⟩
            case measure => simpa [Lib.intOf] using meas hlt2
          · have hgt : x.s < x.xs.length := by omega
            obtain ⟨L, hL⟩ : ∃ L : Nat, (L : Int) = x.xs.length - x.s := ⟨((x.xs.length : Int) - x.s).toNat, by omega⟩
            have hL' : L = x.xs.length - x.s.toNat := by omega
            have hL0 : 0 < L := by omega
            have qL : decide ((0 : Int) < (L : Int)) = true := by simp; omega
            have hpick := fun W (hW : Pik W Q pb ps2) => pick_any Q pb ps2 L W hW (by omega)
            have hle := pick1_le ps2 L
            have hcut := fun W (hW : IsF W Oi f x) => cut_any f Oi x (pick1 ps2 L).1 W hW (by omega) hxl
            have HGt : Hid (x.s < x.xs.length) := hgt
            have HL' : Hid (L = x.xs.length - x.s.toNat) := hL'
            rw [← hL] at hls
            clear hlo hL hL' hle hsyn hxl hgt
            obtain ⟨k1, hk1⟩ : ∃ k1, k1 = (pick1 ps2 L).1 := ⟨_, rfl⟩
            obtain ⟨ps3, hps3⟩ : ∃ ps3, ps3 = (pick1 ps2 L).2 := ⟨_, rfl⟩
            rw [← hk1] at hpick hcut
            rw [← hps3] at hpick
            have HK1 : Hid (k1 = (pick1 ps2 L).1) := hk1
            have HPS : Hid (ps3 = (pick1 ps2 L).2) := hps3
            clear hk1 hps3
            go_wp2_with fail
            refine (hls wr HI.out).mono ?_
            rintro e w13 ⟨rfl, b13⟩
            go_wp2_with fail
            have I13 : IsF w13 Oi f x := (HD12.out.keep b13).fs.is f x HX.out
            refine (hls w13 I13).mono ?_
            rintro e w14 ⟨rfl, b14⟩
            have B14 : RowKit.Below wr.heap.size wr w14 := b13.trans (b14.mono b13.size)
            go_wp2_with fail
            refine (hpick w14 (HP12.out.keep B14)).mono ?_
            rintro e w15 ⟨rfl, P15, f15⟩
            have hOpb : ∀ b, Oi b → ¬ b = pb := fun b hb e => HP12.out.nb (e ▸ hOi b hb)
            have D15 := (HD12.out.keep B14).fr f15 hOpb
            go_wp2_with fail
            refine (hcut w15 (D15.fs.is f x HX.out)).mono ?_
            rintro e w16 ⟨rfl, v', r1, r2, r3, r4⟩
            have D16 := cut_dk D15 HX.out r1 r2 r3 r4
            have z15 : w11.heap.size ≤ w15.heap.size := Nat.le_trans z12 (Nat.le_trans B14.size f15.size)
            go_wp2_with fail
            go_roundw
            case rel =>
              refine ⟨k + 1, _, ps3, _, by simp, hlt2, ?_, D16, ?_, P15.fr (r3.weak (fun j e => by subst e; exact hQO _ hOff)), ?_, ?_, Nat.le_trans z15 r3.size⟩
              · rw [HTk.out, HPS.out, HK1.out, HL'.out]
                exact Cuts.cut a f x v' HCu.out HLk.out HX.out HGt.out
              · exact fun b hb => hb.elim (hOi b) fun e => hQK b (Nat.le_trans z15 (r4 b e))
              · exact ((HF12.out.trans (Fr.ofBelow B14) (fun _ _ e => e)).trans f15 hnp).trans r3 (fun j _ e => by subst e; exact hOff)
              · exact ((HT12.out.fr (Fr.ofBelow B14)).fr (f15.weak (fun j e => .inr e))).fr (r3.weak (fun j e => by subst e; exact .inl (hQO _ hOff)))
            case measure => simpa [Lib.intOf] using meas hlt2
        · obtain rfl : k = N2 := by omega
          have q2 : decide ((k : Int) < (k : Int)) = false := by simp
          have hfin : Cuts (sk S1.last) { S1 with now := S1.last, nb := nb } ps1 S2 ps2 := by
            have e : (sk S1.last).take k = sk S1.last := by rw [← hl2, List.take_length]
            rw [e] at hcuts
            exact hcuts
          have hDD : Dk wr (Ow O w wr) d S2 := D12.mono (fun b hb => (hQn b (hOi b hb)).elim .inl fun e => .inr ⟨e, D12.lim b hb⟩) (fun b hb => hb.elim (fun e => Nat.lt_of_lt_of_le (hlimO b e) F12.size) fun e => e.2)
          clear hcuts hl2
          go_wp2
          go_end0
          exact ⟨rfl, S1, ps1, nb, S2, ps2, HS1.out, hfin, hDD, F12⟩

end Go.Proofs.Ytmpfbemdljfamaa
