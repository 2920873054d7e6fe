/- Write: the walk. -/
import Derived.Test.YtebkgmjmjmaleaaWWrite
namespace Go.Proofs.Ytebkgmjmjmaleaa
open Go.RowKit

def slen : Value → Nat
  | .slice _ n _ => n
  | _ => 0

theorem HRaw.setSize {w : World} {R : Nat} {s : St} {l : Nat → Int} {n : Int} (h : HRaw w R s l n) (m : Int) : HRaw (w.setCell ⟨R, 69, none⟩ (.int .i64 m)) R s l m :=
  (World.rowIs.set h 69 _).congr (fun i hi => by
    unfold hcells
    by_cases e : i = 69
    · subst e; rfl
    · rw [if_neg e]
      by_cases h5 : i < 5
      · rw [if_pos h5, if_pos h5]
      · rw [if_neg h5, if_neg h5, if_pos (by omega), if_pos (by omega)])

/-- The world behind the store of five words. -/
def setw (w : World) (R : Nat) (r : St) : World :=
  ((((w.setCell ⟨R, 0, none⟩ (.int .u32 r.a)).setCell ⟨R, 1, none⟩ (.int .u32 r.b)).setCell ⟨R, 2, none⟩ (.int .u32 r.c)).setCell ⟨R, 3, none⟩ (.int .u32 r.d)).setCell ⟨R, 4, none⟩ (.int .u32 r.e)

theorem HRaw.setWords {w : World} {R : Nat} {s : St} {l : Nat → Int} {n : Int} (h : HRaw w R s l n) (r : St) : HRaw (setw w R r) R r l n :=
  (World.rowIs.set (World.rowIs.set (World.rowIs.set (World.rowIs.set (World.rowIs.set h 0 _) 1 _) 2 _) 3 _) 4 _).congr (fun i hi => by
    rcases i with _ | _ | _ | _ | _ | i
    · rfl
    · rfl
    · rfl
    · rfl
    · rfl
    · have e : ∀ t : St, hcells t l n (i + 5) = if i < 64 then .int .u8 (l i) else .int .i64 n := fun t => by
        unfold hcells
        by_cases h : i < 64
        · rw [if_neg (by omega), if_pos (by omega), if_pos h]; rfl
        · rw [if_neg (by omega), if_neg (by omega), if_neg h]
      show (if i + 5 = 4 then _ else if i + 5 = 3 then _ else if i + 5 = 2 then _ else if i + 5 = 1 then _ else if i + 5 = 0 then _ else hcells s l n (i + 5)) = hcells r l n (i + 5)
      rw [if_neg (by omega), if_neg (by omega), if_neg (by omega), if_neg (by omega), if_neg (by omega), e, e])

theorem setw_fr {P : Nat → Prop} {w w' : World} {R : Nat} (r : St) (h : Fr P w w') (hR : P R) : Fr P w (setw w' R r) :=
  ((((h.setCell hR _).setCell hR _).setCell hR _).setCell hR _).setCell hR _

def lv (t : TypeId) (a : Addr) : Sem Value := loadVar t a

theorem lv43 (a : Addr) : loadVar 43 a = lv 43 a := rfl

theorem lv43_run {w : World} {R : Nat} {s : St} {l : Nat → Int} {n : Int} (h : HRaw w R s l n) : (lv 43 ⟨R, 5, none⟩).run Try.prog w = .ok (row (fun j => .int .u8 (l j)) 64) w := by
  have := load_mid (P := Try.prog) (o := 5) 43 _ h 64 (by omega) Try.underlying43 rfl size43
  rw [row_congr _ (fun j => .int .u8 (l j)) 64 (fun i hi => by simp only [hcells]; rw [if_neg (by omega), if_pos (by omega)]; congr 2; omega)] at this
  exact this

attribute [local go_sem ↓] lv43

theorem take_more (xs ys : List Int) (p cnt : Nat) : xs ++ ys.take p ++ (ys.drop p).take cnt = xs ++ ys.take (p + cnt) := by
  rw [List.append_assoc, List.take_add]

theorem slen_ok (a : Option Addr) (n c : Nat) : slen (.slice a n c) = n := rfl

theorem sub_sep {B o cnt R c' : Nat} (h : B ≠ R) (ad : Addr) (had : (if c' = cnt then some (⟨B, o, none⟩ : Addr) else some ⟨B, o + cnt, none⟩) = some ad) : ad.block ≠ R := by
  by_cases hc : c' = cnt
  · rw [if_pos hc] at had; cases had; exact h
  · rw [if_neg hc] at had; cases had; exact h

set_option maxRecDepth 100000 in
set_option maxHeartbeats 4000000 in
theorem write_any (R : Nat) (ao : Option Addr) (n c : Nat) (xs ys : List Int) (w : World) (h : IsH w R xs) (hr : Rd w ao n c ys) (hs : ∀ ad, ao = some ad → 0 < n → ad.block ≠ R) (hl : xs.length + ys.length ≤ 1000000000) :
    Calls Try.prog 11 #[.pointer (some ⟨R, 0, none⟩), .slice ao n c] w fun e w' => e = .returned (.tuple #[]) ∧ IsH w' R (xs ++ ys) ∧ Fr (fun b => b = R) w w' := by
  go_enter Try.func11, Try.ntmps11
  go_wp2_with fail
  go_loopw [1] (fun b wr => ∃ (p : Nat) (ao' : Option Addr) (n' c' : Nat), b = .slice ao' n' c' ∧ p + n' = ys.length ∧ IsH wr R (xs ++ ys.take p) ∧ Rd wr ao' n' c' (ys.drop p) ∧ (∀ ad, ao' = some ad → 0 < n' → ad.block ≠ R) ∧ Fr (fun b => b = R) w wr)
    (fun b _ => slen b)
  case atStart => exact ⟨0, ao, n, c, rfl, by simp [hr.len], by simpa using h, by simpa using hr, hs, Fr.refl _ _⟩
  case round =>
    clear h hr hs
    obtain ⟨p, ao', n', c', rfl, hpn, hH, hrd, hs, fr⟩ := hrel
    by_cases hn : 0 < n'
    · obtain ⟨B, o, rfl, hcl⟩ := hrd.plain hn
      have hBR : B ≠ R := hs _ rfl hn
      obtain ⟨X, hX⟩ : ∃ X, X = xs ++ ys.take p := ⟨_, rfl⟩
      obtain ⟨zs, hzs⟩ : ∃ zs, zs = ys.drop p := ⟨_, rfl⟩
      rw [← hX] at hH
      rw [← hzs] at hrd
      obtain ⟨q, k, hlen, hk, hbyt, l, raw, hl2⟩ := hH
      obtain ⟨L, hL⟩ : ∃ L, L = X.length := ⟨_, rfl⟩
      obtain ⟨s, hss⟩ : ∃ s, s = absb X q := ⟨_, rfl⟩
      rw [← hL, ← hss] at raw
      obtain ⟨cnt, hcnt⟩ : ∃ cnt, cnt = min n' (64 - k) := ⟨_, rfl⟩
      have hzl := hrd.len
      have hLb : L + n' ≤ 1000000000 := by rw [hL, hX]; simp; omega
      have HX : Hid (X = xs ++ ys.take p ∧ zs = ys.drop p ∧ L = X.length ∧ s = absb X q ∧ cnt = min n' (64 - k) ∧ X.length = 64 * q + k ∧ p + n' = ys.length) := ⟨hX, hzs, hL, hss, hcnt, hlen, hpn⟩
      have HB : Hid ((∀ x ∈ X, 0 ≤ x ∧ x < 256) ∧ (∀ x ∈ zs, 0 ≤ x ∧ x < 256) ∧ ∀ j, j < k → l j = X.getD (64 * q + j) 0) := ⟨hbyt, hrd.byt, hl2⟩
      have hkL : (L : Int).tmod 64 = (k : Int) := by rw [Int.tmod_eq_emod_of_nonneg (by omega)]; omega
      have c69 := raw.size
      have hrd' : Rd wr.drew (some ⟨B, o, none⟩) n' c' zs := hrd.keep (Below.refl _ _).drew
      have raw' : HRaw wr.drew R s l (L : Int) := raw
      have hk64 : (k : Int) < 64 := by omega
      have hkl : (k : Int) ≤ 64 := by omega
      have hnk : ¬ 64 = k := by omega
      clear hX hzs hL hss hlen hbyt hl2 hcl hcnt hpn hzl
      go_wp2_with fail
      go_region_law (refine step_copy (by rfl) (.tmp 16) (.tmp 17) (by rfl) R k n' c' cnt ⟨B, o, none⟩ (64 - k) (64 - k) (by rfl) (by rfl) rfl HX.out.2.2.2.2.1 hk raw' hrd' ?_; intro w2 h2 f2)
      obtain ⟨hX, hzs, hL, hss, hcnt, hlen, hpn⟩ := HX.out
      have hcn : cnt ≤ n' := by omega
      have hcp : 0 < cnt := by omega
      have hkc : k + cnt ≤ 64 := by omega
      have hzl := hrd.len
      clear hX hzs hL hss hcnt hlen hpn
      have hrd2 := (hrd'.fr f2 (fun ad had _ e => hBR (by cases had; exact e))).sub cnt (n' - cnt) (by omega)
      rw [List.take_of_length_le (by simp; omega)] at hrd2
      have c69' := h2.size
      have f69 := World.rowIs.frozen h2 69
      have hcc : (cnt : Int) ≤ c' := by have := hrd.le; omega
      have hcc2 : (cnt : Int) ≤ n' := by omega
      have hcc3 : cnt ≤ c' := by have := hrd.le; omega
      have h3 := h2.setSize ((L : Int) + cnt)
      have f3 : Fr (fun b => b = R) w (w2.setCell ⟨R, 69, none⟩ (.int .i64 ((L : Int) + cnt))) := (fr.drew.trans f2 (fun _ _ e => e)).setCell rfl _
      have hrd3 : Rd (w2.setCell ⟨R, 69, none⟩ (.int .i64 ((L : Int) + cnt))) _ _ _ _ := hrd2.fr ((Fr.refl (fun b => b = R) w2).setCell rfl _) (fun ad had hp e => by
        by_cases hcx : c' = cnt
        · rw [if_pos hcx] at had; cases had; exact hBR e
        · rw [if_neg hcx] at had; simp only [Option.map_some, Option.some.injEq] at had; subst had; rw [Addr.add_lit] at e; exact hBR e)
      have hrd4 : Rd (w2.setCell ⟨R, 69, none⟩ (.int .i64 ((L : Int) + cnt))) (if c' = cnt then some ⟨B, o, none⟩ else some ⟨B, o + cnt, none⟩) (n' - cnt) (c' - cnt) (ys.drop (p + cnt)) := by
        rw [HX.out.2.1, List.drop_drop] at hrd3
        by_cases hcx : c' = cnt
        · rw [if_pos hcx] at hrd3 ⊢; exact hrd3
        · rw [if_neg hcx] at hrd3 ⊢; simpa only [Option.map_some, Addr.add_lit] using hrd3
      have HR4 : Hid (Rd (w2.setCell ⟨R, 69, none⟩ (.int .i64 ((L : Int) + cnt))) (if c' = cnt then some ⟨B, o, none⟩ else some ⟨B, o + cnt, none⟩) (n' - cnt) (c' - cnt) (ys.drop (p + cnt))) := hrd4
      have HS : Hid (∀ ad, (if c' = cnt then some (⟨B, o, none⟩ : Addr) else some ⟨B, o + cnt, none⟩) = some ad → ad.block ≠ R) := sub_sep hBR
      have HZ : Hid (zs.length = n') := hzl
      clear hrd hrd' raw raw' c69 hrd2 hrd3 hrd4 fr f2 hs hzl
      by_cases h64 : k + cnt = 64
      · have e64 : ((L : Int) + cnt).tmod 64 = 0 := by rw [Int.tmod_eq_emod_of_nonneg (by omega)]; have := HX.out; omega
        obtain ⟨bs, hbs⟩ : ∃ bs, bs = blk (X ++ zs.take cnt) q := ⟨_, rfl⟩
        have hbb : ∀ x ∈ bs, 0 ≤ x ∧ x < 256 := by rw [hbs]; exact blk_byt _ _ (take_byt cnt HB.out.1 HB.out.2.1)
        have HBB : Hid (∀ x ∈ bs, 0 ≤ x ∧ x < 256) := hbb
        have HBS : Hid (bs = blk (X ++ zs.take cnt) q) := hbs
        have hld := lv43_run (w := (w2.setCell ⟨R, 69, none⟩ (.int .i64 ((L : Int) + cnt))).drew) h3
        rw [blk_eq (X ++ zs.take cnt) q _ (fun j hj => lay_get X zs l q k cnt HX.out.2.2.2.2.2.1 HB.out.2.2 j (by omega)), ← hbs] at hld
        have hld' := hld
        clear hbb hbs hld
        have HH3 : Hid (HRaw (w2.setCell ⟨R, 69, none⟩ (.int .i64 ((L : Int) + cnt))) R s (lay l k cnt zs) ((L : Int) + cnt)) := h3
        have HF3 : Hid (Fr (fun b => b = R) w (w2.setCell ⟨R, 69, none⟩ (.int .i64 ((L : Int) + cnt)))) := f3
        clear h3 f3 hBR
        go_wp2_with fail
        all_goals
          obtain ⟨W3, hW3⟩ : ∃ W3, W3 = w2.setCell ⟨R, 69, none⟩ (.int .i64 ((L : Int) + cnt)) := ⟨_, rfl⟩
          rw [← hW3] at hld' HR4 HH3 HF3 ⊢
          clear hW3 h2 c69' f69
          have c0 := HH3.out.word 0 (by omega)
          have c1 := HH3.out.word 1 (by omega)
          have c2 := HH3.out.word 2 (by omega)
          have c3 := HH3.out.word 3 (by omega)
          have c4 := HH3.out.word 4 (by omega)
          simp only [St.nth] at c0 c1 c2 c3 c4
          go_region_with ((go_at_call 16; refine (mixed_any s bs _ HBB.out).mono ?_; rintro e w5 ⟨rfl, hb5⟩; have r5 : HRaw w5 R s (lay l k cnt zs) ((L : Int) + cnt) := HRaw.keep (w := W3.drew) HH3.out hb5; have d0 := World.rowIs.cell r5 (i := 0) (by omega); have d1 := World.rowIs.cell r5 (i := 1) (by omega); have d2 := World.rowIs.cell r5 (i := 2) (by omega); have d3 := World.rowIs.cell r5 (i := 3) (by omega); have d4 := World.rowIs.cell r5 (i := 4) (by omega); have g0 := World.rowIs.frozen r5 0; have g1 := World.rowIs.frozen r5 1; have g2 := World.rowIs.frozen r5 2; have g3 := World.rowIs.frozen r5 3; have g4 := World.rowIs.frozen r5 4))
          all_goals
            have f5 : Fr (fun b => b = R) w w5 := HF3.out.drew.trans (P' := fun _ => False) (Fr.ofBelow hb5) (fun _ _ h => h.elim)
            have r6 := r5.setWords (mix s bs)
            have f6 := setw_fr (P := fun b => b = R) (mix s bs) f5 rfl
            have f6' := setw_fr (P := fun b => b = R) (mix s bs) (Fr.refl (fun b => b = R) w5) rfl
            clear c0 c1 c2 c3 c4 d0 d1 d2 d3 d4 g0 g1 g2 g3 g4 r5 hld'
            go_wp2_with fail
            obtain ⟨hX, hzs, hL, hss, hcnt, hlen, hpn⟩ := HX.out
            have hzl := HZ.out
            have hsp := HS.out
            have f7 : Fr (fun b => b = R) W3 (setw w5 R (mix s bs)) := setw_fr (P := fun b => b = R) (mix s bs) ((Fr.refl (fun b => b = R) W3).drew.trans (P' := fun _ => False) (Fr.ofBelow hb5) (fun _ _ h => h.elim)) rfl
            have hrd6 := HR4.out.fr f7 (fun ad had _ e => hsp ad had e)
            rw [HBS.out, hss, hL] at r6
            first
              | (rw [if_pos ‹c' = cnt›, show c' - cnt = 0 by omega] at hrd6; rw [if_pos ‹c' = cnt›] at hsp)
              | rw [if_neg ‹¬ c' = cnt›] at hrd6 hsp
            refine ⟨⟨p + cnt, _, _, _, rfl, by omega, ?_, hrd6, (fun ad had _ => hsp ad had), f6⟩, by rw [slen_ok, slen_ok]; omega⟩
            rw [← take_more, ← hX, ← hzs]
            rw [HBS.out, hss]
            exact next_full hlen (by omega) HB.out.1 HB.out.2.1 h64 r6
      · have e64 : ((L : Int) + cnt).tmod 64 = ((k + cnt : Nat) : Int) := by rw [Int.tmod_eq_emod_of_nonneg (by omega)]; have := HX.out; omega
        have e65 : ¬ ((k + cnt : Nat) : Int) = 0 := by omega
        go_wp2_with fail
        obtain ⟨hX, hzs, hL, hss, hcnt, hlen, hpn⟩ := HX.out
        have hzl := HZ.out
        refine ⟨⟨p + cnt, _, _, _, rfl, by omega, ?_, HR4.out, (fun ad had _ => HS.out ad had), f3⟩, by rw [slen_ok, slen_ok]; omega⟩
        rw [← take_more, ← hX, ← hzs]
        rw [hss, hL] at h3
        exact next_part hlen (by omega) HB.out.1 HB.out.2.1 HB.out.2.2 (by omega) (by rw [hL]; exact h3)
    · obtain rfl : n' = 0 := by omega
      obtain rfl : p = ys.length := by omega
      rw [List.take_of_length_le (Nat.le_refl _)] at hH
      clear hn
      go_wp2_with fail
      go_end0
      exact ⟨rfl, hH, fr⟩

end Go.Proofs.Ytebkgmjmjmaleaa
