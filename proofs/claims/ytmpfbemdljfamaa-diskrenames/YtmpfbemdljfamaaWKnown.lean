/- known. -/
import Derived.Test.YtmpfbemdljfamaaWV
namespace Go.Proofs.Ytmpfbemdljfamaa
open Go.RowKit Go.Maps Go.Sort

/-- Bytes that stand in the text. -/
theorem lit_rd (w w' : World) (xs : List Int) (hx : ∀ x ∈ xs, 0 ≤ x ∧ x < 256) (hc : ∀ p, w'.cell? p = (w.alloc (.cells (xs.map (Value.int .u8)).toArray 5)).cell? p) : Rd w' (some ⟨w.heap.size, 0, none⟩) xs.length xs.length xs := by
  have h : (w.alloc (.cells (xs.map (Value.int .u8)).toArray 5)).rowIs w.heap.size 5 xs.length (fun j => .int .u8 (xs.getD j 0)) := by
    have := World.rowIs_alloc w (xs.map (Value.int .u8)).toArray 5 (fun j => .int .u8 (xs.getD j 0)) (fun i hi => by
      have hi' : i < xs.length := by simpa using hi
      simp [List.getD, hi'])
    simpa using this
  exact (Rd.ofRow h rfl hx).same hc

theorem ow_lo {O : Nat → Prop} {w w' : World} {B : Nat} (h : ∀ b, O b → B ≤ b) (hB : B ≤ w.heap.size) : ∀ b, Ow O w w' b → B ≤ b := fun b hb => hb.elim (h b) fun e => Nat.le_trans hB e.1

theorem fr_lo {O : Nat → Prop} {a w w' : World} {B : Nat} (hb : RowKit.Below B a w) (hf : Fr O w w') (h : ∀ b, O b → B ≤ b) (hB : B ≤ w.heap.size) : RowKit.Below B a w' := hb.trans (hf.below B hB (fun i hi ho => by have := h i ho; omega))

/-- A literal's block is none of the disk's. -/
theorem lit_na {O : Nat → Prop} {w : World} {n : Nat} (h : ∀ b, O b → b < w.heap.size) : ∀ ad, (some ⟨w.heap.size, 0, none⟩ : Option Addr) = some ad → 0 < n → ¬ O ad.block := by
  intro ad e _ hb
  cases e
  exact Nat.lt_irrefl _ (h _ hb)

theorem sets_inv {S S1 : St} {ps ps1 : List Int} {l : List (List UInt8)} (h : Sets l S ps S1 ps1) (hl : l = []) : S1 = S ∧ ps1 = ps := by
  cases h with
  | nil => exact ⟨rfl, rfl⟩
  | snoc a r x _ _ _ => simp at hl

theorem kn_sets {S : St} {f : Nat} (h : Kn S f) : ∀ l a l2 S1 ps1, sk S.rws = l ++ a :: l2 → Sets l (offed S) [] S1 ps1 → ∃ r x, look S1.rws (key a) = some r ∧ S1.R r = some x ∧ Maps.size S1.last + x.cs.length < 1000000000 ∧ (key a).size ≤ maxLen := by
  obtain ⟨f2, r2, c, V, x2, hx2, hc⟩ := h.vw
  intro l a l2 S1 ps1 h1 h2
  rw [V.rws, sk_one] at h1
  obtain ⟨rfl, rfl, rfl⟩ := cons_one h1
  obtain ⟨rfl, rfl⟩ := sets_inv h2 rfl
  refine ⟨r2, x2, ?_, hx2, ?_, by decide⟩
  · show look S.rws _ = _
    rw [V.rws]
    rfl
  · show Maps.size S.last + _ < _
    rw [V.last]
    show 1 + x2.cs.length < _
    omega

theorem kn_fit {S : St} {f : Nat} (h : Kn S f) : ∀ S1 ps1, Sets (sk S.rws) (offed S) [] S1 ps1 → Maps.size S1.last ≤ 1000000000 ∧ ∀ a ∈ sk S1.last, (key a).size ≤ maxLen ∧ ∃ f x, look S1.last (key a) = some f ∧ S.F f = some x := by
  obtain ⟨f2, r2, c, V, x2, hx2, hc⟩ := h.vw
  obtain ⟨v, hv⟩ := h.fil
  intro S1 ps1 h1
  have e : S1.last = .map [(nm tAB, pd f)] := (sets_none h1 rfl).2.trans V.last
  rw [e]
  refine ⟨show (1 : Nat) ≤ 1000000000 by decide, fun a ha => ?_⟩
  rw [sk_one] at ha
  obtain rfl := List.mem_singleton.1 ha
  exact ⟨by decide, f, _, rfl, hv⟩

set_option maxRecDepth 100000 in
set_option maxHeartbeats 2000000 in
theorem known_yes (w : World) : Calls Try.prog 7 #[] w fun e w' => e = .returned (.bool true) ∧ RowKit.Below w.heap.size w w' := by
  go_enter Try.func7, Try.ntmps7
  go_wp2_with fail
  refine (new_any 100 w (by omega) (by omega)).mono ?_
  rintro e w1 ⟨d, rfl, D1, b1⟩
  have lo1 : ∀ b, (w.heap.size ≤ b ∧ b < w1.heap.size) → w.heap.size ≤ b := fun b hb => hb.1
  have V1 := vw_fresh 100 w.heap.size
  have L1 : LenB (fresh 100 w.heap.size) 10 := fun f x e => by cases e
  have U1 := used_nil V1.now
  have T1 := fits_nil V1.now
  obtain ⟨S0, hS0⟩ : ∃ S, S = fresh 100 w.heap.size := ⟨_, rfl⟩
  obtain ⟨O1, hO1⟩ : ∃ O : Nat → Prop, O = fun b => w.heap.size ≤ b ∧ b < w1.heap.size := ⟨_, rfl⟩
  rw [← hS0] at D1 V1 L1 U1 T1
  rw [← hO1] at D1
  have lo : ∀ b, O1 b → w.heap.size ≤ b := by rw [hO1]; exact lo1
  clear hS0 hO1 lo1
  -- a file is made
  go_wp2_with (refine wpList_conv rfl _ rfl ⟨w1.heap.size, 0, none⟩ 3 3 rfl ?_; intro w2 fc2 cc2)
  have hA := appV_new V1 (D1.keep (new_fr fc2)) (lit_rd w1 w2 [120, 121, 122] (by decide) cc2) (lit_na D1.lim) nmAB (by unfold Okn; omega) rfl T1 (by decide) (by rw [U1]; decide) (by rw [U1]; decide) (by decide) (by decide) (fun r e => by cases e)
  have B2 : RowKit.Below w.heap.size w w2 := b1.trans ((new_fr fc2).mono b1.size)
  refine hA.mono ?_
  rintro e w3 ⟨rfl, r, f, x1, SA, hff, hx1, -, hvw, N3, D3, F3⟩
  have V3 := hvw [(nm tAB, pd f)] [(nm tA, pd r)] rfl (fun _ => rfl) (fun h => absurd rfl h)
  obtain rfl := hx1 rfl
  have L3 := lenB_new L1 N3 (by decide)
  have B3 := fr_lo B2 F3 lo B2.size
  have lo3 := ow_lo (w := w2) (w' := w3) lo B2.size
  obtain ⟨v3, hv3⟩ := N3.here
  obtain ⟨cv, fv, hr3⟩ := N3.row
  simp only [List.nil_append, List.length_nil] at hr3
  obtain ⟨O3, hO3⟩ : ∃ O, O = Ow O1 w2 w3 := ⟨_, rfl⟩
  rw [← hO3] at D3 lo3
  clear hA hvw N3 hO3 D1 V1 L1 U1 T1 fc2 cc2 F3 lo hff hx1
  -- synced
  have hB := syncV (f := f) V3 D3 nmAB.le (by unfold Okn; omega) rfl hv3
  go_wp2_with fail
  refine hB.mono ?_
  rintro e w4 ⟨rfl, V4, D4, F4⟩
  have L4 : LenB (filed (ticked SA) f ⟨v3, [120, 121, 122], ([120, 121, 122] : List Int).length⟩) 10 := lenB_filed (S := ticked SA) L3 _ _ (by simp)
  have B4 := fr_lo B3 F4 lo3 B3.size
  have hv4 : (filed (ticked SA) f ⟨v3, [120, 121, 122], ([120, 121, 122] : List Int).length⟩).F f = some ⟨v3, [120, 121, 122], 3⟩ := upd_same _ _ _
  have hr4 : (filed (ticked SA) f ⟨v3, [120, 121, 122], ([120, 121, 122] : List Int).length⟩).R r = some ⟨cv, fv, [.made tAB 0], [f]⟩ := hr3
  obtain ⟨SB, hSB⟩ : ∃ S, S = filed (ticked SA) f ⟨v3, [120, 121, 122], ([120, 121, 122] : List Int).length⟩ := ⟨_, rfl⟩
  rw [← hSB] at V4 D4 L4 hv4 hr4
  clear hSB hB V3 D3 L3 hv3 hr3 F4
  have hC := syncDirV (r := r) (last' := [(nm tAB, pd f)]) (rws' := []) V4 D4 partA (by unfold Okn; omega) rfl hr4 (by simp) rfl rfl
  go_wp2_with fail
  refine hC.mono ?_
  rintro e w5 ⟨rfl, V5, D5, F5⟩
  have B5 := fr_lo B4 F5 lo3 B4.size
  obtain ⟨SC, hSC⟩ : ∃ S, S = settled (ticked SB) tA ⟨cv, fv, [.made tAB 0], [f]⟩ ([Chg.made tAB 0] : List Chg).length := ⟨_, rfl⟩
  have L5 : LenB SC 10 := by rw [hSC]; exact L4
  have hv5 : SC.F f = some ⟨v3, [120, 121, 122], 3⟩ := by rw [hSC]; exact hv4
  rw [← hSC] at V5 D5
  clear hSC hC V4 D4 L4 hv4 hr4 F5
  have U5 := used_one V5.now hv5
  have T5 := fits_one V5.now hv5
  -- one byte more
  go_wp2_with (refine wpList_conv rfl _ rfl ⟨w5.heap.size, 0, none⟩ 1 1 rfl ?_; intro w6 fc6 cc6)
  have hD := appV_old (f := f) V5 (D5.keep (new_fr fc6)) (lit_rd w5 w6 [119] (by decide) cc6) (lit_na D5.lim) nmAB (by unfold Okn; omega) rfl hv5 T5 (by simp) (by rw [U5]; simp) (by rw [U5]; simp)
  have B6 : RowKit.Below w.heap.size w w6 := B5.trans ((new_fr fc6).mono B5.size)
  refine hD.mono ?_
  rintro e w7 ⟨rfl, v7, V7, D7, F7⟩
  have B7 := fr_lo B6 F7 lo3 B6.size
  have lo7 := ow_lo (w := w6) (w' := w7) lo3 B6.size
  obtain ⟨SD, hSD⟩ : ∃ S, S = filed (ticked SC) f ⟨v7, ([120, 121, 122] : List Int) ++ [119], 3⟩ := ⟨_, rfl⟩
  have L7 : LenB SD 10 := by rw [hSD]; exact lenB_filed (S := ticked SC) L5 _ _ (by simp)
  have hv7 : SD.F f = some ⟨v7, [120, 121, 122, 119], 3⟩ := by rw [hSD]; exact upd_same _ _ _
  obtain ⟨O7, hO7⟩ : ∃ O, O = Ow O3 w6 w7 := ⟨_, rfl⟩
  rw [← hO7, ← hSD] at D7
  rw [← hSD] at V7
  rw [← hO7] at lo7
  clear hSD hO7 hD V5 D5 L5 hv5 U5 T5 fc6 cc6 F7
  have U7 := used_one V7.now hv7
  have T7 := fits_one V7.now hv7
  have hflt := (D7.fs.is f _ hv7).lt
  -- another file
  go_wp2_with (refine wpList_conv rfl _ rfl ⟨w7.heap.size, 0, none⟩ 1 1 rfl ?_; intro w8 fc8 cc8)
  have hE := appV_new V7 (D7.keep (new_fr fc8)) (lit_rd w7 w8 [119] (by decide) cc8) (lit_na D7.lim) nmAC (by unfold Okn; omega) rfl T7 (by decide) (by rw [U7]; simp) (by rw [U7]; simp) (by simp) (by simp) (fun r e => by cases e)
  have B8 : RowKit.Below w.heap.size w w8 := B7.trans ((new_fr fc8).mono B7.size)
  refine hE.mono ?_
  rintro e w9 ⟨rfl, r2, f2, x2, SE, hff2, hx2, -, hvw2, N9, D9, F9⟩
  have V9 := hvw2 [(nm tAB, pd f), (nm tAC, pd f2)] [(nm tA, pd r2)] rfl (fun _ => rfl) (fun h => absurd rfl h)
  obtain rfl := hx2 rfl
  have L9 := lenB_new L7 N9 (by simp)
  have B9 := fr_lo B8 F9 lo7 B8.size
  have lo9 := ow_lo (w := w8) (w' := w9) lo7 B8.size
  have z8 : w7.heap.size ≤ w8.heap.size := (new_fr fc8).size
  have hv9 : SE.F f = some ⟨v7, [120, 121, 122, 119], 3⟩ := by rw [N9.else_ f (by omega)]; exact hv7
  obtain ⟨cv2, fv2, hr9⟩ := N9.row
  have K9 : Kn SE f := ⟨⟨f2, r2, _, V9, _, hr9, by simp⟩, ⟨v7, hv9⟩, L9⟩
  obtain ⟨O9, hO9⟩ : ∃ O, O = Ow O7 w8 w9 := ⟨_, rfl⟩
  rw [← hO9] at D9 lo9
  clear hO9 hE hvw2 N9 V7 D7 L7 hv7 U7 T7 fc8 cc8 F9 hflt z8 hff2 hx2 lo3 lo7
  have hsz9 : Maps.size SE.rws ≤ 1000000000 := by rw [V9.rws]; exact (show (1 : Nat) ≤ 1000000000 by decide)
  have hcr := crash_any d O9 SE none 0 0 [] w9 D9 (Ri.nil _ _) rfl (fun ad e => by cases e) hsz9 (kn_sets K9) (kn_fit K9) (fun f x hx => Nat.le_trans (L9 f x hx) (by decide))
  have hsyn9 : ∀ f x, SE.F f = some x → 0 ≤ x.s ∧ x.s ≤ x.xs.length := fun f x hx => (D9.fs.is f x hx).syn
  go_wp2_with fail
  refine hcr.mono ?_
  rintro e w10 ⟨rfl, S1, ps1, nb, S2, ps2, hset, hcut, D10, F10⟩
  have P10 := kn_crash K9 hsyn9 hset hcut
  have B10 := fr_lo B9 F10 lo9 B9.size
  have lo10 := ow_lo (w := w9) (w' := w10) lo9 B9.size
  obtain ⟨O10, hO10⟩ : ∃ O, O = Ow O9 w9 w10 := ⟨_, rfl⟩
  rw [← hO10] at D10 lo10
  clear hO10 hcr hset hcut K9 V9 D9 L9 hr9 hv9 hsz9 hsyn9 F10 lo9
  have hrd := read_off d S2 tAB w10 D10.row P10.off
  have hon := on_any d O10 S2 w10 D10
  go_wp2_with fail
  refine hrd.mono ?_
  rintro e w11 ⟨rfl, hw11⟩
  subst w11
  go_wp2_with fail
  refine hon.mono ?_
  rintro e w12 ⟨rfl, D12, F12⟩
  have B12 := fr_lo B10 (F12.weak (P' := O10) (fun i e => by subst e; exact D10.own.1)) lo10 B10.size
  obtain ⟨v12, hv12⟩ := P10.fil
  have n12 : (onn S2).now = .map [(nm tAB, pd f)] := P10.now
  have hv12' : (onn S2).F f = some ⟨v12, [120, 121, 122], 3⟩ := hv12
  obtain ⟨S3, hS3⟩ : ∃ S, S = onn S2 := ⟨_, rfl⟩
  have o12 : S3.off = false := by rw [hS3]; rfl
  rw [← hS3] at D12 n12 hv12'
  clear hS3 hrd hon P10 hv12 D10 F12
  have I12 := D12.fs.is f _ hv12'
  have hre := read_yes d S3 tAB f _ w12 D12.row D12.now nmAB.le o12 (by rw [n12]; rfl) I12.row I12.dat I12.byt (by simp)
  go_wp2_with fail
  refine hre.mono ?_
  rintro e w13 ⟨vx, rfl, X13, b13⟩
  obtain ⟨xa, xc, hxv, R13, -⟩ := own_rd X13 (by decide)
  subst hxv
  have D13 := D12.keep b13
  have B13 := B12.trans (b13.mono B12.size)
  clear hre I12 X13
  have hli := list_any d O10 S3 tA w13 D13 partA o12 (by rw [n12]; exact (show (1 : Nat) ≤ 1000000 by decide)) (by
    rw [n12]
    intro p hp x hx
    obtain rfl := List.mem_singleton.1 hp
    obtain rfl := nm_inj hx
    exact ⟨by decide, by rw [Lib.toList_data, Lib.toList_data]; decide⟩)
  go_wp2_with fail
  refine hli.mono ?_
  rintro e w14 ⟨vl, ls, rfl, hperm, Y14, b14⟩
  have hll : ls.length = 1 := by rw [hperm.length_eq, n12]; rfl
  rw [hll] at Y14
  obtain ⟨la, lc, hlv⟩ := own_shape Y14
  subst hlv
  have D14 := D13.keep b14
  have B14 := B13.trans (b14.mono B13.size)
  have hstr : (convert 22 9 (.slice xa 3 xc)).run Try.prog w14 = .ok (.string { data := #[120, 121, 122] }) w14 := (R13.keep b14).str
  have hus := used_any d O10 S3 w14 D14 o12 (fits_one n12 hv12') (by rw [used_one n12 hv12']; simp)
  rw [used_one n12 hv12'] at hus
  have hus' : Calls Try.prog 18 #[.pointer (some ⟨d, 0, none⟩)] w14 fun e w' => e = .returned (.int .i64 3) ∧ RowKit.Below w14.heap.size w14 w' := hus
  clear hli hperm Y14 hll D13 R13
  go_wp2_with fail
  refine hus'.mono ?_
  rintro e w15 ⟨rfl, b15⟩
  go_wp2_with fail
  refine (name_yes tAB tA _ w15 nmAB).mono ?_
  rintro e w16 ⟨rfl, b16⟩
  go_wp2_with fail
  refine (name_no tA w16 (by rw [Lib.toList_data]; decide) (by decide)).mono ?_
  rintro e w17 ⟨rfl, b17⟩
  have B15 := B14.trans (b15.mono B14.size)
  have B16 := B15.trans (b16.mono B15.size)
  have B17 := B16.trans (b17.mono B16.size)
  go_wp2
  go_ret
  exact ⟨rfl, B17⟩

end Go.Proofs.Ytmpfbemdljfamaa
