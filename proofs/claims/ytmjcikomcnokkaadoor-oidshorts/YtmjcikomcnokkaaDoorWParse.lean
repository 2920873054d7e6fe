/- allSigns, padded, Parse. -/
import Derived.Test.YtmjcikomcnokkaaDoorWRPar
import Derived.Test.YtmjcikomcnokkaaDoorShelf
namespace Go.Proofs.YtmjcikomcnokkaaDoor
open Go.RowKit Go.Shelf

theorem mem_drop {p : UInt8 → Bool} {l : List UInt8} {b : UInt8} (h : b ∈ l) (hb : p b = false) : b ∈ l.dropWhile p := by
  induction l with
  | nil => cases h
  | cons a r ih =>
    rw [List.dropWhile_cons]
    by_cases ha : p a = true
    · rw [if_pos ha]
      rcases List.mem_cons.1 h with rfl | h
      · rw [hb] at ha; cases ha
      · exact ih h
    · rw [if_neg ha]; exact h

theorem drop_all {p : UInt8 → Bool} {l : List UInt8} (h : ∀ b ∈ l, p b = true) : l.dropWhile p = [] := by
  induction l with
  | nil => rfl
  | cons a r ih => rw [List.dropWhile_cons, if_pos (h a (by simp)), ih (fun b hb => h b (by simp [hb]))]

/-- The sixteen signs, as a list. -/
abbrev sgl : List UInt8 := [48, 49, 50, 51, 52, 53, 54, 55, 56, 57, 97, 98, 99, 100, 101, 102]

theorem sgs_all : ∀ m : Fin 256, (sgl.contains (UInt8.ofNat m.val) = true) ↔ isS (m.val : Int) := by decide +kernel

theorem sgs_has (b : UInt8) : (sgl.contains b = true) ↔ isS (b.toNat : Int) := by
  have hn := b.toNat_lt
  have h := sgs_all ⟨b.toNat, hn⟩
  simpa using h

theorem trim_nil (s : ByteArray) : (Lib.trimS s.data.toList sgl = []) ↔ ∀ c ∈ ns s, isS c := by
  have hns : (∀ c ∈ ns s, isS c) ↔ ∀ b ∈ s.data.toList, sgl.contains b = true := by
    unfold ns
    constructor
    · intro h b hb
      exact (sgs_has b).2 (h _ (List.mem_map.2 ⟨b, hb, rfl⟩))
    · intro h c hc
      obtain ⟨b, hb, rfl⟩ := List.mem_map.1 hc
      exact (sgs_has b).1 (h b hb)
  rw [hns]
  unfold Lib.trimS Lib.trimLeftS Lib.trimRightS
  constructor
  · intro h b hb
    by_cases hc : sgl.contains b = true
    · exact hc
    · have hc' : sgl.contains b = false := by simpa using hc
      have h1 : b ∈ (s.data.toList.reverse.dropWhile (sgl.contains ·)).reverse := List.mem_reverse.2 (mem_drop (List.mem_reverse.2 hb) hc')
      have h2 := mem_drop h1 hc'
      rw [h] at h2
      cases h2
  · intro h
    rw [drop_all (l := s.data.toList.reverse) (fun b hb => h b (List.mem_reverse.1 hb))]
    rfl

theorem str_eq_nil (l : List UInt8) : (⟨l.toArray⟩ : ByteArray).toList.isEmpty = decide (l = []) := by
  rw [Lib.toList_data]
  cases l <;> simp

set_option maxRecDepth 100000 in
theorem allSigns_any (s : ByteArray) (w : World) (hs : s.size ≤ 9223372036854775807) : Calls Tryd.prog 26 #[.string s] w fun e w' => e = .returned (.bool (decide (∀ c ∈ ns s, isS c))) ∧ Below w.heap.size w w' := by
  have hcon := Any.strings_Trim_laid Tryd.trim (by kernel_rfl) s sgs w hs (by decide) (ascii_of_all (by decide))
  change Calls Tryd.prog 39 _ _ (fun e w' => e = .returned (.string ⟨(Lib.trimS s.data.toList sgl).toArray⟩) ∧ Below w.heap.size w w') at hcon
  have he := str_eq_nil (Lib.trimS s.data.toList sgl)
  rw [show decide (Lib.trimS s.data.toList sgl = []) = decide (∀ c ∈ ns s, isS c) from decide_eq_decide.2 (trim_nil s)] at he
  generalize (⟨(Lib.trimS s.data.toList sgl).toArray⟩ : ByteArray) = r at hcon he
  generalize decide (∀ c ∈ ns s, isS c) = v at he ⊢
  go_enter Tryd.func26, Tryd.ntmps26
  go_wp2_with (go_at_call 39; refine hcon.mono ?_; rintro e w' ⟨rfl, hB⟩)
  go_ret
  exact ⟨rfl, hB⟩

theorem idx_all : ∀ m : Fin 256, isS (m.val : Int) → Lib.indexByte sgl (UInt8.ofNat m.val) = dg (m.val : Int) := by decide +kernel

theorem idx_dg (c : Int) (h : isS c) : Lib.indexByte sgl c.toNat.toUInt8 = dg c := by
  obtain ⟨n, rfl⟩ : ∃ n : Nat, c = n := ⟨c.toNat, by unfold isS at h; omega⟩
  have hn : n < 256 := by unfold isS at h; omega
  exact idx_all ⟨n, hn⟩ h

theorem idx_any (c : Int) (h : isS c) (w : World) : Calls Tryd.prog 40 #[.string sgs, .int .u8 c] w fun e w' => e = .returned (.int .i64 (dg c)) ∧ w' = w := by
  have hcon := Any.strings_IndexByte Tryd.idxb sgs c w
  rw [← idx_dg c h]
  exact hcon

/-- A front, filled up. -/
def full (s : List Int) (f : Int) : List Int := s ++ List.replicate (40 - s.length) f

theorem full_len (s : List Int) (f : Int) (h : s.length ≤ 40) : (full s f).length = 40 := by unfold full; rw [List.length_append, List.length_replicate]; omega

theorem full_in (s : List Int) (f : Int) (k : Nat) (h : k < s.length) : bt (full s f) k = bt s k := by
  unfold bt full
  rw [List.getD, List.getElem?_append_left h]
  rfl

theorem full_out (s : List Int) (f : Int) (k : Nat) (h : s.length ≤ k) (hk : k < 40) : bt (full s f) k = f := by
  unfold bt full
  rw [List.getD, List.getElem?_append_right h, List.getElem?_replicate, if_pos (by omega)]
  rfl

theorem full_isS (s : List Int) (f : Int) (h : ∀ c ∈ s, isS c) (hf : isS f) : ∀ c ∈ full s f, isS c := by
  intro c hc
  unfold full at hc
  rcases List.mem_append.1 hc with hc | hc
  · exact h c hc
  · rw [(List.mem_replicate.1 hc).2]; exact hf

set_option maxRecDepth 100000 in
set_option maxHeartbeats 4000000 in
theorem padded_any (s : ByteArray) (f : Int) (w : World) (hl : s.size ≤ 40) (hs : ∀ c ∈ ns s, isS c) (hf : isS f) : Calls Tryd.prog 27 #[.string s, .int .u8 f] w fun e w' => e = .returned (idv (pr (full (ns s) f))) ∧ Below w.heap.size w w' := by
  obtain ⟨r1, r2, hb⟩ := two_z w 23
  have HB : Hid _ := hb
  clear hb
  have hn : (ns s).length ≤ 40 := by rw [ns_len]; exact hl
  have hd := fun (i : Nat) (hi : i < s.size) W => str_at s i hi W
  have HN : Hid ((ns s).length ≤ 40) := hn
  have hS := (all_isS (full (ns s) f) 40 (full_len _ _ hn)).1 (full_isS _ _ hs hf)
  have HE : Hid ((ns s).length = s.size) := ns_len s
  clear hn hs
  go_enter Tryd.func27, Tryd.ntmps27
  go_wp2_with fail
  generalize hw2 : (w.alloc (Obj.cells zcs 23)).alloc (Obj.cells zcs 23) = w2 at *
  go_loopw [8] (fun i wr => ∃ (k : Nat), k ≤ 40 ∧ i = .int .i64 k ∧ Hid (wr.rowIs (w.heap.size + 1) 23 20 (pc (full (ns s) f) k)) ∧ Hid (wr.rowIs w.heap.size 23 20 (cl z20)) ∧ Hid (Below w.heap.size w wr)) (fun i _ => 40 - (intOf i).toNat)
  case atStart => exact ⟨0, by omega, rfl, (r2.congr (fun j _ => by rw [zc, pc, pk_zero])), r1, HB⟩
  case round =>
    obtain ⟨k, hk, rfl, hrow, hz, hb⟩ := hrel
    clear r1 r2 HB hw2
    by_cases hlt : k < 40
    · have hdg := fun W => idx_any (bt (full (ns s) f) k) (hS k hlt) W
      obtain ⟨p0, p1⟩ := pk_small (full (ns s) f) k (fun i hi => hS i (by omega))
      have e1 := pk_step (full (ns s) f) k
      have eo := pk_other (full (ns s) f) k
      have wq : Int.tdiv (k : Int) 2 = ((k / 2 : Nat) : Int) := by rw [Int.tdiv_eq_ediv_of_nonneg (by omega)]; omega
      have hq : k / 2 < 20 := by omega
      generalize k / 2 = q at *
      have hq2 : (q : Int) < 20 := by omega
      have hq0 : (0 : Int) ≤ (q : Int) := by omega
      have hqw : IntKind.i64.wrap (q : Int) = q := wraps_i64 _ (by omega) (by omega)
      have hck : wr.cell? ⟨w.heap.size + 1, q, none⟩ = some (.int .u8 (pk (full (ns s) f) k q)) := hrow.out.cell (i := q) hq
      have hfz := hrow.out.frozen q
      have E1 : Hid (pk (full (ns s) f) (k + 1) q = 16 * pk (full (ns s) f) k q + dg (bt (full (ns s) f) k)) := e1
      have EO : Hid (∀ j, j ≠ q → pk (full (ns s) f) (k + 1) j = pk (full (ns s) f) k j) := eo
      obtain ⟨d0, d1⟩ := dg_b _ (hS k hlt)
      have ho := u8_or (pk (full (ns s) f) k q) (dg (bt (full (ns s) f) k)) p0 p1 d0 d1
      have w1 : IntKind.u8.wrap (dg (bt (full (ns s) f) k)) = dg (bt (full (ns s) f) k) := wraps_u8 _ (by omega) (by omega)
      have w2 : IntKind.u8.wrap (pk (full (ns s) f) k q * 16) = pk (full (ns s) f) k q * 16 := wraps_u8 _ (by omega) (by omega)
      have fin : Hid (∀ v d, pk (full (ns s) f) k q = v → dg (bt (full (ns s) f) k) = d → (wr.setCell ⟨w.heap.size + 1, q, none⟩ (.int .u8 (16 * v + d))).rowIs (w.heap.size + 1) 23 20 (pc (full (ns s) f) (k + 1)) ∧ (wr.setCell ⟨w.heap.size + 1, q, none⟩ (.int .u8 (16 * v + d))).rowIs w.heap.size 23 20 (cl z20) ∧ Below w.heap.size w (wr.setCell ⟨w.heap.size + 1, q, none⟩ (.int .u8 (16 * v + d)))) := by
        intro v d hv hdd
        have f3 := set_fr wr (w.heap.size + 1) q (.int .u8 (16 * v + d))
        refine ⟨set_row hrow.out q _ (fun j _ => ?_), rowIs_fr hz.out f3 (by omega), hb.out.trans (f3.below _ hb.out.size (fun i hi e => by omega))⟩
        unfold pc
        by_cases hj : j = q
        · rw [if_pos hj, hj, E1.out, hv, hdd]
        · rw [if_neg hj, EO.out j hj]
      obtain ⟨v, hv⟩ : ∃ v, pk (full (ns s) f) k q = v := ⟨_, rfl⟩
      obtain ⟨d, hdd⟩ : ∃ d, dg (bt (full (ns s) f) k) = d := ⟨_, rfl⟩
      have HF : Hid _ := fin.out v d hv hdd
      rw [hv] at hck p0 p1 ho w2
      rw [hdd] at hdg d0 d1 ho w1
      clear hS e1 eo E1 EO fin hv hdd hrow hz hb
      by_cases hin : k < s.size
      · have hix := hd k hin
        rw [← full_in (ns s) f k (by rw [HE.out]; exact hin)] at hix
        clear hd
        generalize bt (full (ns s) f) k = c at *
        go_wp2_with fail
        go_region_with (first | (go_at_call 40; refine (hdg _).mono ?_; rintro e w3 ⟨rfl, rfl⟩))
        all_goals
          clear hck hfz hdg
          go_wp2_with fail
          go_roundw
          case rel => exact ⟨k + 1, by omega, by go_num, HF.out.1, HF.out.2.1, ⟨HF.out.2.2.os, HF.out.2.2.tape, HF.out.2.2.output, HF.out.2.2.size, HF.out.2.2.block⟩⟩
          case measure => simp [intOf]; omega
      · rw [full_out (ns s) f k (by rw [HE.out]; omega) hlt] at hdg
        clear hd
        go_wp2_with fail
        go_region_with (first | (go_at_call 40; refine (hdg _).mono ?_; rintro e w3 ⟨rfl, rfl⟩))
        all_goals
          clear hck hfz hdg
          go_wp2_with fail
          go_roundw
          case rel => exact ⟨k + 1, by omega, by go_num, HF.out.1, HF.out.2.1, ⟨HF.out.2.2.os, HF.out.2.2.tape, HF.out.2.2.output, HF.out.2.2.size, HF.out.2.2.block⟩⟩
          case measure => simp [intOf]; omega
    · obtain rfl : k = 40 := by omega
      have hz3 := hz.out
      have hr3 := hrow.out.congr (g := cl (pr (full (ns s) f))) (fun j hj => by unfold pc cl; rw [pk_end _ (full_len _ _ HN.out) j hj])
      clear hd hrow hS hz
      go_wp2_with (first
        | (refine wpList_ld0 rfl 23 _ rfl (w.heap.size + 1) rfl _ hr3 20 (by omega) Tryd.underlying23 rfl size23 ?_; clear hr3)
        | (refine wpList_st rfl 23 _ _ rfl w.heap.size rfl (cl (pr (full (ns s) f))) rfl hz3 size23 (fun j => rfl) ?_; intro w4 h4 f4; clear hz3))
      refine bodyPost_ret (results_row rfl _ rfl h4 Tryd.underlying23 rfl size23) rfl ⟨rfl, ?_⟩
      exact st_below hb.out f4

end Go.Proofs.YtmjcikomcnokkaaDoor
