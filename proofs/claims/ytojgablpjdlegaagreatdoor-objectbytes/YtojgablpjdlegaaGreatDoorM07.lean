/- WParse, WPar, ObC, ObD. -/
import Derived.Test.YtojgablpjdlegaaGreatDoorM04
import Derived.Test.YtojgablpjdlegaaGreatDoorM06
import Derived.Laws.EntriesVeiled
/- allSigns, padded, Parse. -/
namespace Go.Proofs.YtojgablpjdlegaaGreatDoor
open Go.RowKit Go.Shelf

theorem mem_drop {p : UInt8 → Bool} {l : List UInt8} {b : UInt8} (h : b ∈ l) (hb : p b = false) : b ∈ l.dropWhile p := by
  induction l with
  | nil => cases h
  | cons a r ih =>
    rw [List.dropWhile_cons]
    by_cases ha : p a = true
    · rw [if_pos ha]
      rcases List.mem_cons.1 h with rfl | h
      · rw [hb] at ha; cases ha
      · exact ih h
    · rw [if_neg ha]; exact h

theorem drop_all {p : UInt8 → Bool} {l : List UInt8} (h : ∀ b ∈ l, p b = true) : l.dropWhile p = [] := by
  induction l with
  | nil => rfl
  | cons a r ih => rw [List.dropWhile_cons, if_pos (h a (by simp)), ih (fun b hb => h b (by simp [hb]))]

/-- The sixteen signs, as a list. -/
abbrev sgl : List UInt8 := [48, 49, 50, 51, 52, 53, 54, 55, 56, 57, 97, 98, 99, 100, 101, 102]

theorem sgs_all : ∀ m : Fin 256, (sgl.contains (UInt8.ofNat m.val) = true) ↔ isS (m.val : Int) := by decide +kernel

theorem sgs_has (b : UInt8) : (sgl.contains b = true) ↔ isS (b.toNat : Int) := by
  have hn := b.toNat_lt
  have h := sgs_all ⟨b.toNat, hn⟩
  simpa using h

theorem trim_nil (s : ByteArray) : (Lib.trimS s.data.toList sgl = []) ↔ ∀ c ∈ ns s, isS c := by
  have hns : (∀ c ∈ ns s, isS c) ↔ ∀ b ∈ s.data.toList, sgl.contains b = true := by
    unfold ns
    constructor
    · intro h b hb
      exact (sgs_has b).2 (h _ (List.mem_map.2 ⟨b, hb, rfl⟩))
    · intro h c hc
      obtain ⟨b, hb, rfl⟩ := List.mem_map.1 hc
      exact (sgs_has b).1 (h b hb)
  rw [hns]
  unfold Lib.trimS Lib.trimLeftS Lib.trimRightS
  constructor
  · intro h b hb
    by_cases hc : sgl.contains b = true
    · exact hc
    · have hc' : sgl.contains b = false := by simpa using hc
      have h1 : b ∈ (s.data.toList.reverse.dropWhile (sgl.contains ·)).reverse := List.mem_reverse.2 (mem_drop (List.mem_reverse.2 hb) hc')
      have h2 := mem_drop h1 hc'
      rw [h] at h2
      cases h2
  · intro h
    rw [drop_all (l := s.data.toList.reverse) (fun b hb => h b (List.mem_reverse.1 hb))]
    rfl

theorem str_eq_nil (l : List UInt8) : (⟨l.toArray⟩ : ByteArray).toList.isEmpty = decide (l = []) := by
  rw [Lib.toList_data]
  cases l <;> simp

set_option maxRecDepth 100000 in
theorem allSigns_any (s : ByteArray) (w : World) (hs : s.size ≤ 9223372036854775807) : Calls Tryz.prog 201 #[.string s] w fun e w' => e = .returned (.bool (decide (∀ c ∈ ns s, isS c))) ∧ Below w.heap.size w w' := by
  have hcon := Any.strings_Trim_laid Tryz.trim (by kernel_rfl) s sgs w hs (by decide) (ascii_of_all (by decide))
  change Calls Tryz.prog 102 _ _ (fun e w' => e = .returned (.string ⟨(Lib.trimS s.data.toList sgl).toArray⟩) ∧ Below w.heap.size w w') at hcon
  have he := str_eq_nil (Lib.trimS s.data.toList sgl)
  rw [show decide (Lib.trimS s.data.toList sgl = []) = decide (∀ c ∈ ns s, isS c) from decide_eq_decide.2 (trim_nil s)] at he
  generalize (⟨(Lib.trimS s.data.toList sgl).toArray⟩ : ByteArray) = r at hcon he
  generalize decide (∀ c ∈ ns s, isS c) = v at he ⊢
  go_enter Tryz.func201, Tryz.ntmps201
  go_wp2_with (go_at_call 102; refine hcon.mono ?_; rintro e w' ⟨rfl, hB⟩)
  go_ret
  exact ⟨rfl, hB⟩

theorem idx_all : ∀ m : Fin 256, isS (m.val : Int) → Lib.indexByte sgl (UInt8.ofNat m.val) = dg (m.val : Int) := by decide +kernel

theorem idx_dg (c : Int) (h : isS c) : Lib.indexByte sgl c.toNat.toUInt8 = dg c := by
  obtain ⟨n, rfl⟩ : ∃ n : Nat, c = n := ⟨c.toNat, by unfold isS at h; omega⟩
  have hn : n < 256 := by unfold isS at h; omega
  exact idx_all ⟨n, hn⟩ h

theorem idx_any (c : Int) (h : isS c) (w : World) : Calls Tryz.prog 211 #[.string sgs, .int .u8 c] w fun e w' => e = .returned (.int .i64 (dg c)) ∧ w' = w := by
  have hcon := Any.strings_IndexByte Tryz.idxb sgs c w
  rw [← idx_dg c h]
  exact hcon

/-- A front, filled up. -/
def full (s : List Int) (f : Int) : List Int := s ++ List.replicate (40 - s.length) f

theorem full_len (s : List Int) (f : Int) (h : s.length ≤ 40) : (full s f).length = 40 := by unfold full; rw [List.length_append, List.length_replicate]; omega

theorem full_in (s : List Int) (f : Int) (k : Nat) (h : k < s.length) : bt (full s f) k = bt s k := by
  unfold bt full
  rw [List.getD, List.getElem?_append_left h]
  rfl

theorem full_out (s : List Int) (f : Int) (k : Nat) (h : s.length ≤ k) (hk : k < 40) : bt (full s f) k = f := by
  unfold bt full
  rw [List.getD, List.getElem?_append_right h, List.getElem?_replicate, if_pos (by omega)]
  rfl

theorem full_isS (s : List Int) (f : Int) (h : ∀ c ∈ s, isS c) (hf : isS f) : ∀ c ∈ full s f, isS c := by
  intro c hc
  unfold full at hc
  rcases List.mem_append.1 hc with hc | hc
  · exact h c hc
  · rw [(List.mem_replicate.1 hc).2]; exact hf

set_option maxRecDepth 100000 in
set_option maxHeartbeats 4000000 in
theorem padded_any (s : ByteArray) (f : Int) (w : World) (hl : s.size ≤ 40) (hs : ∀ c ∈ ns s, isS c) (hf : isS f) : Calls Tryz.prog 202 #[.string s, .int .u8 f] w fun e w' => e = .returned (idv (pr (full (ns s) f))) ∧ Below w.heap.size w w' := by
  obtain ⟨r1, r2, hb⟩ := two_z w 27
  have HB : Hid _ := hb
  clear hb
  have hn : (ns s).length ≤ 40 := by rw [ns_len]; exact hl
  have hd := fun (i : Nat) (hi : i < s.size) W => str_at s i hi W
  have HN : Hid ((ns s).length ≤ 40) := hn
  have hS := (all_isS (full (ns s) f) 40 (full_len _ _ hn)).1 (full_isS _ _ hs hf)
  have HE : Hid ((ns s).length = s.size) := ns_len s
  clear hn hs
  go_enter Tryz.func202, Tryz.ntmps202
  go_wp2_with fail
  generalize hw2 : (w.alloc (Obj.cells zcs 27)).alloc (Obj.cells zcs 27) = w2 at *
  go_loopw [8] (fun i wr => ∃ (k : Nat), k ≤ 40 ∧ i = .int .i64 k ∧ Hid (wr.rowIs (w.heap.size + 1) 27 20 (pc (full (ns s) f) k)) ∧ Hid (wr.rowIs w.heap.size 27 20 (cl z20)) ∧ Hid (Below w.heap.size w wr)) (fun i _ => 40 - (intOf i).toNat)
  case atStart => exact ⟨0, by omega, rfl, (r2.congr (fun j _ => by rw [zc, pc, pk_zero])), r1, HB⟩
  case round =>
    obtain ⟨k, hk, rfl, hrow, hz, hb⟩ := hrel
    clear r1 r2 HB hw2
    by_cases hlt : k < 40
    · have hdg := fun W => idx_any (bt (full (ns s) f) k) (hS k hlt) W
      obtain ⟨p0, p1⟩ := pk_small (full (ns s) f) k (fun i hi => hS i (by omega))
      have e1 := pk_step (full (ns s) f) k
      have eo := pk_other (full (ns s) f) k
      have wq : Int.tdiv (k : Int) 2 = ((k / 2 : Nat) : Int) := by rw [Int.tdiv_eq_ediv_of_nonneg (by omega)]; omega
      have hq : k / 2 < 20 := by omega
      generalize k / 2 = q at *
      have hq2 : (q : Int) < 20 := by omega
      have hq0 : (0 : Int) ≤ (q : Int) := by omega
      have hqw : IntKind.i64.wrap (q : Int) = q := wraps_i64 _ (by omega) (by omega)
      have hck : wr.cell? ⟨w.heap.size + 1, q, none⟩ = some (.int .u8 (pk (full (ns s) f) k q)) := hrow.out.cell (i := q) hq
      have hfz := hrow.out.frozen q
      have E1 : Hid (pk (full (ns s) f) (k + 1) q = 16 * pk (full (ns s) f) k q + dg (bt (full (ns s) f) k)) := e1
      have EO : Hid (∀ j, j ≠ q → pk (full (ns s) f) (k + 1) j = pk (full (ns s) f) k j) := eo
      obtain ⟨d0, d1⟩ := dg_b _ (hS k hlt)
      have ho := u8_or (pk (full (ns s) f) k q) (dg (bt (full (ns s) f) k)) p0 p1 d0 d1
      have w1 : IntKind.u8.wrap (dg (bt (full (ns s) f) k)) = dg (bt (full (ns s) f) k) := wraps_u8 _ (by omega) (by omega)
      have w2 : IntKind.u8.wrap (pk (full (ns s) f) k q * 16) = pk (full (ns s) f) k q * 16 := wraps_u8 _ (by omega) (by omega)
      have fin : Hid (∀ v d, pk (full (ns s) f) k q = v → dg (bt (full (ns s) f) k) = d → (wr.setCell ⟨w.heap.size + 1, q, none⟩ (.int .u8 (16 * v + d))).rowIs (w.heap.size + 1) 27 20 (pc (full (ns s) f) (k + 1)) ∧ (wr.setCell ⟨w.heap.size + 1, q, none⟩ (.int .u8 (16 * v + d))).rowIs w.heap.size 27 20 (cl z20) ∧ Below w.heap.size w (wr.setCell ⟨w.heap.size + 1, q, none⟩ (.int .u8 (16 * v + d)))) := by
        intro v d hv hdd
        have f3 := set_fr wr (w.heap.size + 1) q (.int .u8 (16 * v + d))
        refine ⟨set_row hrow.out q _ (fun j _ => ?_), rowIs_fr hz.out f3 (by omega), hb.out.trans (f3.below _ hb.out.size (fun i hi e => by omega))⟩
        unfold pc
        by_cases hj : j = q
        · rw [if_pos hj, hj, E1.out, hv, hdd]
        · rw [if_neg hj, EO.out j hj]
      obtain ⟨v, hv⟩ : ∃ v, pk (full (ns s) f) k q = v := ⟨_, rfl⟩
      obtain ⟨d, hdd⟩ : ∃ d, dg (bt (full (ns s) f) k) = d := ⟨_, rfl⟩
      have HF : Hid _ := fin.out v d hv hdd
      rw [hv] at hck p0 p1 ho w2
      rw [hdd] at hdg d0 d1 ho w1
      clear hS e1 eo E1 EO fin hv hdd hrow hz hb
      by_cases hin : k < s.size
      · have hix := hd k hin
        rw [← full_in (ns s) f k (by rw [HE.out]; exact hin)] at hix
        clear hd
        generalize bt (full (ns s) f) k = c at *
        go_wp2_with fail
        go_region_with (first | (go_at_call 211; refine (hdg _).mono ?_; rintro e w3 ⟨rfl, rfl⟩))
        all_goals
          clear hck hfz hdg
          go_wp2_with fail
          go_roundw
          case rel => exact ⟨k + 1, by omega, by go_num, HF.out.1, HF.out.2.1, ⟨HF.out.2.2.os, HF.out.2.2.tape, HF.out.2.2.output, HF.out.2.2.size, HF.out.2.2.block⟩⟩
          case measure => simp [intOf]; omega
      · rw [full_out (ns s) f k (by rw [HE.out]; omega) hlt] at hdg
        clear hd
        go_wp2_with fail
        go_region_with (first | (go_at_call 211; refine (hdg _).mono ?_; rintro e w3 ⟨rfl, rfl⟩))
        all_goals
          clear hck hfz hdg
          go_wp2_with fail
          go_roundw
          case rel => exact ⟨k + 1, by omega, by go_num, HF.out.1, HF.out.2.1, ⟨HF.out.2.2.os, HF.out.2.2.tape, HF.out.2.2.output, HF.out.2.2.size, HF.out.2.2.block⟩⟩
          case measure => simp [intOf]; omega
    · obtain rfl : k = 40 := by omega
      have hz3 := hz.out
      have hr3 := hrow.out.congr (g := cl (pr (full (ns s) f))) (fun j hj => by unfold pc cl; rw [pk_end _ (full_len _ _ HN.out) j hj])
      clear hd hrow hS hz
      go_wp2_with (first
        | (refine wpList_ld0 rfl 27 _ rfl (w.heap.size + 1) rfl _ hr3 20 (by omega) Tryz.underlying27 rfl size23 ?_; clear hr3)
        | (refine wpList_st rfl 27 _ _ rfl w.heap.size rfl (cl (pr (full (ns s) f))) rfl hz3 size23 (fun j => rfl) ?_; intro w4 h4 f4; clear hz3))
      refine bodyPost_ret (results_row rfl _ rfl h4 Tryz.underlying27 rfl size23) rfl ⟨rfl, ?_⟩
      exact st_below hb.out f4

end Go.Proofs.YtojgablpjdlegaaGreatDoor

/- Parse. -/
namespace Go.Proofs.YtojgablpjdlegaaGreatDoor
open Go.RowKit Go.Shelf

theorem full_self (s : List Int) (f : Int) (h : s.length = 40) : full s f = s := by unfold full; rw [h]; simp

set_option maxRecDepth 100000 in
set_option maxHeartbeats 4000000 in
theorem parse_any (s : ByteArray) (w : World) (hs : s.size ≤ 9223372036854775807) : Calls Tryz.prog 176 #[.string s] w fun e w' => e = .returned (.tuple #[idv (par (ns s)).1, .int .i64 (par (ns s)).2]) ∧ Below w.heap.size w w' := by
  have r1 := z_row w 27
  have HB : Hid (Below w.heap.size w (w.alloc (Obj.cells zcs 27))) := new_below _ _
  by_cases hl : s.size = 40
  · have has := allSigns_any s (w.alloc (Obj.cells zcs 27)) hs
    by_cases hS : ∀ c ∈ ns s, isS c
    · have e : par (ns s) = (pr (ns s), 0) := if_pos ⟨by rw [ns_len]; exact hl, hS⟩
      have hp := fun W => padded_any s 48 W (by omega) hS (by unfold isS; omega)
      rw [full_self _ _ (by rw [ns_len]; exact hl)] at hp
      have hi0 := fun W => sgs_at .i64 0 (by omega) (by omega) W
      rw [show sg 0 = 48 from rfl] at hi0
      rw [decide_eq_true hS] at has
      rw [e]
      clear e hS
      go_enter Tryz.func176, Tryz.ntmps176
      go_wp2_with (first
        | (go_at_call 201; refine has.mono ?_; rintro e w1 ⟨rfl, b1⟩; have q1 := rowIs_fr r1 (Fr.ofBelow (P := fun _ => False) b1) (fun h => h); have B1 : Hid (Below w.heap.size w w1) := HB.out.trans (b1.mono (by simp)); clear b1 r1)
        | (go_at_call 202; refine (hp _).mono ?_; rintro e w2 ⟨rfl, b2⟩; have q2 := rowIs_fr q1 (Fr.ofBelow (P := fun _ => False) b2) (fun h => h); have B2 : Hid (Below w.heap.size w w2) := B1.out.trans (b2.mono B1.out.size); clear b2 q1)
        | (refine wpList_st rfl 27 _ _ rfl w.heap.size rfl (cl (pr (ns s))) rfl q2 size23 (fun j => rfl) ?_; intro w4 h4 f4; clear q2))
      refine bodyPost_ret (results_two rfl _ rfl h4 Tryz.underlying27 rfl size23) rfl ⟨rfl, ?_⟩
      exact st_below B2.out f4
    · have e : par (ns s) = (z20, 2) := if_neg (fun h => hS h.2)
      rw [decide_eq_false hS] at has
      rw [e]
      clear e hS
      go_enter Tryz.func176, Tryz.ntmps176
      go_wp2_with (first
        | (go_at_call 201; refine has.mono ?_; rintro e w1 ⟨rfl, b1⟩; have q1 := rowIs_fr r1 (Fr.ofBelow (P := fun _ => False) b1) (fun h => h); have B1 : Hid (Below w.heap.size w w1) := HB.out.trans (b1.mono (by simp)); clear b1 r1)
        | (refine wpList_st rfl 27 _ _ rfl w.heap.size rfl (cl z20) rfl q1 size23 (fun j => rfl) ?_; intro w4 h4 f4; clear q1))
      refine bodyPost_ret (results_two rfl _ rfl h4 Tryz.underlying27 rfl size23) rfl ⟨rfl, ?_⟩
      exact st_below B1.out f4
  · have e : par (ns s) = (z20, 2) := if_neg (fun h => hl (by rw [← ns_len]; exact h.1))
    rw [e]
    clear e
    go_enter Tryz.func176, Tryz.ntmps176
    go_wp2_with (first
      | (refine wpList_st rfl 27 _ _ rfl w.heap.size rfl (cl z20) rfl r1 size23 (fun j => rfl) ?_; intro w4 h4 f4; clear r1))
    refine bodyPost_ret (results_two rfl _ rfl h4 Tryz.underlying27 rfl size23) rfl ⟨rfl, ?_⟩
    exact st_below HB.out f4

end Go.Proofs.YtojgablpjdlegaaGreatDoor

/- The object's reader: lines, names, the message. -/
namespace Go.Proofs.YtojgablpjdlegaaGreatDoor
open Go.RowKit

theorem trimP_len (l k : List UInt8) : (Lib.trimPrefix l k).length ≤ l.length := by
  unfold Lib.trimPrefix
  split
  · simp
  · exact Nat.le_refl _

set_option maxRecDepth 100000 in
theorem line1_any (word l : List UInt8) (a b p : Addr) (w : World) (hg : Gs w) (ha : w.cell? a = some (sv word)) (hb : w.cell? b = some (.func (.func 203) #[] #[.pointer (some p)])) (hp : w.cell? p = some (sv [10])) (hs : l.length ≤ 1000000) (hw : word.length ≤ 1000) :
    Calls Tryz.prog 179 #[sv l, .pointer (some a), .pointer (some b)] w fun e w' => e = .returned (.tuple #[sv (lnF word l).1, sv (lnF word l).2.1, .bool (lnF word l).2.2]) ∧ Below w.heap.size w w' := by
  have hcp := cutp_any l (word ++ [32]) w
  have hu := until1_any (Lib.trimPrefix l (word ++ [32])) [10] p w hg hp (Nat.le_trans (trimP_len _ _) hs)
  have q : (9223372036854775807 < word.length + 1) = False := by simp; omega
  have qc : (⟨word.toArray⟩ ++ ⟨#[32]⟩ : ByteArray) = ⟨(word ++ [32]).toArray⟩ := cat_sv word [32]
  unfold lnF
  generalize Lib.trimPrefix l (word ++ [32]) = t at *
  generalize word ++ [32] = wd at *
  clear hg hs hw hp
  cases hh : Lib.hasPrefix l wd with
  | false =>
    rw [hh] at hcp
    clear hu hh
    go_enter Tryz.func179, Tryz.ntmps179
    go_wp2_with (go_at_call 180; refine hcp.mono ?_; rintro e w1 ⟨rfl, hw1⟩; subst w1)
    go_ret3
    exact ⟨rfl, Below.refl _ _⟩
  | true =>
    rw [hh] at hcp
    rw [if_pos rfl]
    clear hh
    generalize (Lib.cut t [10]).1 = x1 at *
    generalize (Lib.cut t [10]).2.1 = x2 at *
    generalize (Lib.cut t [10]).2.2 = x3 at *
    go_enter Tryz.func179, Tryz.ntmps179
    go_wp2_with fail
    refine hcp.mono ?_
    rintro e w1 ⟨rfl, hw1⟩
    subst w1
    clear hcp
    go_wp2_with fail
    refine hu.mono ?_
    rintro e w1 ⟨rfl, b1⟩
    clear hu
    go_wp2
    go_ret3
    exact ⟨rfl, b1⟩

set_option maxRecDepth 100000 in
theorem line_any (word : List UInt8) (w : World) : Calls Tryz.prog 152 #[sv word] w fun e w' => ∃ a b p, e = .returned (.func (.func 179) #[] #[.pointer (some a), .pointer (some b)]) ∧ w'.cell? a = some (sv word) ∧ w'.cell? b = some (.func (.func 203) #[] #[.pointer (some p)]) ∧ w'.cell? p = some (sv [10]) ∧ Below w.heap.size w w' := by
  have hu := until_any [10] (w.alloc (.cells #[sv word] 9))
  go_enter Tryz.func152, Tryz.ntmps152
  go_wp2_with fail
  refine hu.mono ?_
  rintro e w1 ⟨rfl, hw1⟩
  subst hw1
  clear hu
  go_wp2
  go_ret
  have b1 : Below w.heap.size w (w.alloc (.cells #[sv word] 9)) := new_below _ _
  have b2 : Below w.heap.size w ((w.alloc (.cells #[sv word] 9)).alloc (.cells #[sv [10]] 9)) := b1.alloc b1.size _
  refine ⟨⟨w.heap.size, 0, none⟩, ⟨w.heap.size + 1 + 1, 0, none⟩, ⟨w.heap.size + 1, 0, none⟩, rfl, ?_, ?_, ?_, b2.alloc b2.size _⟩
  · simp [go_sem]
  · simp [go_sem]
  · simp [go_sem]

theorem ext_front (l : List UInt8) (n : Nat) : (⟨l.toArray⟩ : ByteArray).extract 0 n = ⟨(l.take n).toArray⟩ := by
  apply ByteArray.ext
  simp [ByteArray.data_extract]

theorem ext_back (l : List UInt8) (n : Nat) : (⟨l.toArray⟩ : ByteArray).extract n l.length = ⟨(l.drop n).toArray⟩ := by
  apply ByteArray.ext
  simp [ByteArray.data_extract]
  exact List.take_of_length_le (by simp)

theorem str_front (l : List UInt8) (n : Nat) (h : n ≤ l.length) (w : World) : (Instr.slice 9 (sv l) none (some (.int .i64 n)) none).run Tryz.prog w = .ok (sv (l.take n)) w := by
  simp [go_sem]
  rw [if_pos h, ext_front]

theorem str_back (l : List UInt8) (n : Nat) (h : n ≤ l.length) (w : World) : (Instr.slice 9 (sv l) (some (.int .i64 n)) none none).run Tryz.prog w = .ok (sv (l.drop n)) w := by
  simp [go_sem]
  rw [if_pos h, ext_back]

set_option maxRecDepth 100000 in
theorem sized_any (n : Nat) (w : World) : Calls Tryz.prog 181 #[.int .i64 n] w fun e w' => e = .returned (.func (.func 205) #[] #[.pointer (some ⟨w.heap.size, 0, none⟩)]) ∧ w' = w.alloc (.cells #[.int .i64 n] 3) := by
  go_enter Tryz.func181, Tryz.ntmps181
  go_wp2
  go_ret
  exact ⟨rfl, rfl⟩

set_option maxRecDepth 100000 in
theorem sized1_any (n : Nat) (l : List UInt8) (a : Addr) (w : World) (ha : w.cell? a = some (.int .i64 n)) :
    Calls Tryz.prog 205 #[sv l, .pointer (some a)] w fun e w' => e = .returned (.tuple #[sv (szd n l).1, sv (szd n l).2.1, .bool (szd n l).2.2]) ∧ Below w.heap.size w w' := by
  unfold szd
  by_cases h : l.length < n
  · have d1 : decide ((l.length : Int) < n) = true := by simp; omega
    have d2 : decide (l.length < n) = true := by simp; omega
    rw [if_pos h]
    clear h
    go_enter Tryz.func205, Tryz.ntmps205
    go_wp2
    go_ret3
    exact ⟨rfl, Below.refl _ _⟩
  · have d1 : decide ((l.length : Int) < n) = false := by simp; omega
    have d2 : decide (l.length < n) = false := by simp; omega
    have f1 := str_front l n (by omega)
    have f2 := str_back l n (by omega)
    rw [if_neg h]
    clear h
    go_enter Tryz.func205, Tryz.ntmps205
    go_wp2_with fail
    go_region
    go_wp2
    go_ret3
    exact ⟨rfl, (Below.refl _ _).drew⟩

/-- A cutter's word, kept. -/
theorem cell_keep {w w' : World} {a : Addr} {v : Value} (h : w.cell? a = some v) (hb : Below w.heap.size w w') : w'.cell? a = some v := by
  rw [hb.cell (World.block_lt_of_cell? w _ h)]
  exact h

/-- A line's text, and what is left. -/
def lin (word l : List UInt8) : List UInt8 × List UInt8 := cu (lnF word l)

set_option maxRecDepth 100000 in
/-- A line cut off. -/
theorem cutLine (R : Nat) (word l : List UInt8) (e : Int) (a b p : Addr) (w : World) (hg : Gs w) (h : w.rowIs R 150 2 (rf l e)) (ha : w.cell? a = some (sv word)) (hb : w.cell? b = some (.func (.func 203) #[] #[.pointer (some p)])) (hp : w.cell? p = some (sv [10])) (hs : l.length ≤ 1000000) (hw : word.length ≤ 1000) :
    Calls Tryz.prog 151 #[.pointer (some ⟨R, 0, none⟩), .func (.func 179) #[] #[.pointer (some a), .pointer (some b)]] w fun ex w' => ex = .returned (sv (lin word l).1) ∧ w'.rowIs R 150 2 (rf (lin word l).2 (nd (lnF word l).2.2 e 2)) ∧ Fr (fun i => i = R) w w' :=
  cutL_any R l e (lnF word l) _ _ w h (line1_any word l a b p w hg ha hb hp hs hw)

/-- What a line's name says, and the fault behind it. -/
def idE (word l : List UInt8) (e : Int) : Int := nd (decide ((par (ns ⟨(lin word l).1.toArray⟩)).2 = 0)) (nd (lnF word l).2.2 e 2) 2

theorem cut_len1 (s k : List UInt8) : (Lib.cut s k).1.length ≤ s.length ∧ (Lib.cut s k).2.1.length ≤ s.length := by
  unfold Lib.cut
  split
  · constructor
    · simp; omega
    · simp
  · exact ⟨Nat.le_refl _, Nat.zero_le _⟩

theorem lnF_len (word l : List UInt8) : (lnF word l).1.length ≤ l.length ∧ (lnF word l).2.1.length ≤ l.length := by
  unfold lnF
  split
  · have h1 := cut_len1 (Lib.trimPrefix l (word ++ [32])) [10]
    have h2 := trimP_len l (word ++ [32])
    exact ⟨by omega, by omega⟩
  · exact ⟨Nat.zero_le _, Nat.zero_le _⟩

theorem cu_len (x : List UInt8 × List UInt8 × Bool) (n : Nat) (h : x.1.length ≤ n ∧ x.2.1.length ≤ n) : (cu x).1.length ≤ n ∧ (cu x).2.length ≤ n := by
  unfold cu
  split
  · exact h
  · exact ⟨Nat.zero_le _, Nat.zero_le _⟩

theorem lin_len (word l : List UInt8) : (lin word l).1.length ≤ l.length ∧ (lin word l).2.length ≤ l.length := cu_len _ _ (lnF_len word l)

end Go.Proofs.YtojgablpjdlegaaGreatDoor

/- The object's reader: a name's line, the message. -/
namespace Go.Proofs.YtojgablpjdlegaaGreatDoor
open Go.RowKit

theorem Gs.fr {w w' : World} {R : Nat} (h : Gs w) (hf : Fr (fun i => i = R) w w') (hR : 9 < R) : Gs w' := h.below (hf.below 10 h.big (fun i hi e => by omega))

theorem cl_one (x : List Int) (j : Nat) : (cl x j).oneCell' = true := rfl

set_option maxRecDepth 100000 in
set_option maxHeartbeats 2000000 in
theorem id_any (R : Nat) (word l : List UInt8) (e : Int) (w : World) (hg : Gs w) (h : w.rowIs R 150 2 (rf l e)) (hs : l.length ≤ 1000000) (hw : word.length ≤ 1000) :
    Calls Tryz.prog 149 #[.pointer (some ⟨R, 0, none⟩), sv word] w fun ex w' => ex = .returned (idv (par (ns ⟨(lin word l).1.toArray⟩)).1) ∧ w'.rowIs R 150 2 (rf (lin word l).2 (idE word l e)) ∧ Fr (fun i => i = R) w w' := by
  obtain ⟨pc, hpc⟩ : ∃ x, x = (lin word l).1 := ⟨_, rfl⟩
  obtain ⟨lf, hlf⟩ : ∃ x, x = (lin word l).2 := ⟨_, rfl⟩
  obtain ⟨e1, he1⟩ : ∃ x, x = nd (lnF word l).2.2 e 2 := ⟨_, rfl⟩
  obtain ⟨x, hx⟩ : ∃ x, x = (par (ns ⟨pc.toArray⟩)).1 := ⟨_, rfl⟩
  obtain ⟨k, hk⟩ : ∃ k, k = (par (ns ⟨pc.toArray⟩)).2 := ⟨_, rfl⟩
  have HPC : Hid (pc = (lin word l).1 ∧ lf = (lin word l).2 ∧ e1 = nd (lnF word l).2.2 e 2) := ⟨hpc, hlf, he1⟩
  have HX : Hid (x = (par (ns ⟨pc.toArray⟩)).1 ∧ k = (par (ns ⟨pc.toArray⟩)).2) := ⟨hx, hk⟩
  have HE : Hid (idE word l e = nd (decide (k = 0)) e1 2) := by rw [hk, hpc, he1]; rfl
  have hpl : pc.length ≤ 1000000 := by rw [hpc]; exact Nat.le_trans (lin_len word l).1 hs
  rw [← hpc, ← hlf, ← hx]
  clear hpc hlf he1 hx hk
  have z0 := z_row w 27
  have b0 : Below w.heap.size w (w.alloc (Obj.cells zcs 27)) := new_below _ _
  have hl := line_any word (w.alloc (Obj.cells zcs 27))
  have HG : Hid (Gs w) := hg
  have H : Hid (w.rowIs R 150 2 (rf l e)) := h
  have hRl : R < w.heap.size := h.lt
  have HZ : Hid ((w.alloc (Obj.cells zcs 27)).rowIs w.heap.size 27 20 (cl z20)) := z0
  have HB0 : Hid (Below w.heap.size w (w.alloc (Obj.cells zcs 27))) := b0
  clear z0 b0 hg h
  go_enter Tryz.func149, Tryz.ntmps149
  go_wp2_with fail
  refine hl.mono ?_
  rintro ex w1 ⟨a, b, p, rfl, ha, hb, hp, b1⟩
  have B1 : Below w.heap.size w w1 := HB0.out.trans (b1.mono HB0.out.size)
  have g1 := HG.out.keep B1
  have r1 : w1.rowIs R 150 2 (rf l e) := rowIs_fr (P := fun _ => False) H.out (Fr.ofBelow B1) (fun h => h)
  have HZ1 : Hid (w1.rowIs w.heap.size 27 20 (cl z20)) := rowIs_fr (P := fun _ => False) HZ.out (Fr.ofBelow b1) (fun h => h)
  have hcl := cutLine R word l e a b p w1 g1 r1 ha hb hp hs hw
  have HB1 : Hid (Below w.heap.size w w1) := B1
  clear hl ha hb hp b1 B1 g1 r1 HZ
  rw [← HPC.out.1, ← HPC.out.2.1, ← HPC.out.2.2] at hcl
  go_wp2_with fail
  refine hcl.mono ?_
  rintro ex w2 ⟨rfl, r2, f2⟩
  have HF2 : Hid (Fr (fun i => i = R) w w2) := (Fr.ofBelow HB1.out).trans f2 (fun _ _ h => h)
  have HZ2 : Hid (w2.rowIs w.heap.size 27 20 (cl z20)) := rowIs_fr HZ1.out f2 (by omega)
  have hpa := parse_any ⟨pc.toArray⟩ w2 (by rw [size_sv]; omega)
  have HR2 : Hid (w2.rowIs R 150 2 (rf lf e1)) := r2
  clear hcl r2 f2 HZ1 HB1
  rw [← HX.out.1, ← HX.out.2] at hpa
  go_wp2_with fail
  refine hpa.mono ?_
  rintro ex w3 ⟨rfl, b3⟩
  have f3 : Fr (fun i => i = R) w2 w3 := Fr.ofBelow b3
  have HF3 : Hid (Fr (fun i => i = R) w w3) := HF2.out.trans f3 (fun _ _ h => h)
  have HZ3 : Hid (w3.rowIs w.heap.size 27 20 (cl z20)) := rowIs_fr HZ2.out f3 (by omega)
  have HR3 : Hid (w3.rowIs R 150 2 (rf lf e1)) := rowIs_fr (P := fun _ => False) HR2.out (Fr.ofBelow b3) (fun h => h)
  have z3 := z_row w3 27
  have hs3 : w.heap.size < w3.heap.size := HZ3.out.lt
  have hR3 : R < w3.heap.size := HR3.out.lt
  clear hpa b3 f3 HF2 HZ2 HR2
  go_wp2_with ((refine wpList_st rfl 27 _ _ rfl w3.heap.size rfl (cl x) rfl z3 (by kernel_rfl) (cl_one x) ?_; intro w4 r4 f4))
  have A4 : Fr (fun i => i = w3.heap.size) w3 w4 := (Fr.ofBelow (new_below w3 _)).trans f4 (fun _ _ h => h)
  have HF4 : Hid (Fr (fun i => i = R) w w4) := HF3.out.trans A4 (fun i hi e => by have := HF3.out.size; omega)
  have HZ4 : Hid (w4.rowIs w.heap.size 27 20 (cl z20)) := rowIs_fr HZ3.out A4 (by omega)
  have hnd := need_any R lf e1 2 (decide (k = 0)) w4 (rowIs_fr HR3.out A4 (by omega))
  have HX4 : Hid (w4.rowIs w3.heap.size 27 20 (cl x)) := r4
  obtain ⟨X, hX⟩ : ∃ X, X = w3.heap.size := ⟨_, rfl⟩
  rw [← hX] at HX4 ⊢
  have HXR : Hid (X ≠ R ∧ X ≠ w.heap.size) := by show _ ∧ _; omega
  have dk : (k == 0) = decide (k = 0) := by by_cases h : k = 0 <;> simp [h]
  clear r4 f4 A4 HF3 HZ3 HR3 z3 hX hs3 hR3
  go_wp2_with fail
  refine hnd.mono ?_
  rintro ex w5 ⟨rfl, r5, f5⟩
  have HF5 : Hid (Fr (fun i => i = R) w w5) := HF4.out.trans f5 (fun _ _ h => h)
  have z5 : w5.rowIs w.heap.size 27 20 (cl z20) := rowIs_fr HZ4.out f5 (by omega)
  have x5 : w5.rowIs X 27 20 (cl x) := rowIs_fr HX4.out f5 HXR.out.1
  have HR5 : Hid (w5.rowIs R 150 2 (rf lf (nd (decide (k = 0)) e1 2))) := r5
  clear hnd r5 f5 HF4 HZ4 HX4
  go_wp2_with (first
    | (refine wpList_st rfl 27 _ _ rfl w.heap.size rfl (cl x) rfl z5 (by kernel_rfl) (cl_one x) ?_; intro w6 r6 f6)
    | (refine wpList_ld0 rfl 27 _ rfl X rfl _ x5 20 (Nat.le_refl _) Tryz.underlying27 rfl (by kernel_rfl) ?_))
  refine bodyPost_ret (results_row (fn := Tryz.f149) (p := 4) (ty := 27) (by kernel_rfl) _ (by rfl) r6 Tryz.underlying27 rfl (by kernel_rfl)) rfl ⟨rfl, ?_, HF5.out.trans f6 (fun i hi e => by omega)⟩
  rw [HE.out]
  exact rowIs_fr HR5.out f6 (by omega)

/-- What is left behind the empty line, and the fault. -/
def msL (l : List UInt8) : List UInt8 := (cu (Lib.cut l [10])).2
def msE (l : List UInt8) (e : Int) : Int := nd (cu (Lib.cut l [10])).1.isEmpty (nd (Lib.cut l [10]).2.2 e 2) 2

theorem msL_len (l : List UInt8) : (msL l).length ≤ l.length := (cu_len _ _ (cut_len1 l [10])).2

theorem szd_all (l : List UInt8) : szd l.length l = (l, [], true) := by
  unfold szd
  rw [if_neg (by omega)]
  simp

set_option maxRecDepth 100000 in
set_option maxHeartbeats 2000000 in
theorem message_any (R : Nat) (l : List UInt8) (e : Int) (w : World) (hg : Gs w) (h : w.rowIs R 150 2 (rf l e)) (hs : l.length ≤ 1000000) :
    Calls Tryz.prog 153 #[.pointer (some ⟨R, 0, none⟩)] w fun ex w' => ex = .returned (sv (msL l)) ∧ w'.rowIs R 150 2 (rf [] (msE l e)) ∧ Fr (fun i => i = R) w w' := by
  obtain ⟨pc, hpc⟩ : ∃ x, x = (cu (Lib.cut l [10])).1 := ⟨_, rfl⟩
  obtain ⟨lf, hlf⟩ : ∃ x, x = msL l := ⟨_, rfl⟩
  obtain ⟨e1, he1⟩ : ∃ x, x = nd (Lib.cut l [10]).2.2 e 2 := ⟨_, rfl⟩
  obtain ⟨e2, he2⟩ : ∃ x, x = msE l e := ⟨_, rfl⟩
  have HPC : Hid (pc = (cu (Lib.cut l [10])).1 ∧ lf = (cu (Lib.cut l [10])).2 ∧ e1 = nd (Lib.cut l [10]).2.2 e 2) := ⟨hpc, hlf, he1⟩
  have HE : Hid (e2 = nd pc.isEmpty e1 2) := by rw [he2, hpc, he1]; rfl
  have hlb : lf.length ≤ 1000000 := by rw [hlf]; exact Nat.le_trans (msL_len l) hs
  rw [← hlf, ← he2]
  obtain ⟨d, hdd⟩ : ∃ d, d = pc.isEmpty := ⟨_, rfl⟩
  have hd : pc.isEmpty = d := hdd.symm
  rw [← hdd] at HE
  have hu := until_any [10] w
  have HG : Hid (Gs w) := hg
  have H : Hid (w.rowIs R 150 2 (rf l e)) := h
  have HB0 : Hid (Below w.heap.size w (w.alloc (.cells #[sv [10]] 9))) := new_below _ _
  have HC0 : Hid ((w.alloc (.cells #[sv [10]] 9)).cell? ⟨w.heap.size, 0, none⟩ = some (sv [10])) := by show _ = _; simp [go_sem]
  clear hpc hlf he1 he2 hdd hg h
  go_enter Tryz.func153, Tryz.ntmps153
  go_wp2_with fail
  refine hu.mono ?_
  rintro ex w1 ⟨rfl, hw1⟩
  have g1 : Gs w1 := by rw [hw1]; exact HG.out.keep HB0.out
  have r1 : w1.rowIs R 150 2 (rf l e) := by rw [hw1]; exact rowIs_fr (P := fun _ => False) H.out (Fr.ofBelow HB0.out) (fun h => h)
  have hc1 := cutU_any R l e (Lib.cut l [10]) (.pointer (some ⟨w.heap.size, 0, none⟩)) w1 r1 (until1_any l [10] _ w1 g1 (by rw [hw1]; exact HC0.out) hs)
  rw [← HPC.out.1, ← HPC.out.2.1, ← HPC.out.2.2] at hc1
  have HF1 : Hid (Fr (fun i => i = R) w w1) := by rw [hw1]; exact Fr.ofBelow HB0.out
  clear hu g1 r1 hw1 HC0 HB0
  go_wp2_with fail
  refine hc1.mono ?_
  rintro ex w2 ⟨rfl, r2, f2⟩
  have HF2 : Hid (Fr (fun i => i = R) w w2) := HF1.out.trans f2 (fun _ _ h => h)
  have hn := need_any R lf e1 2 d w2 r2
  clear hc1 r2 f2 HF1
  go_wp2_with fail
  refine hn.mono ?_
  rintro ex w3 ⟨rfl, r3, f3⟩
  rw [← HE.out] at r3
  have HF3 : Hid (Fr (fun i => i = R) w w3) := HF2.out.trans f3 (fun _ _ h => h)
  have c3 : w3.cell? ⟨R, 0, none⟩ = some (sv lf) := r3.cell (i := 0) (by omega)
  have H3 : Hid (w3.rowIs R 150 2 (rf lf e2)) := r3
  have hz := sized_any lf.length w3
  clear hn r3 f3 HF2
  go_wp2_with fail
  refine hz.mono ?_
  rintro ex w4 ⟨rfl, hw4⟩
  have b4 : Below w3.heap.size w3 w4 := by rw [hw4]; exact new_below _ _
  have r4 : w4.rowIs R 150 2 (rf lf e2) := rowIs_fr (P := fun _ => False) H3.out (Fr.ofBelow b4) (fun h => h)
  have hc4 := cutS_any R lf e2 (szd lf.length lf) (.pointer (some ⟨w3.heap.size, 0, none⟩)) w4 r4 (sized1_any lf.length lf _ w4 (by rw [hw4]; simp [go_sem]))
  rw [szd_all] at hc4
  have HF4 : Hid (Fr (fun i => i = R) w w4) := HF3.out.trans (Fr.ofBelow b4) (fun _ _ h => h)
  clear hz hw4 b4 r4 H3 HF3 c3
  go_wp2_with fail
  refine hc4.mono ?_
  rintro ex w5 ⟨rfl, r5, f5⟩
  have H5 : Hid (w5.rowIs R 150 2 (rf [] e2)) := r5
  have HF5 : Hid (Fr (fun i => i = R) w w5) := HF4.out.trans f5 (fun _ _ h => h)
  clear hc4 r5 f5 HF4
  go_wp2
  go_ret
  exact ⟨rfl, H5.out, HF5.out⟩

end Go.Proofs.YtojgablpjdlegaaGreatDoor
