/- ObX, ObY, ObZ, LBlobs, LBlobt, ObW, Wrap. -/
import Derived.Test.YtojgablpjdlegaaGreatDoorM19
import Derived.Test.YtojgablpjdlegaaGreatDoorRows
import Derived.LaidMore
import Derived.LaidSub
import Derived.OpenShut
import Derived.Shelf.Vars
import Derived.HandedShaped
/- A blob: parsed, its edges, its parents, its check; what is too long. -/
namespace Go.Proofs.YtojgablpjdlegaaGreatDoor
open Go.RowKit Go.Shelf

theorem parse_blob (ao : Option Addr) (n c : Nat) (xs : List Int) (w : World) (hg : Gs w) (hr : Rd w ao n c xs) (hn : n ≤ 16384) :
    Calls Tryz.prog 56 #[.int .i64 3, .slice ao n c] w fun ex w' => ex = .returned (.tuple #[row ps0 50, .int .i64 0]) ∧ Below w.heap.size w w' := by
  refine (parse_3 ao n c xs w hg hr hn (fun _ => ps0) (tb xs) (fun _ _ => True) ?_ ?_).mono ?_
  · intro R W hgW hR hrW hbW hs
    refine (blob_any _ W).mono ?_
    rintro e w' ⟨rfl, hb⟩
    exact ⟨nlv, rfl, ps0_one, rowIs_fr (P := fun _ => False) hrW (Fr.ofBelow hb) (fun h => h), Fr.ofBelow hb, trivial⟩
  · exact fun _ _ _ _ _ => trivial
  · rintro e w' ⟨v, rfl, _, hb⟩
    exact ⟨rfl, hb⟩

set_option maxRecDepth 100000 in
set_option maxHeartbeats 2000000 in
theorem edges_blob (ao : Option Addr) (n c : Nat) (xs : List Int) (w : World) (hg : Gs w) (hr : Rd w ao n c xs) (hn : n ≤ 16384) :
    Calls Tryz.prog 30 #[.int .i64 3, .slice ao n c] w fun ex w' => ex = .returned (.tuple #[nlv, .int .i64 0]) ∧ Below w.heap.size w w' := by
  have hz := zero107
  have hpa := parse_blob ao n c xs w hg hr hn
  clear hg hr hn
  go_enter Tryz.func30, Tryz.ntmps30
  go_wp2_with fail
  refine hpa.mono ?_
  rintro ex w1 ⟨rfl, b1⟩
  have z1 := rowIs_vals w1 ps0 50 107
  have HB1 : Hid (Below w.heap.size w w1) := b1
  clear hpa b1
  go_wp2_with ((refine wpList_st rfl 107 _ _ rfl w1.heap.size rfl ps0 rfl z1 (by kernel_rfl) ps0_one ?_; intro w2 r2 f2; have c2 : w2.cell? ⟨w1.heap.size, 49, none⟩ = some nlv := r2.cell (i := 49) (by omega); have HB2 : Hid (Below w.heap.size w w2) := HB1.out.trans ((new_fr f2).mono HB1.out.size); clear f2 r2))
  refine (sort_nil w2).mono ?_
  rintro ex w3 ⟨rfl, hw3⟩
  subst w3
  clear c2 z1
  go_wp2
  go_ret2
  exact ⟨rfl, HB2.out⟩

set_option maxRecDepth 100000 in
set_option maxHeartbeats 2000000 in
theorem parents_blob (ao : Option Addr) (n c : Nat) (xs : List Int) (w : World) (hg : Gs w) (hr : Rd w ao n c xs) (hn : n ≤ 16384) :
    Calls Tryz.prog 35 #[.int .i64 3, .slice ao n c] w fun ex w' => ex = .returned nlv ∧ Below w.heap.size w w' := by
  have hz := zero107
  have hpa := parse_blob ao n c xs w hg hr hn
  clear hg hr hn
  go_enter Tryz.func35, Tryz.ntmps35
  go_wp2_with fail
  refine hpa.mono ?_
  rintro ex w1 ⟨rfl, b1⟩
  have z1 := rowIs_vals w1 ps0 50 107
  have HB1 : Hid (Below w.heap.size w w1) := b1
  clear hpa b1
  go_wp2_with ((refine wpList_st rfl 107 _ _ rfl w1.heap.size rfl ps0 rfl z1 (by kernel_rfl) ps0_one ?_; intro w2 r2 f2; have c2 : w2.cell? ⟨w1.heap.size, 21, none⟩ = some nlv := r2.cell (i := 21) (by omega); have HB2 : Hid (Below w.heap.size w w2) := HB1.out.trans ((new_fr f2).mono HB1.out.size); clear f2 r2))
  go_ret
  exact ⟨rfl, HB2.out⟩

set_option maxRecDepth 100000 in
set_option maxHeartbeats 2000000 in
theorem check_of (e : Int) (ao : Option Addr) (n c : Nat) (w : World) (hpa : Calls Tryz.prog 56 #[.int .i64 3, .slice ao n c] w fun ex w' => ex = .returned (.tuple #[row ps0 50, .int .i64 e]) ∧ Below w.heap.size w w') :
    Calls Tryz.prog 33 #[.int .i64 3, .slice ao n c] w fun ex w' => ex = .returned (.int .i64 e) ∧ Below w.heap.size w w' := by
  have hz := zero107
  go_enter Tryz.func33, Tryz.ntmps33
  go_wp2_with fail
  refine hpa.mono ?_
  rintro ex w1 ⟨rfl, b1⟩
  have z1 := rowIs_vals w1 ps0 50 107
  have HB1 : Hid (Below w.heap.size w w1) := b1
  clear hpa b1
  go_wp2_with ((refine wpList_st rfl 107 _ _ rfl w1.heap.size rfl ps0 rfl z1 (by kernel_rfl) ps0_one ?_; intro w2 r2 f2; have HB2 : Hid (Below w.heap.size w w2) := HB1.out.trans ((new_fr f2).mono HB1.out.size); clear f2 r2))
  go_ret
  exact ⟨rfl, HB2.out⟩

set_option maxRecDepth 100000 in
set_option maxHeartbeats 2000000 in
theorem parse_long (ao : Option Addr) (n c : Nat) (w : World) (hg : Gs w) (hn : 16384 < n) :
    Calls Tryz.prog 56 #[.int .i64 3, .slice ao n c] w fun ex w' => ex = .returned (.tuple #[row ps0 50, .int .i64 5]) ∧ Below w.heap.size w w' := by
  have hik := isKind_any 3 (w.alloc (Obj.cells (vals ps0 50).toArray 107)) (hg.keep (new_below _ _))
  rw [show isK 3 = true by decide] at hik
  have hz := zero107
  have z0 := rowIs_vals w ps0 50 107
  have d1 : decide ((16384 : Int) < n) = true := by simp; omega
  have d2 : decide (16384 < n) = true := by simp [hn]
  clear hg hn
  go_enter Tryz.func56, Tryz.ntmps56
  go_wp2_with fail
  refine hik.mono ?_
  rintro ex w0 ⟨rfl, hw0⟩
  subst w0
  clear hik
  go_wp2_with ((refine wpList_st rfl 107 _ _ rfl w.heap.size rfl ps0 rfl z0 (by kernel_rfl) ps0_one ?_; intro w2 r2 f2; have HB2 : Hid (Below w.heap.size w w2) := new_fr f2; clear f2))
  refine bodyPost_ret (results_two (fn := Tryz.f56) (p := 4) (q := 5) (ty := 107) (by kernel_rfl) _ (by rfl) r2 Tryz.underlying107 rfl (by kernel_rfl)) rfl ⟨rfl, HB2.out⟩

theorem check_blob (ao : Option Addr) (n c : Nat) (xs : List Int) (w : World) (hg : Gs w) (hr : Rd w ao n c xs) (hn : n ≤ 16384) :
    Calls Tryz.prog 33 #[.int .i64 3, .slice ao n c] w fun ex w' => ex = .returned (.int .i64 0) ∧ Below w.heap.size w w' :=
  check_of 0 ao n c w (parse_blob ao n c xs w hg hr hn)

theorem check_long (ao : Option Addr) (n c : Nat) (w : World) (hg : Gs w) (hn : 16384 < n) :
    Calls Tryz.prog 33 #[.int .i64 3, .slice ao n c] w fun ex w' => ex = .returned (.int .i64 5) ∧ Below w.heap.size w w' :=
  check_of 5 ao n c w (parse_long ao n c w hg hn)

end Go.Proofs.YtojgablpjdlegaaGreatDoor

/- Open of what Canon wrote. -/
namespace Go.Proofs.YtojgablpjdlegaaGreatDoor
open Go.RowKit Go.Shelf

theorem index_first (z : UInt8) (r : List UInt8) : ∀ h : List UInt8, (∀ b ∈ h, b ≠ z) → Lib.index (h ++ z :: r) [z] = h.length
  | [], _ => by simp [Lib.index]
  | b :: h, hz => by
    have ih := index_first z r h (fun x hx => hz x (by simp [hx]))
    have hb : b ≠ z := hz b (by simp)
    rw [List.cons_append]
    unfold Lib.index
    rw [ih]
    have : ((h.length : Int) == -1) = false := by simp
    simp [this]
    exact fun e => absurd e.symm hb

theorem cut_first (z : UInt8) (h r : List UInt8) (hz : ∀ b ∈ h, b ≠ z) : Lib.cut (h ++ z :: r) [z] = (h, r, true) := by
  unfold Lib.cut
  rw [index_first z r h hz, if_pos (by omega)]
  simp

theorem dec_ge (n : Nat) : ∀ b ∈ Lib.decDigits n, 48 ≤ b.toNat := by
  intro b hb
  rw [Lib.decDigits_eq] at hb
  obtain ⟨t, _, rfl⟩ := List.mem_map.1 hb
  unfold Lib.dg
  have : n / 10 ^ (Lib.nDigits n - 1 - t) % 10 < 10 := Nat.mod_lt _ (by omega)
  simp
  omega

theorem wl_ge (k : Int) : ∀ b ∈ wl k, 48 ≤ b.toNat := by
  unfold wl wrd
  split
  · decide
  · split
    · decide
    · split
      · decide
      · split <;> decide

theorem kof_wl (k : Int) (hk : isK k = true) : kof (wl k) = (k, true) := by
  have h : k = 1 ∨ k = 2 ∨ k = 3 ∨ k = 4 := by
    unfold isK at hk
    simp at hk
    omega
  rcases h with rfl | rfl | rfl | rfl <;> decide +kernel

theorem ne_of_ge {b z : UInt8} (h : 48 ≤ b.toNat) (hz : z.toNat < 48) : b ≠ z := fun e => by subst e; omega

/-- What stands ahead of the nought. -/
def cnh (k : Int) (n : Nat) : List UInt8 := wl k ++ 32 :: Lib.decDigits n

theorem cnl_eq (k : Int) (n : Nat) : cnl k n = cnh k n ++ [0] := by simp [cnl, cnh]

theorem cnh_cut (k : Int) (n : Nat) : Lib.cut (cnh k n) [32] = (wl k, Lib.decDigits n, true) :=
  cut_first 32 _ _ (fun b hb => ne_of_ge (wl_ge k b hb) (by decide))

theorem cnh_nz (k : Int) (n : Nat) : ∀ b ∈ cnh k n, b ≠ 0 := by
  intro b hb
  simp [cnh] at hb
  rcases hb with h | rfl | h
  · exact ne_of_ge (wl_ge k b h) (by decide)
  · decide
  · exact ne_of_ge (dec_ge n b h) (by decide)

theorem cn_index (k : Int) (n : Nat) (xs : List Int) : Lib.index (Lib.bytesOf (tn (cnl k n) ++ xs)) (Lib.bytesOf [0]) = ((cnh k n).length : Int) := by
  have h : Lib.bytesOf (tn (cnl k n) ++ xs) = cnh k n ++ 0 :: tb xs := by
    show tb (tn (cnl k n) ++ xs) = _
    have : tb (tn (cnl k n) ++ xs) = tb (tn (cnl k n)) ++ tb xs := by simp [tb]
    rw [this, tb_tn, cnl_eq]
    simp
  rw [h]
  exact index_first 0 _ _ (cnh_nz k n)

theorem open_canon (k : Int) (hk : isK k = true) (ao : Option Addr) (L c m : Nat) (xs : List Int) (w : World) (hg : Gs w) (hr : Rd w ao L c (tn (cnl k m) ++ xs)) (hL : L ≤ 1000000) (hx : xs.length = m) (hm : m ≤ 16384) :
    Calls Tryz.prog 17 #[.slice ao L c] w fun e w' => ∃ v, e = .returned (.tuple #[.int .i64 k, v, .int .i64 0]) ∧ w'.ownsRow w.heap.size 5 1 v m (xs.map (Value.int .u8)) ∧ Below w.heap.size w w' := by
  have hl : (tn (cnl k m)).length = (cnh k m).length + 1 := by rw [tn_len, cnl_eq]; simp
  have hL2 : L = (cnh k m).length + 1 + m := by
    have := hr.len
    rw [List.length_append, hl, hx] at this
    exact this.symm
  have ht : tb ((tn (cnl k m) ++ xs).take (cnh k m).length) = cnh k m := by
    rw [List.take_append_of_le_length (by omega)]
    have : tb ((tn (cnl k m)).take (cnh k m).length) = (tb (tn (cnl k m))).take (cnh k m).length := by simp [tb]
    rw [this, tb_tn, cnl_eq]
    simp
  have h := open_ok ao L c (tn (cnl k m) ++ xs) (cnh k m).length m (wl k) (Lib.decDigits m) true k w hg hr hL (cn_index k m xs) hL2 (by rw [ht]; exact cnh_cut k m) (kof_wl k hk) rfl hm
  rw [show (tn (cnl k m) ++ xs).drop ((cnh k m).length + 1) = xs by rw [← hl]; simp] at h
  exact h

end Go.Proofs.YtojgablpjdlegaaGreatDoor

/- Open of what is too long. -/
namespace Go.Proofs.YtojgablpjdlegaaGreatDoor
open Go.RowKit Go.Shelf

set_option maxRecDepth 100000 in
set_option maxHeartbeats 1000000 in
theorem open_long (ao : Option Addr) (n c : Nat) (xs : List Int) (i m : Nat) (wd sz : List UInt8) (bb : Bool) (k : Int) (w : World) (hg : Gs w) (hr : Rd w ao n c xs) (hn : n ≤ 1000000) (hi : Lib.index (Lib.bytesOf xs) (Lib.bytesOf [0]) = (i : Int)) (him : n = i + 1 + m) (hcu : Lib.cut (tb (xs.take i)) [32] = (wd, sz, bb)) (hk : kof wd = (k, true)) (hsz : sz = Lib.decDigits m) (hm : 16384 < m) :
    Calls Tryz.prog 17 #[.slice ao n c] w fun e w' => e = .returned (.tuple #[.int .i64 0, .slice none 0 0, .int .i64 5]) ∧ Below w.heap.size w w' := by
  have b0 := new_below w (Obj.cells #[.int .u8 0] 5)
  have r0 := hr.keep b0
  obtain ⟨mm, hmm⟩ := (hg.keep b0).most
  obtain ⟨a2, ha2⟩ : ∃ a2, a2 = (if c = i + 1 then ao else Option.map (fun x : Addr => x.add (i + 1)) ao) := ⟨_, rfl⟩
  have hbc : Calls Tryz.prog 53 #[.slice ao n c, .slice (some ⟨w.heap.size, 0, none⟩) 1 1] (w.alloc (Obj.cells #[.int .u8 0] 5)) fun e w' => e = .returned (.tuple #[.slice ao i c, .slice a2 m (c - (i + 1)), .bool true]) ∧ ∃ q, w' = (w.alloc (Obj.cells #[.int .u8 0] 5)).drewN q := by
    refine (Any.bytes_Cut_all Tryz.bcut ao (some ⟨w.heap.size, 0, none⟩) n c 1 1 xs [0] mm (w.alloc (Obj.cells #[.int .u8 0] 5)) r0.len rfl r0.byt (by simp) r0.bytesIn (one_rd w 0 (by omega)).bytesIn (fun e => (r0.nul e).2) r0.le (by omega) (by omega) hmm).mono ?_
    rintro e w' ⟨rfl, h2⟩
    refine ⟨?_, h2⟩
    rw [hi]
    unfold Lib.cutV Lib.fromV
    rw [if_pos (by omega), Int.toNat_natCast, ← ha2, show n - (i + 1) = m by omega]
  have HHD : Hid (∀ W, Below w.heap.size w W → (convert 22 9 (.slice ao i c)).run Tryz.prog W = .ok (sv (tb (xs.take i))) W) := fun W hW => by
    have := ((hr.keep hW).front i (by omega)).str
    rw [tb_sv] at this
    exact this
  have HDA : Hid (∀ W, Below w.heap.size w W → Rd W a2 m (c - (i + 1)) (xs.drop (i + 1))) := fun W hW => by
    have := (hr.keep hW).sub (i + 1) m (by omega)
    rw [List.take_of_length_le (by rw [List.length_drop, hr.len]; omega), ← ha2] at this
    exact this
  have hao : ∃ ad, a2 = some ad := by
    cases ao with
    | none => have := (hr.nul rfl).1; omega
    | some x => rw [ha2]; split <;> exact ⟨_, rfl⟩
  obtain ⟨ad, rfl⟩ := hao
  have HB0 : Hid (Below w.heap.size w (w.alloc (Obj.cells #[.int .u8 0] 5))) := b0
  have HG : Hid (∀ W, Below w.heap.size w W → Gs W) := fun W hW => hg.keep hW
  have HK : Hid (kof wd = (k, true)) := hk
  have hil : (tb (xs.take i)).length ≤ 1000000 := by rw [tb_len, List.length_take, hr.len]; omega
  have HCU : Hid (∀ W, Gs W → Calls Tryz.prog 54 #[sv (tb (xs.take i)), sv [32]] W fun e w' => e = .returned (.tuple #[sv wd, sv sz, .bool bb]) ∧ ∃ q, w' = W.drewN q) := fun W hW => by
    obtain ⟨m1, hm1⟩ := hW.most
    have h : Calls Tryz.prog 54 #[sv (tb (xs.take i)), sv [32]] W fun e w' => e = .returned (.tuple #[sv (Lib.cut (tb (xs.take i)) [32]).1, sv (Lib.cut (tb (xs.take i)) [32]).2.1, .bool (Lib.cut (tb (xs.take i)) [32]).2.2]) ∧ ∃ n, w' = W.drewN n := Any.strings_Cut Tryz.scut ⟨(tb (xs.take i)).toArray⟩ ⟨[32].toArray⟩ m1 W (by rw [size_sv]; omega) hm1
    rw [hcu] at h
    exact h
  have HIT : Hid (∀ W, Gs W → Calls Tryz.prog 49 #[.int .i64 m] W fun e w' => e = .returned (sv sz) ∧ Below W.heap.size W w') := fun W hW => by
    rw [hsz]
    exact itoa_any m W hW (by omega)
  have d1 : decide ((16384 : Int) < m) = true := by simp; omega
  have d2 : decide (16384 < m) = true := by simp [hm]
  generalize tb (xs.take i) = hd at *
  clear hg hr r0 b0 hmm hi him hcu hk hsz hm ha2 hn hil HDA
  go_enter Tryz.func17, Tryz.ntmps17
  go_wp2_with fail
  refine hbc.mono ?_
  rintro e w1 ⟨rfl, q1, hw1⟩
  have B1 : Below w.heap.size w w1 := by rw [hw1]; exact HB0.out.trans ((drewN_b _ _).mono HB0.out.size)
  have cv := HHD.out w1 B1
  have hcu := HCU.out w1 (HG.out w1 B1)
  have HB1 : Hid (Below w.heap.size w w1) := B1
  clear hbc hw1 B1
  go_wp2_with fail
  refine hcu.mono ?_
  rintro e w2 ⟨rfl, q2, hw2⟩
  have B2 : Below w.heap.size w w2 := by rw [hw2]; exact HB1.out.trans ((drewN_b _ _).mono HB1.out.size)
  have hko := kindOf_any wd w2 (HG.out w2 B2)
  rw [HK.out] at hko
  have HB2 : Hid (Below w.heap.size w w2) := B2
  have hit := HIT.out w2 (HG.out w2 B2)
  clear hcu hw2 B2 cv
  go_wp2_with fail
  refine hko.mono ?_
  rintro e wz ⟨rfl, hwz⟩
  subst wz
  clear hko
  go_wp2_with fail
  refine hit.mono ?_
  rintro e w3 ⟨rfl, b3⟩
  have B3 : Below w.heap.size w w3 := HB2.out.trans (b3.mono HB2.out.size)
  have HB3 : Hid (Below w.heap.size w w3) := B3
  clear hit b3 B3
  go_wp2
  go_ret3
  exact ⟨rfl, HB3.out⟩

theorem canon_long (k : Int) (hk : isK k = true) (ao : Option Addr) (L c m : Nat) (xs : List Int) (w : World) (hg : Gs w) (hr : Rd w ao L c (tn (cnl k m) ++ xs)) (hL : L ≤ 1000000) (hx : xs.length = m) (hm : 16384 < m) :
    Calls Tryz.prog 17 #[.slice ao L c] w fun e w' => e = .returned (.tuple #[.int .i64 0, .slice none 0 0, .int .i64 5]) ∧ Below w.heap.size w w' := by
  have hl : (tn (cnl k m)).length = (cnh k m).length + 1 := by rw [tn_len, cnl_eq]; simp
  have hL2 : L = (cnh k m).length + 1 + m := by
    have := hr.len
    rw [List.length_append, hl, hx] at this
    exact this.symm
  have ht : tb ((tn (cnl k m) ++ xs).take (cnh k m).length) = cnh k m := by
    rw [List.take_append_of_le_length (by omega)]
    have : tb ((tn (cnl k m)).take (cnh k m).length) = (tb (tn (cnl k m))).take (cnh k m).length := by simp [tb]
    rw [this, tb_tn, cnl_eq]
    simp
  exact open_long ao L c (tn (cnl k m) ++ xs) (cnh k m).length m (wl k) (Lib.decDigits m) true k w hg hr hL (cn_index k m xs) hL2 (by rw [ht]; exact cnh_cut k m) (kof_wl k hk) rfl hm

end Go.Proofs.YtojgablpjdlegaaGreatDoor

/- ObjectBlobs. -/
namespace Go.Proofs.YtojgablpjdlegaaGreatDoor
open Go.RowKit Go.Shelf

theorem dec_len1 (n : Nat) : 1 ≤ (Lib.decDigits n).length := by
  unfold Lib.decDigits
  split <;> simp

theorem dec_le : ∀ k n : Nat, n < 10 ^ (k + 1) → (Lib.decDigits n).length ≤ k + 1
  | 0, n, h => by rw [Lib.decDigits_one (by simpa using h)]; simp
  | k + 1, n, h => by
    unfold Lib.decDigits
    split
    · simp
    · have ih := dec_le k (n / 10) (Nat.div_lt_of_lt_mul (by rw [Nat.pow_succ] at h; omega))
      simp
      exact ih

theorem dec_len (n : Nat) (hn : n ≤ 100000) : (Lib.decDigits n).length ≤ 100 := by
  have := dec_le 5 n (by omega)
  omega

theorem cnl_len3 (n : Nat) : 7 ≤ (cnl 3 n).length := by
  have := dec_len1 n
  have h4 : (wl 3).length = 4 := by decide +kernel
  unfold cnl
  simp only [List.length_append, List.length_cons, List.length_nil]
  omega

set_option maxRecDepth 100000 in
set_option maxHeartbeats 4000000 in
theorem blobs_small (ao : Option Addr) (n c : Nat) (xs : List Int) (q : Int) (w : World) (hg : Gs w) (hr : Rd w ao n c xs) (hn : n ≤ 3000) (hq : q < 16382 ∨ 16386 < q) :
    Calls Tryz.prog 8 #[.slice ao n c, .int .i64 q] w fun e w' => e = .returned (.bool true) ∧ Below w.heap.size w w' := by
  have HK : Hid (Calls Tryz.prog 9 #[] w fun e w' => e = .returned (.bool true) ∧ Below w.heap.size w w') := known_yes w hg
  have HG : Hid (Gs w) := hg
  have HR : Hid (Rd w ao n c xs) := hr
  have HN : Hid (n ≤ 3000) := hn
  have d1 : decide ((3000 : Int) < n) = false := by simp; omega
  have d2 : decide (3000 < n) = false := by simp; omega
  have y1 : IntKind.i64.wrap ((n : Int) + 7) = n + 7 := by rw [IntKind.wrap_i64]; omega
  obtain ⟨L, hL⟩ : ∃ L, L = (cnl 3 n).length + n := ⟨_, rfl⟩
  have hL7 : n + 7 ≤ L := by have := cnl_len3 n; omega
  have hL2 : L ≤ 4000 := by
    have h := dec_len n (by omega)
    have h4 : (wl 3).length = 4 := by decide +kernel
    rw [hL]
    unfold cnl
    simp only [List.length_append, List.length_cons, List.length_nil]
    omega
  have d3 : decide ((L : Int) < n + 7) = false := by simp; omega
  have d4 : decide (L < n + 7) = false := by simp; omega
  have HLE : Hid (L = (cnl 3 n).length + n ∧ L ≤ 4000) := ⟨hL, hL2⟩
  have hqd : (decide (q < 16382) = true) ∨ (decide (q < 16382) = false ∧ decide (16386 < q) = true) := by
    rcases hq with h | h
    · exact .inl (by simp [h])
    · exact .inr ⟨by simp; omega, by simp [h]⟩
  have HQ : Hid _ := hqd
  clear hg hr hn hL hL7 hL2 hq hqd
  go_enter Tryz.func8, Tryz.ntmps8
  go_wp2_with fail
  refine (show Calls Tryz.prog 9 #[] w _ from HK.out).mono ?_
  rintro e w1 ⟨rfl, b1⟩
  have HB1 : Hid (Below w.heap.size w w1) := b1
  have hed := edges_blob ao n c xs w1 (HG.out.keep b1) (HR.out.keep b1) (by have := HN.out; omega)
  clear b1
  go_wp2_with fail
  refine hed.mono ?_
  rintro e w2 ⟨rfl, b2⟩
  have HB2 : Hid (Below w.heap.size w w2) := HB1.out.trans (b2.mono HB1.out.size)
  have hca := canon_any 3 (by decide) ao n c xs w2 (HG.out.keep HB2.out) (HR.out.keep HB2.out) (by have := HN.out; omega) (dec_len n (by have := HN.out; omega))
  rw [← HLE.out.1] at hca
  clear b2 hed
  go_wp2_with fail
  refine hca.mono ?_
  rintro e w3 ⟨g, cap, rfl, r3, _, b3⟩
  have HB3 : Hid (Below w.heap.size w w3) := HB2.out.trans (b3.mono HB2.out.size)
  have hop := open_canon 3 (by decide) (some ⟨g, 0, none⟩) L cap n xs w3 (HG.out.keep HB3.out) r3 (by have := HLE.out.2; omega) HR.out.len (by have := HN.out; omega)
  clear b3 hca r3
  go_wp2_with fail
  refine hop.mono ?_
  rintro e w4 ⟨v4, rfl, o4, b4⟩
  obtain ⟨ao4, c4, rfl, r4, _⟩ := own_rd o4 HR.out.byt
  have HB4 : Hid (Below w.heap.size w w4) := HB3.out.trans (b4.mono HB3.out.size)
  have s4 : (convert 22 9 (.slice ao4 n c4)).run Tryz.prog w4 = .ok (sv (tb xs)) w4 := by
    have := r4.str
    rw [tb_sv] at this
    exact this
  have s0 : (convert 22 9 (.slice ao n c)).run Tryz.prog w4 = .ok (sv (tb xs)) w4 := by
    have := (HR.out.keep HB4.out).str
    rw [tb_sv] at this
    exact this
  have hpa := parents_blob ao n c xs w4 (HG.out.keep HB4.out) (HR.out.keep HB4.out) (by have := HN.out; omega)
  clear o4 b4 r4 hop
  go_wp2_with fail
  refine hpa.mono ?_
  rintro e w5 ⟨rfl, b5⟩
  have HB5 : Hid (Below w.heap.size w w5) := HB4.out.trans (b5.mono HB4.out.size)
  clear b5 hpa s0 s4
  rcases HQ.out with q1 | ⟨q1, q2⟩
  · go_wp2_with fail
    go_ret
    exact ⟨rfl, HB5.out⟩
  · go_wp2_with fail
    go_ret
    exact ⟨rfl, HB5.out⟩

end Go.Proofs.YtojgablpjdlegaaGreatDoor

/- ObjectBlobs, whatever comes in. -/
namespace Go.Proofs.YtojgablpjdlegaaGreatDoor
open Go.RowKit Go.Shelf

theorem zero_rd (w : World) (Q : Nat) : Rd (w.alloc (.cells (madeCells #[.int .u8 0] Q) 5)) (some ⟨w.heap.size, 0, none⟩) Q Q (List.replicate Q 0) :=
  Rd.ofRow ((World.rowIs_made w (.int .u8 0) Q 5).congr (fun j hj => by simp [List.getD, hj])) (by simp) (fun x hx => by rw [List.eq_of_mem_replicate hx]; omega)

theorem cnl_max (n : Nat) (hn : n ≤ 100000) : (cnl 3 n).length ≤ 200 := by
  have h := dec_len n hn
  have h4 : (wl 3).length = 4 := by decide +kernel
  unfold cnl
  simp only [List.length_append, List.length_cons, List.length_nil]
  omega

set_option maxRecDepth 100000 in
set_option maxHeartbeats 4000000 in
theorem blobs_edge (ao : Option Addr) (n c : Nat) (xs : List Int) (Q : Nat) (w : World) (hg : Gs w) (hr : Rd w ao n c xs) (hn : n ≤ 3000) (h1 : 16382 ≤ Q) (h2 : Q ≤ 16386) :
    Calls Tryz.prog 8 #[.slice ao n c, .int .i64 Q] w fun e w' => e = .returned (.bool true) ∧ Below w.heap.size w w' := by
  have HK : Hid (Calls Tryz.prog 9 #[] w fun e w' => e = .returned (.bool true) ∧ Below w.heap.size w w') := known_yes w hg
  have HG : Hid (Gs w) := hg
  have HR : Hid (Rd w ao n c xs) := hr
  have HN : Hid (n ≤ 3000) := hn
  have d1 : decide ((3000 : Int) < n) = false := by simp; omega
  have d2 : decide (3000 < n) = false := by simp; omega
  have y1 : IntKind.i64.wrap ((n : Int) + 7) = n + 7 := by rw [IntKind.wrap_i64]; omega
  obtain ⟨L, hL⟩ : ∃ L, L = (cnl 3 n).length + n := ⟨_, rfl⟩
  have hL7 : n + 7 ≤ L := by have := cnl_len3 n; omega
  have hL2 : L ≤ 4000 := by
    have h := dec_len n (by omega)
    have h4 : (wl 3).length = 4 := by decide +kernel
    rw [hL]
    unfold cnl
    simp only [List.length_append, List.length_cons, List.length_nil]
    omega
  have d3 : decide ((L : Int) < n + 7) = false := by simp; omega
  have d4 : decide (L < n + 7) = false := by simp; omega
  have HLE : Hid (L = (cnl 3 n).length + n ∧ L ≤ 4000) := ⟨hL, hL2⟩
  have q1 : decide ((Q : Int) < 16382) = false := by simp; omega
  have q2 : decide ((16386 : Int) < Q) = false := by simp; omega
  have q3 : decide (Q < 16382) = false := by simp; omega
  have q4 : decide (16386 < Q) = false := by simp; omega
  obtain ⟨i0, hi, hz0, hz1, hz2⟩ := info_parts Tryz.info5
  have hm : ∀ W, (Instr.makeSlice 22 (.int .i64 Q) (.int .i64 Q)).run Tryz.prog W = .ok (.slice (some ⟨W.heap.size, 0, none⟩) Q Q) (W.alloc (.cells (madeCells #[.int .u8 0] Q) 5)) := fun W => run_make_row (P := Tryz.prog) 22 5 i0 (.int .u8 0) Tryz.underlying22 hi hz0 hz1 rfl .i64 .i64 Q (by rw [hz2]; omega) (by omega) W
  have HQ : Hid (16382 ≤ Q ∧ Q ≤ 16386) := ⟨h1, h2⟩
  clear hg hr hn hL hL7 hL2 h1 h2 hi hz0 hz1 hz2
  go_enter Tryz.func8, Tryz.ntmps8
  go_wp2_with fail
  refine (show Calls Tryz.prog 9 #[] w _ from HK.out).mono ?_
  rintro e w1 ⟨rfl, b1⟩
  have HB1 : Hid (Below w.heap.size w w1) := b1
  have hed := edges_blob ao n c xs w1 (HG.out.keep b1) (HR.out.keep b1) (by have := HN.out; omega)
  clear b1
  go_wp2_with fail
  refine hed.mono ?_
  rintro e w2 ⟨rfl, b2⟩
  have HB2 : Hid (Below w.heap.size w w2) := HB1.out.trans (b2.mono HB1.out.size)
  have hca := canon_any 3 (by decide) ao n c xs w2 (HG.out.keep HB2.out) (HR.out.keep HB2.out) (by have := HN.out; omega) (dec_len n (by have := HN.out; omega))
  rw [← HLE.out.1] at hca
  clear b2 hed
  go_wp2_with fail
  refine hca.mono ?_
  rintro e w3 ⟨g, cap, rfl, r3, _, b3⟩
  have HB3 : Hid (Below w.heap.size w w3) := HB2.out.trans (b3.mono HB2.out.size)
  have hop := open_canon 3 (by decide) (some ⟨g, 0, none⟩) L cap n xs w3 (HG.out.keep HB3.out) r3 (by have := HLE.out.2; omega) HR.out.len (by have := HN.out; omega)
  clear b3 hca r3
  go_wp2_with fail
  refine hop.mono ?_
  rintro e w4 ⟨v4, rfl, o4, b4⟩
  obtain ⟨ao4, c4, rfl, r4, _⟩ := own_rd o4 HR.out.byt
  have HB4 : Hid (Below w.heap.size w w4) := HB3.out.trans (b4.mono HB3.out.size)
  have s4 : (convert 22 9 (.slice ao4 n c4)).run Tryz.prog w4 = .ok (sv (tb xs)) w4 := by
    have := r4.str
    rw [tb_sv] at this
    exact this
  have s0 : (convert 22 9 (.slice ao n c)).run Tryz.prog w4 = .ok (sv (tb xs)) w4 := by
    have := (HR.out.keep HB4.out).str
    rw [tb_sv] at this
    exact this
  have hpa := parents_blob ao n c xs w4 (HG.out.keep HB4.out) (HR.out.keep HB4.out) (by have := HN.out; omega)
  clear o4 b4 r4 hop
  go_wp2_with fail
  refine hpa.mono ?_
  rintro e w5 ⟨rfl, b5⟩
  have HB5 : Hid (Below w.heap.size w w5) := HB4.out.trans (b5.mono HB4.out.size)
  clear b5 hpa s0 s4
  by_cases hQ : Q ≤ 16384
  · have p1 : decide ((16384 : Int) < Q) = false := by simp; omega
    have p2 : decide (16384 < Q) = false := by simp; omega
    have hck := check_blob (some ⟨w5.heap.size, 0, none⟩) Q Q (List.replicate Q 0) (w5.alloc (.cells (madeCells #[.int .u8 0] Q) 5)) (HG.out.keep (HB5.out.trans ((new_below w5 _).mono HB5.out.size))) (zero_rd w5 Q) hQ
    have HQ1 : Hid (Q ≤ 16384) := hQ
    clear hQ
    go_wp2_with fail
    refine hck.mono ?_
    rintro e w6 ⟨rfl, b6⟩
    have HB6 : Hid (Below w.heap.size w w6) := (HB5.out.trans ((new_below w5 _).mono HB5.out.size)).trans (b6.mono (Nat.le_trans HB5.out.size (by simp)))
    have hca := canon_any 3 (by decide) (some ⟨w6.heap.size, 0, none⟩) Q Q (List.replicate Q 0) (w6.alloc (.cells (madeCells #[.int .u8 0] Q) 5)) (HG.out.keep (HB6.out.trans ((new_below w6 _).mono HB6.out.size))) (zero_rd w6 Q) (by have := HQ.out; omega) (dec_len Q (by have := HQ.out; omega))
    obtain ⟨L', hL'⟩ : ∃ L', L' = (cnl 3 Q).length + Q := ⟨_, rfl⟩
    rw [← hL'] at hca
    have HL' : Hid (L' ≤ 100000) := by have := cnl_max Q (by have := HQ.out; omega); have := HQ.out; show L' ≤ 100000; omega
    clear b6 hck hL'
    go_wp2_with fail
    refine hca.mono ?_
    rintro e w7 ⟨g7, cap7, rfl, r7, _, b7⟩
    have HB7 : Hid (Below w.heap.size w w7) := (HB6.out.trans ((new_below w6 _).mono HB6.out.size)).trans (b7.mono (Nat.le_trans HB6.out.size (by simp)))
    have hop := open_canon 3 (by decide) (some ⟨g7, 0, none⟩) L' cap7 Q (List.replicate Q 0) w7 (HG.out.keep HB7.out) r7 (by have := HL'.out; omega) (by simp) HQ1.out
    clear b7 hca r7
    go_wp2_with fail
    refine hop.mono ?_
    rintro e w8 ⟨v8, rfl, _, b8⟩
    have HB8 : Hid (Below w.heap.size w w8) := HB7.out.trans (b8.mono HB7.out.size)
    clear b8 hop
    go_wp2_with fail
    go_ret
    exact ⟨rfl, HB8.out⟩
  · have p1 : decide ((16384 : Int) < Q) = true := by simp; omega
    have p2 : decide (16384 < Q) = true := by simp; omega
    have hck := check_long (some ⟨w5.heap.size, 0, none⟩) Q Q (w5.alloc (.cells (madeCells #[.int .u8 0] Q) 5)) (HG.out.keep (HB5.out.trans ((new_below w5 _).mono HB5.out.size))) (by omega)
    have HQ1 : Hid (16384 < Q) := by show 16384 < Q; omega
    clear hQ
    go_wp2_with fail
    refine hck.mono ?_
    rintro e w6 ⟨rfl, b6⟩
    have HB6 : Hid (Below w.heap.size w w6) := (HB5.out.trans ((new_below w5 _).mono HB5.out.size)).trans (b6.mono (Nat.le_trans HB5.out.size (by simp)))
    have hca := canon_any 3 (by decide) (some ⟨w6.heap.size, 0, none⟩) Q Q (List.replicate Q 0) (w6.alloc (.cells (madeCells #[.int .u8 0] Q) 5)) (HG.out.keep (HB6.out.trans ((new_below w6 _).mono HB6.out.size))) (zero_rd w6 Q) (by have := HQ.out; omega) (dec_len Q (by have := HQ.out; omega))
    obtain ⟨L', hL'⟩ : ∃ L', L' = (cnl 3 Q).length + Q := ⟨_, rfl⟩
    rw [← hL'] at hca
    have HL' : Hid (L' ≤ 100000) := by have := cnl_max Q (by have := HQ.out; omega); have := HQ.out; show L' ≤ 100000; omega
    clear b6 hck hL'
    go_wp2_with fail
    refine hca.mono ?_
    rintro e w7 ⟨g7, cap7, rfl, r7, _, b7⟩
    have HB7 : Hid (Below w.heap.size w w7) := (HB6.out.trans ((new_below w6 _).mono HB6.out.size)).trans (b7.mono (Nat.le_trans HB6.out.size (by simp)))
    have hop := canon_long 3 (by decide) (some ⟨g7, 0, none⟩) L' cap7 Q (List.replicate Q 0) w7 (HG.out.keep HB7.out) r7 (by have := HL'.out; omega) (by simp) HQ1.out
    clear b7 hca r7
    go_wp2_with fail
    refine hop.mono ?_
    rintro e w8 ⟨rfl, b8⟩
    have HB8 : Hid (Below w.heap.size w w8) := HB7.out.trans (b8.mono HB7.out.size)
    clear b8 hop
    go_wp2_with fail
    go_ret
    exact ⟨rfl, HB8.out⟩

set_option maxRecDepth 100000 in
set_option maxHeartbeats 4000000 in
theorem blobs_law (ao : Option Addr) (n c : Nat) (xs : List Int) (q : Int) (w : World) (hg : Gs w) (hr : Rd w ao n c xs) :
    Calls Tryz.prog 8 #[.slice ao n c, .int .i64 q] w fun e w' => e = .returned (.bool true) ∧ Below w.heap.size w w' := by
  by_cases hn : n ≤ 3000
  · by_cases hq : q < 16382 ∨ 16386 < q
    · exact blobs_small ao n c xs q w hg hr hn hq
    · obtain ⟨Q, rfl⟩ : ∃ Q : Nat, q = Q := ⟨q.toNat, by omega⟩
      exact blobs_edge ao n c xs Q w hg hr hn (by omega) (by omega)
  · have HK : Hid (Calls Tryz.prog 9 #[] w fun e w' => e = .returned (.bool true) ∧ Below w.heap.size w w') := known_yes w hg
    have d1 : decide ((3000 : Int) < n) = true := by simp; omega
    have d2 : decide (3000 < n) = true := by simp; omega
    clear hn hg hr
    go_enter Tryz.func8, Tryz.ntmps8
    go_wp2_with fail
    refine (show Calls Tryz.prog 9 #[] w _ from HK.out).mono ?_
    rintro e w1 ⟨rfl, b1⟩
    have HB : Hid (Below w.heap.size w w1) := b1
    clear b1
    go_wp2_with fail
    go_ret
    exact ⟨rfl, HB.out⟩

end Go.Proofs.YtojgablpjdlegaaGreatDoor

/- The tables, out of what is laid, and of the world's shape. -/
namespace Go.Proofs.YtojgablpjdlegaaGreatDoor
open Go.RowKit

/-- The two tables. -/
abbrev two : List (String × DataW Unit) := [("internal/strconv.uint64pow10", Lib.tabData .u64 Lib.pow10Tab), ("trove/object.words", Rows.laid_trove_object_words)]

theorem word_of {W : World} {t f : Nat} {cs : List Value} {p : List MemPlace} (ht : Tryz.prog.underlying t = some (.array 5 9)) (h9 : Tryz.prog.cellsOf 9 = 1) (hd : DataW.trod (fun _ => ()) Tryz.prog W 0 (fun _ => true) false f t cs = some (Rows.laid_trove_object_words, p)) (k : Nat) (hk : k < 5) : cs[k]? = some (.string (wrd k)) := by
  obtain ⟨xs, m, _, he, _, hxl, hx⟩ := DataW.trod_array ht hd
  have hxk : xs[k]? = some (xs[k]'(by omega)) := List.getElem?_eq_getElem (by omega)
  have h1 := hx k hk
  rw [hxk, h9, Nat.mul_one] at h1
  obtain ⟨s, hc, hs, _⟩ := DataW.trod_string Tryz.underlying9 h1
  have h2 : (xs.map (·.1))[k]? = some (DataW.lit (.string s.data.toList)) := by rw [List.getElem?_map, hxk, hs]; rfl
  have h3 : Rows.laid_trove_object_words = DataW.agg (xs.map (·.1)) := congrArg Prod.fst he
  have hss : s = wrd k := by
    unfold Rows.laid_trove_object_words at h3
    simp only [DataW.agg.injEq] at h3
    rw [← h3] at h2
    rcases (by omega : k = 0 ∨ k = 1 ∨ k = 2 ∨ k = 3 ∨ k = 4) with rfl | rfl | rfl | rfl | rfl <;> (simp at h2; exact ba_inj (by first | (rw [← h2]; rfl) | (rw [h2]; rfl)))
  have := congrArg (fun l => l[0]?) hc
  rw [← hss]
  simpa [List.getElem?_take, List.getElem?_drop] using this

theorem gs_of_two {W : World} (h : laidMet Tryz.prog two W) (hm : ∃ m, W.cell? ⟨1, 0, none⟩ = some (.int .i64 m)) (hb : 10 ≤ W.heap.size) : Gs W := by
  have hp := Lib.tabIs_of_head (g := 3) (n := 20) (e := 142) (t := 233) (by kernel_rfl) (by kernel_rfl) (by kernel_rfl) (by kernel_rfl) (by kernel_rfl) (by kernel_rfl) h
  obtain ⟨ps, ⟨g0, t0, cs0, f0, p0, q0, hg0, ht0, hv0, hd0, ⟨g1, t1, cs1, f1, p1, q1, hg1, ht1, hv1, hd1, _, _⟩, _⟩, _⟩ := h
  obtain rfl := Option.some.inj ((show Tryz.prog.globalNamed "trove/object.words" = some 0 by kernel_rfl).symm.trans hg1)
  obtain rfl := Option.some.inj ((show (Tryz.prog.globals[0]?).map (·.type) = some 100 by kernel_rfl).symm.trans ht1)
  exact ⟨fun k hk => by rw [World.var?_cell hg1 hv1 k]; simpa using word_of (by kernel_rfl) (by kernel_rfl) hd1 k hk, hm, hp, hb⟩

theorem most_of {W : World} (h : W.ShapedOpen Tryz.prog) : ∃ m, W.cell? ⟨1, 0, none⟩ = some (.int .i64 m) :=
  cell_of_shapedOpen_int (t := 3) (zero := #[.int .i64 0]) h (of_decide_eq_true (by kernel_rfl)) (by kernel_rfl) rfl (by kernel_rfl) (by kernel_rfl) Tryz.underlying3

theorem big_of {W : World} (h : W.ShapedOpen Tryz.prog) : 10 ≤ W.heap.size := by
  have h0 : (((begin Tryz.prog (fun _ _ => 0) default).world.heap[9]?).bind Obj.row?).isSome = true := by kernel_rfl
  obtain ⟨⟨z, t⟩, hz⟩ := Option.isSome_iff_exists.1 h0
  obtain ⟨cs, hc, _⟩ := h.1 9 z t (of_decide_eq_true (by kernel_rfl)) hz
  have := (Array.getElem?_eq_some_iff.1 hc).1
  omega

theorem gs_of_laid {W : World} {l : List (String × DataW Unit)} (hl : l.filter (fun x => x.1 == "internal/strconv.uint64pow10" || x.1 == "trove/object.words") = two) (h : laidMetH Tryz.prog l W) (hs : W.ShapedOpen Tryz.prog) : Gs W := by
  have h2 := laidMetH.filter (fun x => x.1 == "internal/strconv.uint64pow10" || x.1 == "trove/object.words") h
  rw [hl, MakeChecks.laidMetH_plain _ _ _ (by kernel_rfl)] at h2
  exact gs_of_two h2 (most_of hs) (big_of hs)

theorem blobs_two : Rows.objectBlobsRow.laid.filter (fun x => x.1 == "internal/strconv.uint64pow10" || x.1 == "trove/object.words") = two := by kernel_rfl

end Go.Proofs.YtojgablpjdlegaaGreatDoor

/- A row's wrap that keeps both what is laid and the world's shape. -/
namespace Go.Proofs.YtojgablpjdlegaaGreatDoor

theorem handed_laid_shaped {H : Type} {enc : TypeId × Value → H} {C : Checked} {os : Os} {f : FuncId} {fn : Func} {s : ChangeSpec} {conds : List PathCond} {apart fresh handsOn again : Bool} {a : Assume} {X : World → Array Value → Prop}
    (hX : ∀ (w w' : World) (args : Array Value), w.heap = w'.heap → X w args → X w' args)
    (own : ownKnob C.prog.godebug = none) (started : os.Started) (noInit : C.prog.inits.idxOf? f = none) (hfn : C.prog.funcs[f]? = some fn)
    (witness : ∃ (w : World) (tape : Tape) (i : Input), w.os = os ∧ (w.forCall tape i).Shaped C.prog ∧ i.vars = [] ∧ Input.okWide C.prog (w.forCall tape i) .any w.heap.size f i ∧
      ((s.pre enc C.prog fn conds apart (w.forCall tape i).memory i.args ∧ X (w.forCall tape i).memory i.args) ∧ sizedMet enc C.prog fn (OpenSpec.ofChange s) apart (w.forCall tape i).memory i.args) ∧ a.holds C.prog (lone (Frame.enter C.prog f i.args .normal) [] (w.forCall tape i)))
    (walk : ∀ (W : World) (base : Nat) (args : Array Value) (ds gs : List (DataW H)) (before : List MemPlace),
      (∀ (j : Nat) t v, fn.params[j]? = some t → args[j]? = some v → Value.okWide C.prog W .any base t v) →
      DataW.Whole enc C.prog fn.params.toList s.vars apart W args.toList ds gs before → X W args → W.ShapedOpen C.prog →
      Calls C.prog f args W fun e W' => ∃ v, e = .returned v ∧ s.post enc C.prog fn apart fresh handsOn again W args v W') :
    ReturnsInHanded a C os f .any (fun w args => (s.pre enc C.prog fn conds apart w args ∧ X w args) ∧ sizedMet enc C.prog fn (OpenSpec.ofChange s) apart w args) (s.post enc C.prog fn apart fresh handsOn again) := by
  refine returnsInHanded_of_calls own started noInit witness fun w tape i _ hsh _ hok hpre _ => ?_
  obtain ⟨_, _, _, g, hg, _, _, _, _, hval⟩ := hok
  obtain rfl : g = fn := Option.some.inj (hg.symm.trans hfn)
  obtain ⟨⟨⟨ds, gs, before, hw, _⟩, hx⟩, _⟩ := hpre
  refine (walk (w.forCall tape i) w.heap.size i.args ds gs before hval (DataW.Whole.of_heap (w' := w.forCall tape i) (by rfl) hw) (hX _ _ _ (by rfl) hx) hsh).mono fun e W' hp => ?_
  obtain ⟨v, rfl, hp⟩ := hp
  exact ChangeSpec.post_blind hp

end Go.Proofs.YtojgablpjdlegaaGreatDoor
