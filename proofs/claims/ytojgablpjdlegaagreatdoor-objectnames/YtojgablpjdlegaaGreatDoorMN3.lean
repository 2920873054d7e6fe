/- NmE, NmF. -/
import Derived.Test.YtojgablpjdlegaaGreatDoorMN2
/- Open of any bytes: the program's. -/
namespace Go.Proofs.YtojgablpjdlegaaGreatDoor
open Go.RowKit Go.Shelf

/-- The kind that the head says, if it says this length, too. -/
def kh (l : List UInt8) (m : Nat) : Int := if cnh 1 m = l then 1 else if cnh 2 m = l then 2 else if cnh 3 m = l then 3 else if cnh 4 m = l then 4 else 0

/-- What is opened of a head, a nought, and the rest. -/
def opn (h r : List Int) : Int × List Int × Int := if kh (tb h) r.length = 0 then (0, [], 2) else if 16384 < r.length then (0, [], 5) else (kh (tb h) r.length, r, 0)

/-- What is opened. -/
def opx (xs : List Int) : Int × List Int × Int := if (xs.takeWhile (fun x => decide (x ≠ 0))).length = xs.length then (0, [], 2) else opn (xs.takeWhile (fun x => decide (x ≠ 0))) (xs.drop ((xs.takeWhile (fun x => decide (x ≠ 0))).length + 1))

theorem tw_all : ∀ xs : List Int, (∀ x ∈ xs, x ≠ 0) → xs.takeWhile (fun x => decide (x ≠ 0)) = xs
  | [], _ => rfl
  | a :: l, h => by rw [List.takeWhile_cons, if_pos (by simpa using h a (by simp)), tw_all l (fun x hx => h x (by simp [hx]))]

theorem opx_none (xs : List Int) (h : ∀ x ∈ xs, x ≠ 0) : opx xs = (0, [], 2) := by
  unfold opx
  rw [if_pos]
  rw [tw_all xs h]

theorem tw_dec (h r : List Int) (hz : ∀ x ∈ h, x ≠ 0) : (h ++ 0 :: r).takeWhile (fun x => decide (x ≠ 0)) = h := by
  induction h with
  | nil => simp
  | cons a l ih =>
    have h1 : a ≠ 0 := hz a (by simp)
    rw [List.cons_append, List.takeWhile_cons, if_pos (by simpa using h1), ih (fun x hx => hz x (by simp [hx]))]

theorem opx_dec (h r : List Int) (hz : ∀ x ∈ h, x ≠ 0) : opx (h ++ 0 :: r) = opn h r := by
  unfold opx
  rw [tw_dec h r hz, if_neg (by simp)]
  congr 1
  rw [List.drop_append, List.drop_of_length_le (by omega)]
  simp

/-- No nought, or the first one. -/
theorem zero_cases : ∀ xs : List Int, (∀ x ∈ xs, x ≠ 0) ∨ ∃ h r, xs = h ++ 0 :: r ∧ ∀ x ∈ h, x ≠ 0
  | [] => .inl (fun x hx => by cases hx)
  | b :: l => by
    by_cases hb : b = 0
    · exact .inr ⟨[], l, by rw [hb]; rfl, fun x hx => by cases hx⟩
    · rcases zero_cases l with h | ⟨h, r, rfl, hz⟩
      · exact .inl (fun x hx => by rcases List.mem_cons.1 hx with rfl | hx; exact hb; exact h x hx)
      · exact .inr ⟨b :: h, r, rfl, fun x hx => by rcases List.mem_cons.1 hx with rfl | hx; exact hb; exact hz x hx⟩

theorem byte_nz (x : Int) (h0 : 0 ≤ x) (h1 : x < 256) (hx : x ≠ 0) : UInt8.ofNat x.toNat ≠ 0 := by
  intro e
  have := congrArg UInt8.toNat e
  simp at this
  omega

theorem tb_nz (h : List Int) (hb : ∀ x ∈ h, 0 ≤ x ∧ x < 256) (hz : ∀ x ∈ h, x ≠ 0) : ∀ b ∈ tb h, b ≠ 0 := by
  intro b hbm
  unfold tb at hbm
  obtain ⟨x, hx, rfl⟩ := List.mem_map.1 hbm
  exact byte_nz x (hb x hx).1 (hb x hx).2 (hz x hx)

theorem index_none (z : UInt8) : ∀ h : List UInt8, (∀ b ∈ h, b ≠ z) → Lib.index h [z] = -1
  | [], _ => by simp [Lib.index]
  | b :: h, hz => by
    have ih := index_none z h (fun x hx => hz x (by simp [hx]))
    have hb : b ≠ z := hz b (by simp)
    unfold Lib.index
    rw [ih]
    simp
    exact fun e => absurd e.symm hb

theorem kh_of (l : List UInt8) (m : Nat) (k : Int) (h : kh l m = k) (hk : k ≠ 0) : isK k = true ∧ cnh k m = l := by
  unfold kh at h
  split at h
  · subst h; exact ⟨rfl, by assumption⟩
  · split at h
    · subst h; exact ⟨rfl, by assumption⟩
    · split at h
      · subst h; exact ⟨rfl, by assumption⟩
      · split at h
        · subst h; exact ⟨rfl, by assumption⟩
        · exact absurd h.symm hk

theorem kh_zero (l : List UInt8) (m : Nat) (h : kh l m = 0) (k : Int) (hk : isK k = true) : cnh k m ≠ l := by
  have hc : k = 1 ∨ k = 2 ∨ k = 3 ∨ k = 4 := by
    unfold isK at hk
    simp at hk
    omega
  intro e
  unfold kh at h
  rcases hc with rfl | rfl | rfl | rfl <;> (simp [e] at h) <;> (repeat' split at h) <;> simp_all

theorem kof_wl2 (wd : List UInt8) (h : (kof wd).2 = true) : ∃ k, isK k = true ∧ wl k = wd ∧ kof wd = (k, true) := by
  unfold kof at *
  split at h
  · next h1 => exact ⟨1, rfl, h1, by rw [if_pos h1]⟩
  · next h1 =>
    split at h
    · next h2 => exact ⟨2, rfl, h2, by rw [if_neg h1, if_pos h2]⟩
    · next h2 =>
      split at h
      · next h3 => exact ⟨3, rfl, h3, by rw [if_neg h1, if_neg h2, if_pos h3]⟩
      · next h3 =>
        split at h
        · next h4 => exact ⟨4, rfl, h4, by rw [if_neg h1, if_neg h2, if_neg h3, if_pos h4]⟩
        · cases h

theorem mem_first (z : UInt8) : ∀ l : List UInt8, (∀ b ∈ l, b ≠ z) ∨ ∃ h r, l = h ++ z :: r ∧ ∀ x ∈ h, x ≠ z
  | [] => .inl (fun x hx => by cases hx)
  | b :: l => by
    by_cases hb : b = z
    · exact .inr ⟨[], l, by rw [hb]; rfl, fun x hx => by cases hx⟩
    · rcases mem_first z l with h | ⟨h, r, rfl, hz⟩
      · exact .inl (fun x hx => by rcases List.mem_cons.1 hx with rfl | hx; exact hb; exact h x hx)
      · exact .inr ⟨b :: h, r, rfl, fun x hx => by rcases List.mem_cons.1 hx with rfl | hx; exact hb; exact hz x hx⟩

theorem cut_none (z : UInt8) (h : List UInt8) (hz : ∀ b ∈ h, b ≠ z) : Lib.cut h [z] = (h, [], false) := by
  unfold Lib.cut
  rw [index_none z h hz, if_neg (by omega)]

/-- A head that is none is told by its word or by its digits. -/
theorem head_bad (l : List UInt8) (m : Nat) (h : kh l m = 0) : (kof (Lib.cut l [32]).1).2 = false ∨ (Lib.cut l [32]).2.1 ≠ Lib.decDigits m := by
  rcases mem_first 32 l with hz | ⟨a, r, rfl, hz⟩
  · refine .inr ?_
    rw [cut_none 32 l hz]
    intro e
    have := dec_frd m
    rw [← e] at this
    simp at this
  · rw [cut_first 32 a r hz]
    by_cases h1 : (kof a).2 = true
    · obtain ⟨k, hk, hw, _⟩ := kof_wl2 a h1
      refine .inr fun e => ?_
      refine kh_zero _ _ h k hk ?_
      show wl k ++ 32 :: Lib.decDigits m = _
      rw [hw]
      show a ++ 32 :: Lib.decDigits m = a ++ 32 :: r
      rw [← e]
    · exact .inl (by simpa using h1)

set_option maxRecDepth 100000 in
set_option maxHeartbeats 2000000 in
theorem open_bad (ao : Option Addr) (n c : Nat) (xs : List Int) (i : Nat) (a2 : Option Addr) (m c2 : Nat) (en : Bool) (wd sz : List UInt8) (bb : Bool) (w : World) (hg : Gs w) (hr : Rd w ao n c xs) (hn : n ≤ 1000000) (hi : i ≤ n) (hm : m ≤ 1000000)
    (hbc : Calls Tryz.prog 53 #[.slice ao n c, .slice (some ⟨w.heap.size, 0, none⟩) 1 1] (w.alloc (Obj.cells #[.int .u8 0] 5)) fun e w' => e = .returned (.tuple #[.slice ao i c, .slice a2 m c2, .bool en]) ∧ ∃ q, w' = (w.alloc (Obj.cells #[.int .u8 0] 5)).drewN q)
    (hcu : Lib.cut (tb (xs.take i)) [32] = (wd, sz, bb)) (hbad : en = false ∨ (kof wd).2 = false ∨ sz ≠ Lib.decDigits m) :
    Calls Tryz.prog 17 #[.slice ao n c] w fun e w' => e = .returned (.tuple #[.int .i64 0, .slice none 0 0, .int .i64 2]) ∧ Below w.heap.size w w' := by
  have b0 := new_below w (Obj.cells #[.int .u8 0] 5)
  have HHD : Hid (∀ W, Below w.heap.size w W → (convert 22 9 (.slice ao i c)).run Tryz.prog W = .ok (sv (tb (xs.take i))) W) := fun W hW => by
    have := ((hr.keep hW).front i (by omega)).str
    rw [tb_sv] at this
    exact this
  have HB0 : Hid (Below w.heap.size w (w.alloc (Obj.cells #[.int .u8 0] 5))) := b0
  have HG : Hid (∀ W, Below w.heap.size w W → Gs W) := fun W hW => hg.keep hW
  have hil : (tb (xs.take i)).length ≤ 1000000 := by rw [tb_len, List.length_take, hr.len]; omega
  have HCU : Hid (∀ W, Gs W → Calls Tryz.prog 54 #[sv (tb (xs.take i)), sv [32]] W fun e w' => e = .returned (.tuple #[sv wd, sv sz, .bool bb]) ∧ ∃ q, w' = W.drewN q) := fun W hW => by
    obtain ⟨m1, hm1⟩ := hW.most
    have h : Calls Tryz.prog 54 #[sv (tb (xs.take i)), sv [32]] W fun e w' => e = .returned (.tuple #[sv (Lib.cut (tb (xs.take i)) [32]).1, sv (Lib.cut (tb (xs.take i)) [32]).2.1, .bool (Lib.cut (tb (xs.take i)) [32]).2.2]) ∧ ∃ n, w' = W.drewN n := Any.strings_Cut Tryz.scut ⟨(tb (xs.take i)).toArray⟩ ⟨[32].toArray⟩ m1 W (by rw [size_sv]; omega) hm1
    rw [hcu] at h
    exact h
  have HIT : Hid (∀ W, Gs W → Calls Tryz.prog 49 #[.int .i64 m] W fun e w' => e = .returned (sv (Lib.decDigits m)) ∧ Below W.heap.size W w') := fun W hW => itoa_any m W hW (by omega)
  have HBAD : Hid (en = false ∨ (kof wd).2 = false ∨ sz ≠ Lib.decDigits m) := hbad
  generalize tb (xs.take i) = hd at *
  clear hg hr b0 hi hcu hn hil hm hbad
  go_enter Tryz.func17, Tryz.ntmps17
  go_wp2_with fail
  refine hbc.mono ?_
  rintro e w1 ⟨rfl, q1, hw1⟩
  have B1 : Below w.heap.size w w1 := by rw [hw1]; exact HB0.out.trans ((drewN_b _ _).mono HB0.out.size)
  have cv := HHD.out w1 B1
  have hcu := HCU.out w1 (HG.out w1 B1)
  have HB1 : Hid (Below w.heap.size w w1) := B1
  clear hbc hw1 B1
  go_wp2_with fail
  refine hcu.mono ?_
  rintro e w2 ⟨rfl, q2, hw2⟩
  have B2 : Below w.heap.size w w2 := by rw [hw2]; exact HB1.out.trans ((drewN_b _ _).mono HB1.out.size)
  have hko := kindOf_any wd w2 (HG.out w2 B2)
  have HB2 : Hid (Below w.heap.size w w2) := B2
  have hit := HIT.out w2 (HG.out w2 B2)
  obtain ⟨kk, hkk⟩ : ∃ x, x = kof wd := ⟨_, rfl⟩
  rw [← hkk] at hko
  have HKK : Hid (kk = kof wd) := hkk
  obtain ⟨dm, hdm⟩ : ∃ x, x = Lib.decDigits m := ⟨_, rfl⟩
  rw [← hdm] at hit
  have HDM : Hid (dm = Lib.decDigits m) := hdm
  clear hcu hw2 B2 cv hkk hdm
  go_wp2_with fail
  refine hko.mono ?_
  rintro e wz ⟨rfl, hwz⟩
  subst wz
  clear hko
  obtain ⟨k, ok⟩ := kk
  cases en with
  | false =>
    clear hit
    go_wp2
    go_ret3
    exact ⟨rfl, HB2.out⟩
  | true =>
    cases ok with
    | false =>
      clear hit
      go_wp2
      go_ret3
      exact ⟨rfl, HB2.out⟩
    | true =>
      have hne : sz ≠ dm := by
        rcases HBAD.out with h | h | h
        · cases h
        · rw [← HKK.out] at h; cases h
        · rw [HDM.out]; exact h
      have hn2 : (sz == dm) = false := by simp [hne]
      clear hne
      go_wp2_with fail
      refine hit.mono ?_
      rintro e w3 ⟨rfl, b3⟩
      have HB3 : Hid (Below w.heap.size w w3) := HB2.out.trans (b3.mono HB2.out.size)
      clear hit b3
      go_wp2
      go_ret3
      exact ⟨rfl, HB3.out⟩

theorem popen_any (ao : Option Addr) (n c : Nat) (xs : List Int) (w : World) (hg : Gs w) (hr : Rd w ao n c xs) (hn : n ≤ 1000000) :
    Calls Tryz.prog 17 #[.slice ao n c] w fun e w' => ∃ ao' N c', e = .returned (.tuple #[.int .i64 (opx xs).1, .slice ao' N c', .int .i64 (opx xs).2.2]) ∧ Rd w' ao' N c' (opx xs).2.1 ∧ Below w.heap.size w w' := by
  have b0 := new_below w (Obj.cells #[.int .u8 0] 5)
  have r0 := hr.keep b0
  obtain ⟨mm, hmm⟩ := (hg.keep b0).most
  have hcall := Any.bytes_Cut_all Tryz.bcut ao (some ⟨w.heap.size, 0, none⟩) n c 1 1 xs [0] mm (w.alloc (Obj.cells #[.int .u8 0] 5)) r0.len rfl r0.byt (by simp) r0.bytesIn (one_rd w 0 (by omega)).bytesIn (fun e => (r0.nul e).2) r0.le (by omega) (by omega) hmm
  have hbz : Lib.bytesOf [0] = [0] := by decide
  rcases zero_cases xs with hz | ⟨h, r, rfl, hz⟩
  · have hi : Lib.index (Lib.bytesOf xs) (Lib.bytesOf [0]) = -1 := by rw [hbz]; exact index_none 0 (tb xs) (tb_nz xs hr.byt hz)
    rw [hi] at hcall
    rw [opx_none xs hz]
    have hcu : Lib.cut (tb (xs.take n)) [32] = ((Lib.cut (tb (xs.take n)) [32]).1, (Lib.cut (tb (xs.take n)) [32]).2.1, (Lib.cut (tb (xs.take n)) [32]).2.2) := rfl
    refine (open_bad ao n c xs n none 0 0 false _ _ _ w hg hr hn (Nat.le_refl _) (by omega) (hcall.mono fun e w' ⟨h1, h2⟩ => ⟨by rw [h1]; rfl, h2⟩) hcu (.inl rfl)).mono ?_
    rintro e w' ⟨rfl, hb⟩
    exact ⟨none, 0, 0, rfl, Rd.nil _, hb⟩
  · have hby := hr.byt
    have hlen : n = h.length + 1 + r.length := by have := hr.len; rw [List.length_append, List.length_cons] at this; omega
    have hi : Lib.index (Lib.bytesOf (h ++ 0 :: r)) (Lib.bytesOf [0]) = (h.length : Int) := by
      rw [hbz]
      have : Lib.bytesOf (h ++ 0 :: r) = tb h ++ 0 :: tb r := by
        show tb (h ++ 0 :: r) = _
        simp [tb]
      rw [this, index_first 0 (tb r) (tb h) (tb_nz h (fun x hx => hby x (by simp [hx])) hz), tb_len]
    have htk : (h ++ 0 :: r).take h.length = h := by simp
    have hdr : (h ++ 0 :: r).drop (h.length + 1) = r := by rw [List.drop_append, List.drop_of_length_le (by omega)]; simp
    rw [opx_dec h r hz]
    unfold opn
    by_cases hk : kh (tb h) r.length = 0
    · rw [if_pos hk]
      rw [hi] at hcall
      have hbad := head_bad (tb h) r.length hk
      obtain ⟨a2, ha2⟩ : ∃ a2, a2 = (if c = h.length + 1 then ao else Option.map (fun x : Addr => x.add (h.length + 1)) ao) := ⟨_, rfl⟩
      refine (open_bad ao n c (h ++ 0 :: r) h.length a2 r.length (c - (h.length + 1)) true (Lib.cut (tb h) [32]).1 (Lib.cut (tb h) [32]).2.1 (Lib.cut (tb h) [32]).2.2 w hg hr hn (by omega) (by omega) (hcall.mono fun e w' ⟨h1, h2⟩ => ⟨?_, h2⟩) (by rw [htk]) (.inr hbad)).mono ?_
      · rw [h1]
        unfold Lib.cutV Lib.fromV
        rw [if_pos (by omega), Int.toNat_natCast, ← ha2, show n - (h.length + 1) = r.length by omega]
      · rintro e w' ⟨rfl, hb⟩
        exact ⟨none, 0, 0, rfl, Rd.nil _, hb⟩
    · rw [if_neg hk]
      obtain ⟨hk1, hk2⟩ := kh_of _ _ _ rfl hk
      have hcut : Lib.cut (tb ((h ++ 0 :: r).take h.length)) [32] = (wl (kh (tb h) r.length), Lib.decDigits r.length, true) := by
        rw [htk, ← hk2]
        have := cnh_cut (kh (tb h) r.length) r.length
        rw [hk2] at this ⊢
        exact this
      by_cases hl : 16384 < r.length
      · rw [if_pos hl]
        refine (open_long ao n c (h ++ 0 :: r) h.length r.length _ _ true _ w hg hr hn hi hlen hcut (kof_wl _ hk1) rfl hl).mono ?_
        rintro e w' ⟨rfl, hb⟩
        exact ⟨none, 0, 0, rfl, Rd.nil _, hb⟩
      · rw [if_neg hl]
        refine (open_ok ao n c (h ++ 0 :: r) h.length r.length _ _ true _ w hg hr hn hi hlen hcut (kof_wl _ hk1) rfl (by omega)).mono ?_
        rintro e w' ⟨v, rfl, ho, hb⟩
        rw [hdr] at ho
        obtain ⟨a3, c3, rfl, hr3, _⟩ := own_rd ho (fun x hx => hby x (by simp [hx]))
        exact ⟨a3, r.length, c3, rfl, hr3, hb⟩

end Go.Proofs.YtojgablpjdlegaaGreatDoor

/- Open of any bytes: the document's. -/
namespace Go.Proofs.YtojgablpjdlegaaGreatDoor
open Go.RowKit Go.Shelf

theorem getD_app0 (h r : List Int) (j : Nat) (hj : j < h.length) : (h ++ 0 :: r).getD j 0 = h.getD j 0 := by
  simp [List.getD, List.getElem?_append_left hj]

theorem getD_at0 (h r : List Int) : (h ++ 0 :: r).getD h.length 0 = 0 := by
  simp [List.getD]

/-- How far the document looks. -/
def stp (xs : List Int) : Nat := min 32 (xs.takeWhile (fun x => decide (x ≠ 0))).length

theorem tw_nz : ∀ (xs : List Int) (j : Nat), j < (xs.takeWhile (fun x => decide (x ≠ 0))).length → xs.getD j 0 ≠ 0
  | [], j, h => by simp at h
  | b :: l, j, h => by
    rw [List.takeWhile_cons] at h
    split at h
    · next hb =>
      cases j with
      | zero => simpa using hb
      | succ j => simpa using tw_nz l j (by simpa using h)
    · simp at h

theorem tw_end : ∀ (xs : List Int), (xs.takeWhile (fun x => decide (x ≠ 0))).length < xs.length → xs.getD (xs.takeWhile (fun x => decide (x ≠ 0))).length 0 = 0
  | [], h => by simp at h
  | b :: l, h => by
    rw [List.takeWhile_cons] at h ⊢
    split
    · next hb =>
      rw [if_pos hb] at h
      have := tw_end l (by simpa using h)
      simpa using this
    · next hb => simpa using hb

theorem tw_le (xs : List Int) : (xs.takeWhile (fun x => decide (x ≠ 0))).length ≤ xs.length := (List.takeWhile_sublist _).length_le

theorem cnh_len (k : Int) (m : Nat) (hm : m ≤ 1000000) : (cnh k m).length ≤ 14 := by
  have h1 := wl_len k
  have h2 := dec_le9 6 m (by omega)
  unfold cnh
  simp only [List.length_append, List.length_cons]
  omega

/-- Where a part of a slice begins. -/
def cutAt (ao : Option Addr) (c p : Nat) : Option Addr := if c = p then ao else Option.map (fun x => x.add p) ao

theorem Rd.part {w : World} {ao : Option Addr} {n c : Nat} {xs : List Int} (h : Rd w ao n c xs) (p m : Nat) (hs : p + m ≤ n) : Rd w (cutAt ao c p) m (c - p) ((xs.drop p).take m) := h.sub p m hs

theorem q_sub {ops : Array Oper} {o : Oper} {a : Act} {C : World → Prop} {K : Act → Prop} {E : Prop} (hw : Region.wanted o (yielded ops a.tmps) = true) (x : Operand) (lo hi : Option Operand) (ho : o.op = .slice 22 x lo hi none)
    {w0 : World} {ao : Option Addr} {n c : Nat} {ys : List Int} (h : Rd w0 ao n c ys) (p m : Nat) (hpm : p + m ≤ n) (hx : a.eval x = .slice ao n c)
    (hlo : lo.map a.eval = some (.int .i64 (p : Int)) ∨ lo.map a.eval = none ∧ p = 0) (hhi : hi.map a.eval = some (.int .i64 ((p + m : Nat) : Int)) ∨ hi.map a.eval = none ∧ p + m = n)
    (hk : K (a.put o.dst (.slice (cutAt ao c p) m (c - p)))) : if Region.wanted o (yielded ops a.tmps) = true then o.quiet Tryz.prog a C K else E := by
  rw [if_pos hw]
  refine ⟨_, fun w hC => ?_, hk⟩
  have hz : ∀ w, (sizeOf 5).run Tryz.prog w = .ok 1 w := fun w => by simp [go_sem]
  have hle := h.le
  have e1 : 0 ≤ ((p + m : Nat) : Int) ∧ ((p + m : Nat) : Int) ≤ (c : Int) := by omega
  have e2 : 0 ≤ (p : Int) ∧ (p : Int) ≤ ((p + m : Nat) : Int) := by omega
  have e3 : ((p + m : Nat) : Int).toNat = p + m := by omega
  have e4 : p + m - p = m := by omega
  have hrun : (Instr.slice 22 (.slice ao n c) (lo.map a.eval) (hi.map a.eval) none).run Tryz.prog w = .ok (.slice (cutAt ao c p) m (c - p)) w := by
    unfold Instr.slice Instr.sliceBounds cutAt
    rcases hlo with g1 | ⟨g1, rfl⟩ <;> rcases hhi with g2 | ⟨g2, rfl⟩ <;> rw [g1, g2] <;>
      simp only [run_underlying Tryz.underlying22, Instr.sliceBound, asIntOf, hz, Result.andThen_ok, Sem.run_bind, Sem.run_pure, if_pos e1, if_pos e2, e3, e4, Option.isSome_none, Int.toNat_natCast, Nat.mul_one, Nat.sub_zero]
  have hat : (Instr.sliceAt 22 (.slice ao n c) (lo.map a.eval) (hi.map a.eval) none).run Tryz.prog w = .ok (.slice (cutAt ao c p) m (c - p)) w := by
    unfold Instr.sliceAt
    simp only [Sem.run_bind, run_underlying Tryz.underlying22, Result.andThen_ok]
    exact hrun
  unfold Oper.quietAt execOp
  simp only [ho, hx, Sem.run_bind, Option.map_none, hat, Result.andThen_ok, Sem.run_pure]
  exact ⟨rfl, rfl⟩

theorem q_conv {ops : Array Oper} {o : Oper} {a : Act} {C : World → Prop} {K : Act → Prop} {E : Prop} (hw : Region.wanted o (yielded ops a.tmps) = true) (x : Operand) (ho : o.op = .convert 22 9 x) (u : Value) (hx : a.eval x = u) (v : Value)
    (hc : ∀ w, C w → (convert 22 9 u).run Tryz.prog w = .ok v w) (hk : K (a.put o.dst v)) : if Region.wanted o (yielded ops a.tmps) = true then o.quiet Tryz.prog a C K else E := by
  rw [if_pos hw]
  refine ⟨v, fun w hC => ?_, hk⟩
  have h := hc w hC
  unfold Oper.quietAt execOp
  simp only [ho, hx]
  simp [h, Oper.quietUpon]

theorem cf16 (vs : Array Value) (w : World) : (callFunc 16 vs).run Tryz.prog w = .ok (.enter 16 vs) w := by simp [go_sem]
theorem cf50 (vs : Array Value) (w : World) : (callFunc 50 vs).run Tryz.prog w = .ok (.enter 50 vs) w := by simp [go_sem]

theorem kh_found (H : List UInt8) (m k : Nat) (h1 : 1 ≤ k) (h4 : k ≤ 4) (he : cnh k m = H) (hn : ∀ j : Nat, 1 ≤ j → j < k → cnh j m ≠ H) : kh H m = k := by
  unfold kh
  rcases (by omega : k = 1 ∨ k = 2 ∨ k = 3 ∨ k = 4) with rfl | rfl | rfl | rfl
  · rw [if_pos (show cnh 1 m = H from he)]; rfl
  · rw [if_neg (show cnh 1 m ≠ H from hn 1 (by omega) (by omega)), if_pos (show cnh 2 m = H from he)]; rfl
  · rw [if_neg (show cnh 1 m ≠ H from hn 1 (by omega) (by omega)), if_neg (show cnh 2 m ≠ H from hn 2 (by omega) (by omega)), if_pos (show cnh 3 m = H from he)]; rfl
  · rw [if_neg (show cnh 1 m ≠ H from hn 1 (by omega) (by omega)), if_neg (show cnh 2 m ≠ H from hn 2 (by omega) (by omega)), if_neg (show cnh 3 m ≠ H from hn 3 (by omega) (by omega)), if_pos (show cnh 4 m = H from he)]; rfl

theorem kh_none (H : List UInt8) (m : Nat) (hn : ∀ j : Nat, 1 ≤ j → j < 5 → cnh j m ≠ H) : kh H m = 0 := by
  unfold kh
  rw [if_neg (show cnh 1 m ≠ H from hn 1 (by omega) (by omega)), if_neg (show cnh 2 m ≠ H from hn 2 (by omega) (by omega)), if_neg (show cnh 3 m ≠ H from hn 3 (by omega) (by omega)), if_neg (show cnh 4 m ≠ H from hn 4 (by omega) (by omega))]

theorem opx_far (xs : List Int) (S : Nat) (hS : S = stp xs) (h32 : S = 32) (hn : S < xs.length) (hx : xs.getD S 0 ≠ 0) (hb : ∀ x ∈ xs, 0 ≤ x ∧ x < 256) (hl : xs.length ≤ 1000000) : opx xs = (0, [], 2) := by
  rcases zero_cases xs with hz | ⟨h, r, rfl, hz⟩
  · exact opx_none xs hz
  · rw [opx_dec h r hz]
    unfold opn
    have hlen : 32 < h.length := by
      unfold stp at hS
      rw [tw_dec h r hz] at hS
      rcases Nat.lt_or_ge 32 h.length with h1 | h1
      · exact h1
      · exfalso
        have : S = h.length := by omega
        rw [this, getD_at0] at hx
        exact hx rfl
    rw [if_pos]
    rcases Decidable.em (kh (tb h) r.length = 0) with h0 | h0
    · exact h0
    · obtain ⟨_, h2⟩ := kh_of _ _ _ rfl h0
      have h3 := cnh_len (kh (tb h) r.length) r.length (by rw [List.length_append, List.length_cons] at hl; omega)
      rw [h2, tb_len] at h3
      omega

set_option maxRecDepth 100000 in
set_option maxHeartbeats 4000000 in
theorem ropen_pos (b off : Nat) (n c : Nat) (xs : List Int) (w : World) (hr : Rd w (some ⟨b, off, none⟩) n c xs) (hn : n ≤ 1000000) (hpos : 0 < n) :
    Calls Tryz.prog 18 #[.slice (some ⟨b, off, none⟩) n c] w fun e w' => ∃ ao' N c', e = .returned (.tuple #[.int .i64 (opx xs).1, .slice ao' N c', .int .i64 (opx xs).2.2]) ∧ Rd w' ao' N c' (opx xs).2.1 ∧ Below w.heap.size w w' := by
  obtain ⟨S, hS⟩ : ∃ S, S = stp xs := ⟨_, rfl⟩
  have hlen := hr.len
  have htl := tw_le xs
  have hSn : S ≤ n := by unfold stp at hS; omega
  have hS32 : S ≤ 32 := by unfold stp at hS; omega
  have hnz : ∀ j, j < S → xs.getD j 0 ≠ 0 := fun j hj => tw_nz xs j (by unfold stp at hS; omega)
  have hcell : ∀ j, j < n → w.cell? ⟨b, off + j, none⟩ = some (.int .u8 (xs.getD j 0)) := fun j hj => by have := hr.cells _ rfl j hj; simpa [Addr.add_lit] using this
  have hend : S = n ∨ (S < n ∧ xs.getD S 0 = 0) ∨ (S < n ∧ xs.getD S 0 ≠ 0 ∧ S = 32) := by
    rcases Nat.lt_or_ge S n with h | h
    · refine .inr ?_
      by_cases h0 : xs.getD S 0 = 0
      · exact .inl ⟨h, h0⟩
      · refine .inr ⟨h, h0, ?_⟩
        have h1 := tw_end xs
        unfold stp at hS
        rcases Nat.lt_or_ge (xs.takeWhile (fun x => decide (x ≠ 0))).length 32 with h2 | h2
        · exfalso
          have h3 : S = (xs.takeWhile (fun x => decide (x ≠ 0))).length := by omega
          rw [h3] at h0
          exact h0 (h1 (by omega))
        · omega
    · exact .inl (by omega)
  have HF : Hid (∀ j, j < S → xs.getD j 0 ≠ 0) := hnz
  have HC : Hid (∀ j, j < n → w.cell? ⟨b, off + j, none⟩ = some (.int .u8 (xs.getD j 0))) := hcell
  have HE : Hid (S = n ∨ (S < n ∧ xs.getD S 0 = 0) ∨ (S < n ∧ xs.getD S 0 ≠ 0 ∧ S = 32)) := hend
  have HS : Hid (S = stp xs ∧ S ≤ n ∧ S ≤ 32 ∧ n ≤ 1000000 ∧ xs.length = n) := ⟨hS, hSn, hS32, hn, hlen⟩
  have HR : Hid (Rd w (some ⟨b, off, none⟩) n c xs) := hr
  clear hS hlen htl hSn hS32 hnz hcell hend hr hn hpos
  go_enter Tryz.func18, Tryz.ntmps18
  go_wp2_with fail
  go_loopw [5] (fun iv wr => wr = w ∧ ∃ j : Nat, j ≤ S ∧ iv = .int .i64 (j : Int)) (fun iv _ => S - (intOf iv).toNat)
  case atStart => exact ⟨rfl, 0, by omega, rfl⟩
  case round =>
    obtain ⟨hwr, j, hj, rfl⟩ := hrel
    subst wr
    by_cases hjS : j < S
    · have cj := HC.out j (by have := HS.out; omega)
      have zj := HF.out j hjS
      obtain ⟨z, hz⟩ : ∃ z, z = xs.getD j 0 := ⟨_, rfl⟩
      rw [← hz] at cj zj
      have z1 : (z == 0) = false := by simp [zj]
      have z2 : (z != 0) = true := by simp [zj]
      have e1 : decide ((j : Int) < n) = true := by have := HS.out; simp; omega
      have e2 : decide (j < n) = true := by have := HS.out; simp; omega
      have e3 : decide ((j : Int) < 32) = true := by have := HS.out; simp; omega
      have e4 : decide (j < 32) = true := by have := HS.out; simp; omega
      have x1 : (j : Int) < n := by have := HS.out; omega
      have x2 : j < n := by have := HS.out; omega
      have y1 : IntKind.i64.wrap ((j : Int) + 1) = (j : Int) + 1 := by rw [IntKind.wrap_i64]; have := HS.out; omega
      have HJ : Hid (j + 1 ≤ S) := hjS
      clear hz zj hjS hj
      go_wp2
      go_roundw
      case measure => have := HJ.out; simp [intOf]; omega
      case rel => exact ⟨trivial, j + 1, HJ.out, by simp⟩
    · have hjS' : j = S := by omega
      have HJS : Hid (j = S) := hjS'
      have y1 : IntKind.i64.wrap ((j : Int) + 1) = (j : Int) + 1 := by rw [IntKind.wrap_i64]; have := HS.out; omega
      rcases HE.out with h | ⟨h, h0⟩ | ⟨h, h0, h32⟩
      · have ho : opx xs = (0, [], 2) := by
          refine opx_none xs fun x hx => ?_
          obtain ⟨i, hi, rfl⟩ := List.mem_iff_getElem.1 hx
          have := HF.out i (by have := HS.out; omega)
          simpa [List.getD, hi] using this
        have HO : Hid (opx xs = (0, [], 2)) := ho
        have hjn : j = n := by omega
        subst hjn
        clear HJS hjS' hjS hj h ho
        go_wp2
        go_ret3
        refine ⟨none, 0, 0, ?_, ?_, Below.refl _ _⟩
        · rw [HO.out]; rfl
        · rw [HO.out]; exact Rd.nil _
      · obtain ⟨m, hm⟩ : ∃ m, m = n - (S + 1) := ⟨_, rfl⟩
        obtain ⟨H, hH⟩ : ∃ H, H = xs.take S := ⟨_, rfl⟩
        obtain ⟨r, hr⟩ : ∃ r, r = xs.drop (S + 1) := ⟨_, rfl⟩
        have hxs : xs = H ++ 0 :: r := by
          rw [hH, hr]
          have hlt : S < xs.length := by have := HS.out; omega
          have h1 : xs[S] = 0 := by simpa [List.getD, hlt] using h0
          rw [← h1, ← List.drop_eq_getElem_cons hlt, List.take_append_drop]
        have hHl : H.length = S := by rw [hH, List.length_take]; have := HS.out; omega
        have hrl : r.length = m := by rw [hr, List.length_drop]; have := HS.out; omega
        have hHz : ∀ x ∈ H, x ≠ 0 := fun x hx => by
          obtain ⟨i, hi, rfl⟩ := List.mem_iff_getElem.1 hx
          have h1 := HF.out i (by omega)
          rw [hxs, getD_app0 H r i hi] at h1
          simpa [List.getD, hi] using h1
        have HO : Hid (opx xs = opn H r) := by show opx xs = _; rw [hxs]; exact opx_dec H r hHz
        have HRL : Hid (r.length = m ∧ m ≤ 1000000 ∧ j + 1 + m = n ∧ j ≤ 32) := ⟨hrl, by have := HS.out; omega, by omega, by have := HS.out; omega⟩
        have HRB : Hid (∀ x ∈ r, 0 ≤ x ∧ x < 256) := fun x hx => HR.out.byt x (by rw [hxs]; simp [hx])
        have cj := HC.out j (by omega)
        rw [hjS', h0] at cj
        rw [← hjS'] at cj
        have htk : xs.take j = H := by rw [hjS', hH]
        have hdr : (xs.drop (j + 1)).take m = r := by rw [hjS', ← hr, List.take_of_length_le (by omega)]
        have HTK : Hid (xs.take j = H ∧ (xs.drop (j + 1)).take m = r) := ⟨htk, hdr⟩
        have e1 : decide ((j : Int) < n) = true := by simp; omega
        have e2 : decide (j < n) = true := by simp; omega
        have e5 : ((j : Int) == (n : Int)) = false := by simp; omega
        have x1 : (j : Int) < n := by omega
        have x2 : j < n := by omega
        have hjn : j + 1 + m ≤ n := by omega
        clear y1
        obtain ⟨P, hP⟩ : ∃ P, P = j + 1 := ⟨_, rfl⟩
        have y1 : IntKind.i64.wrap ((j : Int) + 1) = (P : Int) := by rw [IntKind.wrap_i64]; have := HS.out; omega
        rw [← hP] at hjn
        have HP : Hid (P = j + 1) := hP
        clear HJS hjS' hjS hj h h0 hm hH hr hxs hHl hrl hHz htk hdr hP
        go_wp2_with (refine wpList_sub rfl _ _ _ rfl HR.out P m hjn rfl (.inl rfl) (.inr ⟨rfl, by have := HP.out; have := HRL.out; omega⟩) ?_; intro a2 c2 rd2 _)
        rw [HP.out, HTK.out.2] at rd2
        have HR2 : Hid (Rd w a2 m c2 r) := rd2
        clear rd2 x1 x2 hjn e1 e2 e5 cj y1
        go_wp2_with fail
        go_loopw [7] (fun kv wr => Below w.heap.size w wr ∧ ∃ k : Nat, kv = .int .i64 (k : Int) ∧ Hid (1 ≤ k ∧ k ≤ 5 ∧ ∀ i : Nat, 1 ≤ i → i < k → cnh i m ≠ tb H)) (fun kv _ => 5 - (intOf kv).toNat)
        case atStart => exact ⟨Below.refl _ _, 1, rfl, by omega, by omega, fun i h1 h2 => by omega⟩
        case round =>
          obtain ⟨hb, k, rfl, HK⟩ := hrel
          have HB : Hid (Below w.heap.size w wr) := hb
          clear hb
          by_cases hk4 : k ≤ 4
          · have e1 : decide ((k : Int) ≤ 4) = true := by simp; omega
            have e2 : decide (k ≤ 4) = true := by simp; omega
            obtain ⟨y0, hy0⟩ : ∃ y, y = wl k := ⟨_, rfl⟩
            obtain ⟨dd, hdd⟩ : ∃ y, y = Lib.decDigits m := ⟨_, rfl⟩
            obtain ⟨y1, hy1⟩ : ∃ y, y = y0 ++ [32] := ⟨_, rfl⟩
            obtain ⟨y2, hy2⟩ : ∃ y, y = y1 ++ dd := ⟨_, rfl⟩
            have hcn : cnh k m = y2 := by rw [hy2, hy1, hy0, hdd]; unfold cnh; simp
            have hwl := wl_len k
            have hdl := dec_le9 6 m (by have := HRL.out; omega)
            rw [← hy0] at hwl
            rw [← hdd] at hdl
            have l1 : y1.length = y0.length + 1 := by rw [hy1]; simp
            have q1 : (9223372036854775807 < y0.length + 1) = False := by simp; omega
            have q2 : (9223372036854775807 < y1.length + dd.length) = False := by simp; omega
            have cc1 : (⟨y0.toArray⟩ ++ ⟨#[32]⟩ : ByteArray) = ⟨y1.toArray⟩ := by rw [hy1]; exact cat_sv y0 [32]
            have cc2 : (⟨y1.toArray⟩ ++ ⟨dd.toArray⟩ : ByteArray) = ⟨y2.toArray⟩ := by rw [hy2]; exact cat_sv y1 dd
            have HW : Hid (∀ W, Below wr.heap.size wr W → Calls Tryz.prog 16 #[.int .i64 (k : Int)] W fun e w' => e = .returned (sv y0) ∧ Below wr.heap.size wr w') := fun W hW => (rword_any k W).mono (fun e w' ⟨h1, h2⟩ => ⟨by rw [h1, hy0], by rw [h2]; exact hW⟩)
            have HD : Hid (∀ W, Below wr.heap.size wr W → Calls Tryz.prog 50 #[.int .i64 (m : Int)] W fun e w' => e = .returned (sv dd) ∧ Below wr.heap.size wr w') := fun W hW => (rdec_any m W (by have := HRL.out; omega)).mono (fun e w' ⟨h1, h2⟩ => ⟨by rw [h1, hdd], hW.trans (h2.mono hW.size)⟩)
            have HCV : Hid (∀ W, Below wr.heap.size wr W → (convert 22 9 (.slice (cutAt (some ⟨b, off, none⟩) c 0) j (c - 0))).run Tryz.prog W = .ok (sv (tb H)) W) := fun W hW => by
              have h1 := ((HR.out.keep (HB.out.trans (hW.mono HB.out.size))).part 0 j (by have := HRL.out; omega)).str
              rw [tb_sv, List.drop_zero, HTK.out.1] at h1
              exact h1
            have HSL := HR.out
            have hpj : 0 + j ≤ n := by have := HRL.out; omega
            have HCN : Hid (cnh k m = y2) := hcn
            have HK4 : Hid (k ≤ 4) := hk4
            clear hcn hwl hdl l1 hy0 hdd hy1 hy2 hk4
            obtain ⟨G, hG⟩ : ∃ G, G = tb H := ⟨_, rfl⟩
            have HG : Hid (G = tb H) := hG
            rw [← hG] at HCV
            clear hG
            obtain ⟨bq, hbq⟩ : ∃ bq, bq = (G == y2) := ⟨_, rfl⟩
            have hbq2 : (G == y2) = bq := hbq.symm
            clear hbq
            go_wp2_with fail
            refine wp_region_quiet (C := fun V => Below wr.heap.size wr V) (by kernel_rfl) (by kernel_rfl) (Below.refl _ _).drew ?_
            refine wpQuiet_step (fun K hK => ?_)
            (go_simp; refine ⟨_, fun wq hs => rfl, hK _ ?_⟩; clear hK K)
            refine wpQuiet_step (fun K hK => ?_)
            (go_simp; refine ⟨_, fun wq hs => rfl, hK _ ?_⟩; clear hK K)
            refine wpQuiet_step (fun K hK => ?_)
            (refine q_sub (by rfl) _ _ _ rfl HSL 0 j hpj rfl (.inr ⟨rfl, rfl⟩) (.inl (by rw [Nat.zero_add]; rfl)) (hK _ ?_); clear hK K)
            refine wpQuiet_step (fun K hK => ?_)
            (refine q_conv (by rfl) _ rfl (.slice (cutAt (some ⟨b, off, none⟩) c 0) j (c - 0)) rfl (sv G) (fun wq hs => HCV.out wq hs) (hK _ ?_); clear hK K)
            refine wpQuiet_step (fun K hK => ?_)
            (go_simp; refine ⟨_, fun wq hs => rfl, hK _ ?_⟩; clear hK K)
            refine wpQuiet_step (fun K hK => ?_)
            (refine q_call1 (by rfl) 16 cf16 _ _ rfl (.int .i64 (k : Int)) rfl (sv y0) (fun wq hs => HW.out wq hs) (hK _ ?_); clear hK K)
            refine wpQuiet_step (fun K hK => ?_)
            (go_simp; refine ⟨_, fun wq hs => rfl, hK _ ?_⟩; clear hK K)
            refine wpQuiet_step (fun K hK => ?_)
            (go_simp; refine ⟨_, fun wq hs => rfl, hK _ ?_⟩; clear hK K)
            refine wpQuiet_step (fun K hK => ?_)
            (go_simp; refine ⟨_, fun wq hs => rfl, hK _ ?_⟩; clear hK K)
            refine wpQuiet_step (fun K hK => ?_)
            (refine q_call1 (by rfl) 50 cf50 _ _ rfl (.int .i64 (m : Int)) rfl (sv dd) (fun wq hs => HD.out wq hs) (hK _ ?_); clear hK K)
            refine wpQuiet_step (fun K hK => ?_)
            (go_simp; refine ⟨_, fun wq hs => rfl, hK _ ?_⟩; clear hK K)
            refine wpQuiet_step (fun K hK => ?_)
            (go_simp; refine ⟨_, fun wq hs => rfl, hK _ ?_⟩; clear hK K)
            refine wpQuiet_nil ?_
            intro w1 hB1
            have HB1 : Hid (Below w.heap.size w w1) := HB.out.trans (hB1.mono HB.out.size)
            clear hB1 HW HD HCV
            cases bq with
            | true =>
              have hGy : G = y2 := by simpa using hbq2
              have HKH : Hid (kh (tb H) r.length = k ∧ (k : Int) ≠ 0) := ⟨by rw [HRL.out.1]; exact kh_found _ _ k HK.out.1 HK4.out (by rw [HCN.out, ← hGy, HG.out]) HK.out.2.2, by have := HK.out.1; omega⟩
              clear hGy hbq2
              by_cases hl : 16384 < m
              · have d1 : decide ((16384 : Int) < m) = true := by simp; omega
                have d2 : decide (16384 < m) = true := by simp [hl]
                have HL : Hid (16384 < m) := hl
                clear hl
                go_wp2
                go_ret3
                have ho : opx xs = (0, [], 5) := by
                  rw [HO.out]
                  unfold opn
                  rw [HKH.out.1, if_neg HKH.out.2, if_pos (by rw [HRL.out.1]; exact HL.out)]
                refine ⟨none, 0, 0, ?_, ?_, HB1.out⟩
                · rw [ho]; rfl
                · rw [ho]; exact Rd.nil _
              · have d1 : decide ((16384 : Int) < m) = false := by simp; omega
                have d2 : decide (16384 < m) = false := by simp; omega
                have HL : Hid (¬ 16384 < m) := hl
                have HRA : Hid (Rd (w1.alloc (Obj.cells #[] 5)) a2 m c2 r) := HR2.out.keep (HB1.out.trans ((new_below w1 _).mono HB1.out.size) |>.mono (Nat.le_refl _))
                have HML : Hid (0 + m ≤ 140737488355328) := by have := HRL.out; show 0 + m ≤ _; omega
                clear hl
                go_wp2_with (refine wpList_append_rd rfl _ _ rfl w1.heap.size w1.heap.size 0 0 [] rfl (none_own w1 w1.heap.size (Nat.le_refl _)) a2 m c2 r rfl HRA.out HML.out (by simp) ?_; intro g3 cap3 w3 own3 gr3)
                go_ret3
                have ho : opx xs = ((k : Int), r, 0) := by
                  rw [HO.out]
                  unfold opn
                  rw [HKH.out.1, if_neg HKH.out.2, if_neg (by rw [HRL.out.1]; exact HL.out)]
                refine ⟨some ⟨g3, 0, none⟩, m, cap3, ?_, ?_, ?_⟩
                · rw [ho]; rfl
                · rw [ho]; exact Rd.ofOwn (by simpa using own3) HRB.out
                · exact (HB1.out.trans ((new_below w1 _).mono HB1.out.size)).grown gr3 (Nat.le_trans HB1.out.size (by simp)) (fun q hq => by cases hq; exact HB1.out.size)
            | false =>
              have HNK : Hid (cnh k m ≠ tb H) := fun e => by
                rw [HCN.out, ← HG.out] at e
                rw [e] at hbq2
                simp at hbq2
              have y5 : IntKind.i64.wrap ((k : Int) + 1) = (k : Int) + 1 := by rw [IntKind.wrap_i64]; have := HK4.out; omega
              go_wp2
              go_roundw
              case measure => have := HK4.out; simp [intOf]; omega
              case rel => exact ⟨HB1.out, k + 1, by simp, by omega, by have := HK4.out; omega, fun i h1 h2 => by
                rcases Nat.lt_or_ge i k with h3 | h3
                · exact HK.out.2.2 i h1 h3
                · obtain rfl : i = k := by omega
                  exact HNK.out⟩
          · have e1 : decide ((k : Int) ≤ 4) = false := by simp; omega
            have e2 : decide (k ≤ 4) = false := by simp; omega
            have ho : opx xs = (0, [], 2) := by
              rw [HO.out]
              unfold opn
              rw [if_pos]
              rw [HRL.out.1]
              exact kh_none _ _ (fun i h1 h2 => HK.out.2.2 i h1 (by omega))
            have HO2 : Hid (opx xs = (0, [], 2)) := ho
            clear hk4 ho
            go_wp2
            go_ret3
            refine ⟨none, 0, 0, ?_, ?_, HB.out⟩
            · rw [HO2.out]; rfl
            · rw [HO2.out]; exact Rd.nil _
      · have ho : opx xs = (0, [], 2) := opx_far xs S HS.out.1 h32 (by have := HS.out; omega) h0 HR.out.byt (by have := HS.out; omega)
        have HO : Hid (opx xs = (0, [], 2)) := ho
        have cj := HC.out j (by omega)
        rw [← hjS'] at h0
        obtain ⟨z, hz⟩ : ∃ z, z = xs.getD j 0 := ⟨_, rfl⟩
        rw [← hz] at cj h0
        have z1 : (z == 0) = false := by simp [h0]
        have z2 : (z != 0) = true := by simp [h0]
        have e1 : decide ((j : Int) < n) = true := by simp; omega
        have e2 : decide (j < n) = true := by simp; omega
        have e3 : decide ((j : Int) < 32) = false := by simp; omega
        have e4 : decide (j < 32) = false := by simp; omega
        have e5 : ((j : Int) == (n : Int)) = false := by simp; omega
        have x1 : (j : Int) < n := by omega
        have x2 : j < n := by omega
        clear HJS hjS' hjS hj h h32 ho hz h0
        go_wp2
        go_ret3
        refine ⟨none, 0, 0, ?_, ?_, Below.refl _ _⟩
        · rw [HO.out]; rfl
        · rw [HO.out]; exact Rd.nil _

end Go.Proofs.YtojgablpjdlegaaGreatDoor
