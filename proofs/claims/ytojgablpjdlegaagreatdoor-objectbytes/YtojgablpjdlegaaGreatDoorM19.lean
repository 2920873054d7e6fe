/- ObQ, ObR, ObS, ObT, NwU, ObU, OrM. -/
import Derived.Test.YtojgablpjdlegaaGreatDoorM18
import Derived.Test.YtojgablpjdlegaaGreatDoorM14
import Derived.Test.YtojgablpjdlegaaGreatDoorM10
import Derived.Test.YtojgablpjdlegaaGreatDoorM05
/- Canonical bytes, and the name of an object. -/
namespace Go.Proofs.YtojgablpjdlegaaGreatDoor
open Go.RowKit

theorem wpList_cv {ops : Array Oper} {rest : List Oper} {op : Oper} {a : Act} {w : World} {Q : Exit → Act → World → Prop} (hgd : op.guard = none) (x : Operand) (ho : op.op = .convert 9 22 x) (l : List UInt8) (hx : a.eval x = sv l)
    (hk : ∀ W, W = Lib.bytesWorld w 5 ⟨l.toArray⟩ → wpList Tryz.prog ops Q rest (a.put op.dst (.slice (some ⟨w.heap.size, 0, none⟩) l.length (grownCap w l.length 0 5))) W) : wpList Tryz.prog ops Q (op :: rest) a w := by
  refine wpList_plain hgd fun K hK => ?_
  have h := Lib.run_convert_string_bytes (P := Tryz.prog) w 9 22 5 ⟨l.toArray⟩ Tryz.underlying9 Tryz.underlying22 Tryz.underlying5
  rw [size_sv] at h
  unfold Oper.wp
  simp only [execOp, ho, hx, Sem.run_bind, h, Result.andThen_ok, Sem.run_pure]
  exact hK _ _ (hk _ rfl)

theorem wpList_appB {w W : World} {ops : Array Oper} {rest : List Oper} {o : Oper} {a : Act} {Q : Exit → Act → World → Prop} (l : List UInt8) (hW : W = Lib.bytesWorld w 5 ⟨l.toArray⟩) (hgd : o.guard = none) (s x : Operand)
    (ho : o.op = .call { callee := .builtin .append, args := #[s, x], argTypes := #[22, 22] })
    (ao : Option Addr) (m c : Nat) (ys : List Int) (hs : a.eval s = .slice (some ⟨w.heap.size, 0, none⟩) l.length (grownCap w l.length 0 5)) (hx : a.eval x = .slice ao m c) (hr : Rd (Lib.bytesWorld w 5 ⟨l.toArray⟩) ao m c ys) (hn : l.length + m ≤ 100000000)
    (h : ∀ g cap w', Rd w' (some ⟨g, 0, none⟩) (l.length + m) cap (tn l ++ ys) → Below w.heap.size w w' → w.heap.size ≤ g → wpList Tryz.prog ops Q rest (a.put o.dst (.slice (some ⟨g, 0, none⟩) (l.length + m) cap)) w') :
    wpList Tryz.prog ops Q (o :: rest) a W := by
  subst hW
  obtain ⟨g, cap, w', hrun, h1, h2, h3⟩ := run_appB o.type w l ao m c ys hr hn
  refine wpList_plain hgd fun K hK => ?_
  unfold Oper.wp
  simp [execOp, ho, resolve, invoke, builtin, hs, hx, hrun, Result.andThen]
  exact hK _ _ (h g cap w' h1 h2 h3)

/-- What stands ahead of an object's bytes. -/
def cnl (k : Int) (n : Nat) : List UInt8 := wl k ++ [32] ++ Lib.decDigits n ++ [0]

theorem wl_len (k : Int) : (wl k).length ≤ 6 := by
  unfold wl wrd
  split
  · decide
  · split
    · decide
    · split
      · decide
      · split <;> decide

set_option maxRecDepth 100000 in
set_option maxHeartbeats 1000000 in
theorem canon_any (k : Int) (hk : isK k = true) (ao : Option Addr) (n c : Nat) (xs : List Int) (w : World) (hg : Gs w) (hr : Rd w ao n c xs) (hn : n ≤ 1000000) (hd : (Lib.decDigits n).length ≤ 100) :
    Calls Tryz.prog 11 #[.int .i64 k, .slice ao n c] w fun e w' => ∃ g cap, e = .returned (.slice (some ⟨g, 0, none⟩) ((cnl k n).length + n) cap) ∧ Rd w' (some ⟨g, 0, none⟩) ((cnl k n).length + n) cap (tn (cnl k n) ++ xs) ∧ w.heap.size ≤ g ∧ Below w.heap.size w w' := by
  have hik := isKind_any k w hg
  rw [hk] at hik
  have hwd := word_sv k w hg
  have hit := itoa_any n w hg (by omega)
  have hwl := wl_len k
  obtain ⟨y0, hy0⟩ : ∃ y, y = wl k := ⟨_, rfl⟩
  obtain ⟨dd, hdd⟩ : ∃ y, y = Lib.decDigits n := ⟨_, rfl⟩
  obtain ⟨y1, hy1⟩ : ∃ y, y = y0 ++ [32] := ⟨_, rfl⟩
  obtain ⟨y2, hy2⟩ : ∃ y, y = y1 ++ dd := ⟨_, rfl⟩
  obtain ⟨y3, hy3⟩ : ∃ y, y = y2 ++ [0] := ⟨_, rfl⟩
  have hc : cnl k n = y3 := by rw [hy3, hy2, hy1, hy0, hdd]; rfl
  rw [hc]
  rw [← hy0] at hwd hwl
  rw [← hdd] at hit hd
  have l1 : y1.length = y0.length + 1 := by rw [hy1]; simp
  have l2 : y2.length = y1.length + dd.length := by rw [hy2]; simp
  have l3 : y3.length = y2.length + 1 := by rw [hy3]; simp
  have q1 : (9223372036854775807 < y0.length + 1) = False := by simp; omega
  have q2 : (9223372036854775807 < y1.length + dd.length) = False := by simp; omega
  have q3 : (9223372036854775807 < y2.length + 1) = False := by simp; omega
  have hy3b : y3.length ≤ 200 := by omega
  have e1 : (⟨y0.toArray⟩ ++ ⟨#[32]⟩ : ByteArray) = ⟨y1.toArray⟩ := by rw [hy1]; exact cat_sv y0 [32]
  have e2 : (⟨y1.toArray⟩ ++ ⟨dd.toArray⟩ : ByteArray) = ⟨y2.toArray⟩ := by rw [hy2]; exact cat_sv y1 dd
  have e3 : (⟨y2.toArray⟩ ++ ⟨#[0]⟩ : ByteArray) = ⟨y3.toArray⟩ := by rw [hy3]; exact cat_sv y2 [0]
  have HR : Hid (Rd w ao n c xs) := hr
  clear hg hr hc hy0 hdd hy1 hy2 hy3 l1 l2 l3 hk hd hwl
  go_enter Tryz.func11, Tryz.ntmps11
  go_wp2_with fail
  refine hik.mono ?_
  rintro e wz ⟨rfl, hwz⟩
  subst wz
  clear hik
  go_wp2_with fail
  refine hwd.mono ?_
  rintro e wz ⟨rfl, hwz⟩
  subst wz
  clear hwd
  go_wp2_with fail
  refine hit.mono ?_
  rintro e w1 ⟨rfl, b1⟩
  have HB1 : Hid (Below w.heap.size w w1) := b1
  have HR1 : Hid (Rd (Lib.bytesWorld w1 5 ⟨y3.toArray⟩) ao n c xs) := (HR.out.keep b1).keep (bytes_b w1 5 ⟨y3.toArray⟩)
  clear hit b1
  go_wp2_with (first
    | (refine wpList_appB (w := w1) (W := W1) y3 hW1.out rfl _ _ rfl ao n c xs rfl rfl HR1.out (by omega) ?_; intro g cap w2 r2 b2 hg2)
    | (refine wpList_cv rfl _ rfl y3 rfl ?_; intro W1 hW1'; have hW1 : Hid (W1 = Lib.bytesWorld w1 5 ⟨y3.toArray⟩) := hW1'; clear hW1'))
  go_ret
  exact ⟨g, cap, rfl, r2, Nat.le_trans HB1.out.size hg2, HB1.out.trans (b2.mono HB1.out.size)⟩

end Go.Proofs.YtojgablpjdlegaaGreatDoor

/- The name of an object; a blob of one byte opened. -/
namespace Go.Proofs.YtojgablpjdlegaaGreatDoor
open Go.RowKit

set_option maxRecDepth 100000 in
set_option maxHeartbeats 1000000 in
theorem objID_any (k : Int) (hk : isK k = true) (ao : Option Addr) (n c : Nat) (xs : List Int) (w : World) (hg : Gs w) (hr : Rd w ao n c xs) (hn : n ≤ 1000000) (hd : (Lib.decDigits n).length ≤ 100) :
    Calls Tryz.prog 13 #[.int .i64 k, .slice ao n c] w fun e w' => e = .returned (Sha.sv (tn (cnl k n) ++ xs)) ∧ Below w.heap.size w w' := by
  have b0 := new_below w (Obj.cells zcs 27)
  have hca := canon_any k hk ao n c xs (w.alloc (Obj.cells zcs 27)) (hg.keep b0) (hr.keep b0) hn hd
  have HZ : Hid ((w.alloc (Obj.cells zcs 27)).rowIs w.heap.size 27 20 (cl z20)) := z_row w 27
  have HB : Hid (Below w.heap.size w (w.alloc (Obj.cells zcs 27))) := b0
  have hnl : (tn (cnl k n) ++ xs).length = (cnl k n).length + n := by rw [List.length_append, tn_len, hr.len]
  generalize tn (cnl k n) ++ xs = ys at *
  have hcl : (cnl k n).length ≤ 200 := by
    have := wl_len k
    unfold cnl
    simp only [List.length_append, List.length_cons, List.length_nil]
    omega
  generalize (cnl k n).length = L at *
  clear hg hr b0 hk hd
  go_enter Tryz.func13, Tryz.ntmps13
  go_wp2_with fail
  refine hca.mono ?_
  rintro e w1 ⟨g, cap, rfl, r1, _, b1⟩
  have hsu := Sha.sum_any (some ⟨g, 0, none⟩) (L + n) cap ys w1 r1 (by omega)
  have HZ1 : Hid (w1.rowIs w.heap.size 27 20 (cl z20)) := rowIs_fr (P := fun _ => False) HZ.out (Fr.ofBelow b1) (fun h => h)
  have HB1 : Hid (Below w.heap.size w w1) := HB.out.trans (b1.mono HB.out.size)
  clear hca r1 b1 HZ
  go_wp2_with fail
  refine hsu.mono ?_
  rintro e w2 ⟨rfl, b2⟩
  have z2 : w2.rowIs w.heap.size 27 20 (cl z20) := rowIs_fr (P := fun _ => False) HZ1.out (Fr.ofBelow b2) (fun h => h)
  have HB2 : Hid (Below w.heap.size w w2) := HB1.out.trans (b2.mono HB1.out.size)
  clear hsu b2 HZ1
  go_wp2_with ((refine wpList_st rfl 27 _ _ rfl w.heap.size rfl (fun j => .int .u8 ((Sha.dig ys).getD j 0)) rfl z2 (by kernel_rfl) (fun _ => rfl) ?_; intro w3 r3 f3))
  exact bodyPost_ret (results_row (fn := Tryz.f13) (p := 4) (ty := 27) (by kernel_rfl) _ (by rfl) r3 Tryz.underlying27 rfl (by kernel_rfl)) rfl ⟨rfl, st_below HB2.out f3⟩

/-- The canonical bytes of no blob's bytes. -/
theorem nil_first : (Sha.dig (tn (cnl 3 0) ++ [])).getD 0 0 = 230 := by
  rw [show tn (cnl 3 0) ++ [] = [98, 108, 111, 98, 32, 48, 0] by decide +kernel]
  rw [Sha.dig_one _ (by decide +kernel)]
  decide +kernel

end Go.Proofs.YtojgablpjdlegaaGreatDoor

/- Canonical bytes opened. -/
namespace Go.Proofs.YtojgablpjdlegaaGreatDoor
open Go.RowKit

theorem Rd.front {w : World} {ao : Option Addr} {n c : Nat} {xs : List Int} (h : Rd w ao n c xs) (i : Nat) (hi : i ≤ n) : Rd w ao i c (xs.take i) := by
  refine ⟨by rw [List.length_take, h.len]; omega, by have := h.le; omega, fun e => ?_, fun ad had j hj => ?_, fun x hx => h.byt x (List.mem_of_mem_take hx)⟩
  · have := h.nul e
    omega
  · rw [h.cells ad had j (by omega)]
    simp [List.getD, hj]

theorem Rd.bytesIn {w : World} {ao : Option Addr} {n c : Nat} {xs : List Int} (h : Rd w ao n c xs) : Lib.BytesIn w ao n xs := fun hn => by
  obtain ⟨b, o, h1, h2⟩ := h.plain hn
  exact ⟨b, o, h1, h2⟩

set_option maxRecDepth 100000 in
set_option maxHeartbeats 1000000 in
theorem open_ok (ao : Option Addr) (n c : Nat) (xs : List Int) (i m : Nat) (wd sz : List UInt8) (bb : Bool) (k : Int) (w : World) (hg : Gs w) (hr : Rd w ao n c xs) (hn : n ≤ 1000000) (hi : Lib.index (Lib.bytesOf xs) (Lib.bytesOf [0]) = (i : Int)) (him : n = i + 1 + m) (hcu : Lib.cut (tb (xs.take i)) [32] = (wd, sz, bb)) (hk : kof wd = (k, true)) (hsz : sz = Lib.decDigits m) (hm : m ≤ 16384) :
    Calls Tryz.prog 17 #[.slice ao n c] w fun e w' => ∃ v, e = .returned (.tuple #[.int .i64 k, v, .int .i64 0]) ∧ w'.ownsRow w.heap.size 5 1 v m ((xs.drop (i + 1)).map (Value.int .u8)) ∧ Below w.heap.size w w' := by
  have b0 := new_below w (Obj.cells #[.int .u8 0] 5)
  have r0 := hr.keep b0
  obtain ⟨mm, hmm⟩ := (hg.keep b0).most
  obtain ⟨a2, ha2⟩ : ∃ a2, a2 = (if c = i + 1 then ao else Option.map (fun x : Addr => x.add (i + 1)) ao) := ⟨_, rfl⟩
  have hbc : Calls Tryz.prog 53 #[.slice ao n c, .slice (some ⟨w.heap.size, 0, none⟩) 1 1] (w.alloc (Obj.cells #[.int .u8 0] 5)) fun e w' => e = .returned (.tuple #[.slice ao i c, .slice a2 m (c - (i + 1)), .bool true]) ∧ ∃ q, w' = (w.alloc (Obj.cells #[.int .u8 0] 5)).drewN q := by
    refine (Any.bytes_Cut_all Tryz.bcut ao (some ⟨w.heap.size, 0, none⟩) n c 1 1 xs [0] mm (w.alloc (Obj.cells #[.int .u8 0] 5)) r0.len rfl r0.byt (by simp) r0.bytesIn (one_rd w 0 (by omega)).bytesIn (fun e => (r0.nul e).2) r0.le (by omega) (by omega) hmm).mono ?_
    rintro e w' ⟨rfl, h2⟩
    refine ⟨?_, h2⟩
    rw [hi]
    unfold Lib.cutV Lib.fromV
    rw [if_pos (by omega), Int.toNat_natCast, ← ha2, show n - (i + 1) = m by omega]
  have HHD : Hid (∀ W, Below w.heap.size w W → (convert 22 9 (.slice ao i c)).run Tryz.prog W = .ok (sv (tb (xs.take i))) W) := fun W hW => by
    have := ((hr.keep hW).front i (by omega)).str
    rw [tb_sv] at this
    exact this
  have HDA : Hid (∀ W, Below w.heap.size w W → Rd W a2 m (c - (i + 1)) (xs.drop (i + 1))) := fun W hW => by
    have := (hr.keep hW).sub (i + 1) m (by omega)
    rw [List.take_of_length_le (by rw [List.length_drop, hr.len]; omega), ← ha2] at this
    exact this
  have hao : ∃ ad, a2 = some ad := by
    cases ao with
    | none => have := (hr.nul rfl).1; omega
    | some x => rw [ha2]; split <;> exact ⟨_, rfl⟩
  obtain ⟨ad, rfl⟩ := hao
  have HB0 : Hid (Below w.heap.size w (w.alloc (Obj.cells #[.int .u8 0] 5))) := b0
  have HG : Hid (∀ W, Below w.heap.size w W → Gs W) := fun W hW => hg.keep hW
  have HK : Hid (kof wd = (k, true)) := hk
  have hil : (tb (xs.take i)).length ≤ 1000000 := by rw [tb_len, List.length_take, hr.len]; omega
  have HCU : Hid (∀ W, Gs W → Calls Tryz.prog 54 #[sv (tb (xs.take i)), sv [32]] W fun e w' => e = .returned (.tuple #[sv wd, sv sz, .bool bb]) ∧ ∃ q, w' = W.drewN q) := fun W hW => by
    obtain ⟨m1, hm1⟩ := hW.most
    have h : Calls Tryz.prog 54 #[sv (tb (xs.take i)), sv [32]] W fun e w' => e = .returned (.tuple #[sv (Lib.cut (tb (xs.take i)) [32]).1, sv (Lib.cut (tb (xs.take i)) [32]).2.1, .bool (Lib.cut (tb (xs.take i)) [32]).2.2]) ∧ ∃ n, w' = W.drewN n := Any.strings_Cut Tryz.scut ⟨(tb (xs.take i)).toArray⟩ ⟨[32].toArray⟩ m1 W (by rw [size_sv]; omega) hm1
    rw [hcu] at h
    exact h
  have HCL : Hid (∀ W, Below w.heap.size w W → Calls Tryz.prog 55 #[.slice (some ad) m (c - (i + 1))] W fun e w' => ∃ v', e = .returned v' ∧ w'.ownsRow W.heap.size 5 1 v' m ((xs.drop (i + 1)).map (Value.int .u8)) ∧ Below W.heap.size W w') := fun W hW => by
    refine (Any.bytes_Clone_at Tryz.bcln ad m (c - (i + 1)) (xs.drop (i + 1)) W (HDA.out W hW).len (by omega) (fun j hj => (HDA.out W hW).cells ad rfl j hj)).mono ?_
    rintro e w' ⟨v', rfl, h1, _, h2⟩
    exact ⟨v', rfl, h1, h2⟩
  have HIT : Hid (∀ W, Gs W → Calls Tryz.prog 49 #[.int .i64 m] W fun e w' => e = .returned (sv sz) ∧ Below W.heap.size W w') := fun W hW => by
    rw [hsz]
    exact itoa_any m W hW (by omega)
  have d1 : decide ((16384 : Int) < m) = false := by simp; omega
  have d2 : decide (16384 < m) = false := by simp; omega
  generalize tb (xs.take i) = hd at *
  clear hg hr r0 b0 hmm hi him hcu hk hsz hm ha2 hn hil HDA
  go_enter Tryz.func17, Tryz.ntmps17
  go_wp2_with fail
  refine hbc.mono ?_
  rintro e w1 ⟨rfl, q1, hw1⟩
  have B1 : Below w.heap.size w w1 := by rw [hw1]; exact HB0.out.trans ((drewN_b _ _).mono HB0.out.size)
  have cv := HHD.out w1 B1
  have hcu := HCU.out w1 (HG.out w1 B1)
  have HB1 : Hid (Below w.heap.size w w1) := B1
  clear hbc hw1 B1
  go_wp2_with fail
  refine hcu.mono ?_
  rintro e w2 ⟨rfl, q2, hw2⟩
  have B2 : Below w.heap.size w w2 := by rw [hw2]; exact HB1.out.trans ((drewN_b _ _).mono HB1.out.size)
  have hko := kindOf_any wd w2 (HG.out w2 B2)
  rw [HK.out] at hko
  have HB2 : Hid (Below w.heap.size w w2) := B2
  have hit := HIT.out w2 (HG.out w2 B2)
  clear hcu hw2 B2 cv
  go_wp2_with fail
  refine hko.mono ?_
  rintro e wz ⟨rfl, hwz⟩
  subst wz
  clear hko
  go_wp2_with fail
  refine hit.mono ?_
  rintro e w3 ⟨rfl, b3⟩
  have B3 : Below w.heap.size w w3 := HB2.out.trans (b3.mono HB2.out.size)
  have hcl := HCL.out w3 B3
  have HB3 : Hid (Below w.heap.size w w3) := B3
  clear hit b3 B3
  go_wp2_with fail
  refine hcl.mono ?_
  rintro e w4 ⟨v4, rfl, o4, b4⟩
  have HO4 : Hid (w4.ownsRow w.heap.size 5 1 v4 m ((xs.drop (i + 1)).map (Value.int .u8))) := own_low o4 HB3.out.size
  have HB4 : Hid (Below w.heap.size w w4) := HB3.out.trans (b4.mono HB3.out.size)
  clear hcl o4 b4
  go_wp2
  go_ret3
  exact ⟨v4, rfl, HO4.out, HB4.out⟩

end Go.Proofs.YtojgablpjdlegaaGreatDoor

/- What known() asks, as closed facts. -/
namespace Go.Proofs.YtojgablpjdlegaaGreatDoor
open Go.RowKit Go.Shelf

abbrev kA : List UInt8 := [97]

abbrev kC : List UInt8 := [98, 32, 49, 50, 32, 43, 48, 48, 48, 48]

abbrev kM : List UInt8 := [109]

/-- The bytes of the commit that is known. -/
def kb : List UInt8 := cmb z20 kA kC kM

theorem kz_id : IsId z20 := ⟨rfl, by decide⟩

theorem kt_text (l : List UInt8) (h1 : l.length ≤ 1000000) (h2 : ∀ b ∈ l, b.toNat < 128) (h3 : txtB l 200 = true) (W : World) : Calls Tryz.prog 101 #[sv l, .int .i64 200] W fun e w' => e = .returned (.bool true) ∧ Below W.heap.size W w' := by
  have h := isText_of l 200 W (cany_ascii l W h1 (fun j b hb => h2 b (List.mem_of_getElem? hb)))
  rw [h3] at h
  exact h

theorem ktA (W : World) : Calls Tryz.prog 101 #[sv kA, .int .i64 200] W fun e w' => e = .returned (.bool true) ∧ Below W.heap.size W w' :=
  kt_text kA (by decide) (by decide) (by decide +kernel) W

theorem ktC (W : World) : Calls Tryz.prog 101 #[sv kC, .int .i64 200] W fun e w' => e = .returned (.bool true) ∧ Below W.heap.size W w' :=
  kt_text kC (by decide) (by decide) (by decide +kernel) W

set_option maxRecDepth 100000 in
theorem kcm : Cm kb z20 kA kC kM :=
  ⟨⟨(lin tre kb).2, idE tre kb 0, (lin aut (lin tre kb).2).2, 0, (lin com (lin aut (lin tre kb).2).2).2, 0, by decide +kernel, rfl, rfl, by decide +kernel, Prod.ext (by decide +kernel) rfl, by decide +kernel, Prod.ext (by decide +kernel) rfl, by decide +kernel, by decide +kernel, by decide +kernel⟩, kz_id, ktA, ktC⟩

theorem kb_len : kb.length ≤ 16384 := by decide +kernel

theorem kdate (p : Value) (w : World) : Calls Tryz.prog 46 #[cmv z20 p kA kC kM] w fun e w' => e = .returned (.int .i64 12) ∧ Below w.heap.size w w' :=
  date_of z20 p kA kC kM [49, 50] _ 1 12 w (by decide) rfl (by decide +kernel) (by decide +kernel) (by decide) (by decide +kernel) (by decide +kernel) (by omega)

/-- The bytes that Open is asked. -/
abbrev kO : List Int := [98, 108, 111, 98, 32, 49, 0, 122]

theorem kopen (ao : Option Addr) (c : Nat) (w : World) (hg : Gs w) (hr : Rd w ao 8 c kO) :
    Calls Tryz.prog 17 #[.slice ao 8 c] w fun e w' => ∃ v, e = .returned (.tuple #[.int .i64 3, v, .int .i64 0]) ∧ w'.ownsRow w.heap.size 5 1 v 1 ([(122 : Int)].map (Value.int .u8)) ∧ Below w.heap.size w w' :=
  open_ok ao 8 c kO 6 1 [98, 108, 111, 98] [49] true 3 w hg hr (by omega) (by decide +kernel) (by omega) (by decide +kernel) (by decide +kernel) (by decide +kernel) (by omega)

theorem kid0 (w : World) (hg : Gs w) : Calls Tryz.prog 13 #[.int .i64 3, .slice none 0 0] w fun e w' => ∃ g : Nat → Value, e = .returned (row g 20) ∧ g 0 = .int .u8 230 ∧ (∀ j, (g j).oneCell' = true) ∧ Below w.heap.size w w' := by
  refine (objID_any 3 (by decide) none 0 0 [] w hg (Rd.nil w) (by omega) (by decide +kernel)).mono ?_
  rintro e w' ⟨rfl, hb⟩
  exact ⟨_, rfl, by show Value.int .u8 _ = _; rw [nil_first], fun j => rfl, hb⟩

theorem kbuild (w : World) : (Instr.build 47 #[(2, sv kA), (3, sv kC), (4, sv kM)]).run Tryz.prog w = .ok (cmv z20 nlv kA kC kM) w := by kernel_rfl

end Go.Proofs.YtojgablpjdlegaaGreatDoor

/- Rows that the program has made; what rises. -/
namespace Go.Proofs.YtojgablpjdlegaaGreatDoor
open Go.RowKit

theorem Nw.keep {B : Nat} {w w' : World} {v : Value} {d : Array (List Int)} (h : Nw B w v d) (hb : Below w.heap.size w w') : Nw B w' v d := by
  rcases h with ⟨h0, h1⟩ | ⟨h0, b, c, e, h1, h2, hr⟩
  · exact .inl ⟨h0, h1⟩
  · exact .inr ⟨h0, b, c, e, h1, h2, hr.keep hb⟩

theorem Nw.shape {B : Nat} {w : World} {v : Value} {d : Array (List Int)} (h : Nw B w v d) : ∃ ao c, v = .slice ao d.size c := by
  rcases h with ⟨h0, ao, c, rfl⟩ | ⟨h0, b, c, e, h1, h2, hr⟩
  · exact ⟨ao, c, by rw [h0]⟩
  · exact ⟨_, c, e⟩

theorem wh_one {d : Array (List Int)} {z : List Int} {k k' : Nat} (h : wh d z k) (h' : wh d z k') : k = k' := Fst.one h h'

theorem up_list {d : Array (List Int)} : Up d ↔ d.toList.Pairwise (fun x y => ltl x y = true) := by
  rw [List.pairwise_iff_getElem]
  constructor
  · intro h i j hi hj hij
    have := h i j hij (by simpa using hj)
    rw [getElem!_pos d i (by simpa using hi), getElem!_pos d j (by simpa using hj)] at this
    simpa using this
  · intro h i j hij hj
    have := h i j (by simp; omega) (by simpa using hj) hij
    rw [getElem!_pos d i (by omega), getElem!_pos d j hj]
    simpa using this

end Go.Proofs.YtojgablpjdlegaaGreatDoor

/- known. -/
namespace Go.Proofs.YtojgablpjdlegaaGreatDoor
open Go.RowKit Go.Shelf

theorem wpList_ldw {ops : Array Oper} {rest : List Oper} {op : Oper} {a : Act} {w : World} {Q : Exit → Act → World → Prop} (hw : Region.wanted op (yielded ops a.tmps) = true) (ty : TypeId) (x : Operand) (ho : op.op = .load ty x)
    (ad : Addr) (hx : a.eval x = .pointer (some ad)) (v : Value) (hr : (loadVar ty ad).run Tryz.prog w = .ok v w)
    (hk : wpList Tryz.prog ops Q rest (a.put op.dst v) w) : wpList Tryz.prog ops Q (op :: rest) a w := by
  unfold wpList
  rw [if_pos hw]
  refine .inl ?_
  unfold Oper.wp execOp
  simp only [ho, hx, Instr.loadAt, Instr.sureAddr, Sem.run_bind, Sem.run_pure, Result.andThen_ok, hr]
  exact hk

/-- The rows of known's variables. -/
structure Kv (a b : Nat) (w : World) : Prop where
  a : w.rowIs a 47 24 (cf z20 nlv kA kC kM)
  b : w.rowIs b 47 24 (cf z20 nlv kA kC kM)

theorem Kv.keep {a b : Nat} {w w' : World} (h : Kv a b w) (hb : Below w.heap.size w w') : Kv a b w' :=
  ⟨rowIs_fr (P := fun _ => False) h.a (Fr.ofBelow hb) (fun h => h), rowIs_fr (P := fun _ => False) h.b (Fr.ofBelow hb) (fun h => h)⟩

theorem kO_rd (w : World) : Rd (w.alloc (Obj.cells #[.int .u8 98, .int .u8 108, .int .u8 111, .int .u8 98, .int .u8 32, .int .u8 49, .int .u8 0, .int .u8 122] 5)) (some ⟨w.heap.size, 0, none⟩) 8 8 kO :=
  Rd.ofRow (World.rowIs_alloc w #[.int .u8 98, .int .u8 108, .int .u8 111, .int .u8 98, .int .u8 32, .int .u8 49, .int .u8 0, .int .u8 122] 5 _ (fun i hi => by
    simp at hi
    rcases i with _ | _ | _ | _ | _ | _ | _ | _ | i <;> first | rfl | omega)) rfl (by decide)

set_option maxRecDepth 100000 in
set_option maxHeartbeats 4000000 in
theorem known_yes (w : World) (hg : Gs w) : Calls Tryz.prog 9 #[] w fun e w' => e = .returned (.bool true) ∧ Below w.heap.size w w' := by
  have hz := zero47
  have hbd := kbuild
  have r0 := rowIs_vals w (cf z20 nlv [] [] []) 24 47
  have HG : Hid (Gs w) := hg
  have hone := fun j => cf_one z20 nlv kA kC kM (rfl : nlv.oneCell' = true) j
  clear hg
  go_enter Tryz.func9, Tryz.ntmps9
  go_wp2_with (first
    | (refine wpList_st rfl 47 _ _ rfl w.heap.size rfl (cf z20 nlv kA kC kM) rfl r0 (by kernel_rfl) hone ?_; intro w1 r1 f1; have HB1 : Hid (Below w.heap.size w w1) := new_fr f1; clear f1 r0)
    | (refine wpList_ld0 rfl 47 _ rfl w.heap.size rfl _ r1 24 (Nat.le_refl _) Tryz.underlying47 rfl (by kernel_rfl) ?_))
  refine (encodeCommit0 z20 kA kC kM w1 kz_id ktA ktC (by decide) (by decide) (by decide)).mono ?_
  rintro e w2 ⟨v, rfl, o2, b2⟩
  obtain ⟨ao, c, rfl, rd2, _⟩ := own_rd o2 (tn_byt _)
  have hxs : Cm (tb (tn (cmb z20 kA kC kM))) z20 kA kC kM := by rw [tb_tn]; exact kcm
  have hn : (cmb z20 kA kC kM).length ≤ 16384 := kb_len
  clear o2
  generalize tn (cmb z20 kA kC kM) = xs at *
  generalize (cmb z20 kA kC kM).length = n at *
  have HE : Hid (∀ W, Gs W → Rd W ao n c xs → Calls Tryz.prog 30 #[.int .i64 1, .slice ao n c] W fun ex w' => ∃ v, ex = .returned (.tuple #[v, .int .i64 0]) ∧ Nw W.heap.size w' v #[z20] ∧ Below W.heap.size W w') := fun W h1 h2 => edgesCommit0 ao n c xs z20 kA kC kM W h1 h2 hn hxs
  have HB2 : Hid (Below w.heap.size w w2) := HB1.out.trans (b2.mono HB1.out.size)
  have hde := decodeCommit0 ao n c xs z20 kA kC kM w2 (HG.out.keep HB2.out) rd2 hn hxs
  have HR2 : Hid (w2.rowIs w.heap.size 47 24 (cf z20 nlv kA kC kM)) := rowIs_fr (P := fun _ => False) r1 (Fr.ofBelow b2) (fun h => h)
  have HD2 : Hid (Rd w2 ao n c xs) := rd2
  clear hn hxs rd2 b2 r1
  go_wp2_with fail
  refine hde.mono ?_
  rintro e w3 ⟨rfl, b3⟩
  have HB3 : Hid (Below w.heap.size w w3) := HB2.out.trans (b3.mono HB2.out.size)
  have HR3 : Hid (w3.rowIs w.heap.size 47 24 (cf z20 nlv kA kC kM)) := rowIs_fr (P := fun _ => False) HR2.out (Fr.ofBelow b3) (fun h => h)
  have HD3 : Hid (Rd w3 ao n c xs) := HD2.out.keep b3
  have z3 := rowIs_vals w3 (cf z20 nlv [] [] []) 24 47
  clear hde b3
  go_wp2_with ((refine wpList_st rfl 47 _ _ rfl w3.heap.size rfl (cf z20 nlv kA kC kM) rfl z3 (by kernel_rfl) hone ?_; intro w4 r4 f4; have b4 : Below w3.heap.size w3 w4 := new_fr f4; have HB4 : Hid (Below w.heap.size w w4) := HB3.out.trans (b4.mono HB3.out.size); have HK4 : Hid (Kv w.heap.size w3.heap.size w4) := ⟨rowIs_fr (P := fun _ => False) HR3.out (Fr.ofBelow b4) (fun h => h), r4⟩; have HD4 : Hid (Rd w4 ao n c xs) := HD3.out.keep b4; clear f4 r4 b4 z3))
  refine (kid0 w4 (HG.out.keep HB4.out)).mono ?_
  rintro e w5 ⟨g, rfl, hg0, hg1, b5⟩
  have HB5 : Hid (Below w.heap.size w w5) := HB4.out.trans (b5.mono HB4.out.size)
  have HK5 : Hid (Kv w.heap.size w3.heap.size w5) := HK4.out.keep b5
  have HD5 : Hid (Rd w5 ao n c xs) := HD4.out.keep b5
  have HG0 : Hid (g 0 = .int .u8 230) := hg0
  have z5 := z_row w5 27
  clear b5 hg0
  go_wp2_with (first
    | (refine wpList_st rfl 27 _ _ rfl w5.heap.size rfl g rfl z5 (by kernel_rfl) hg1 ?_; intro w6 r6 f6; have b6 : Below w5.heap.size w5 w6 := new_fr f6; have HB6 : Hid (Below w.heap.size w w6) := HB5.out.trans (b6.mono HB5.out.size); have HK6 : Hid (Kv w.heap.size w3.heap.size w6) := HK5.out.keep b6; have HD6 : Hid (Rd w6 ao n c xs) := HD5.out.keep b6; have HI6 : Hid (w6.rowIs w5.heap.size 27 20 g) := r6; clear f6 r6 b6 z5)
    | (refine wpList_conv rfl _ rfl ⟨w6.heap.size, 0, none⟩ 8 8 rfl ?_; intro w7 f7 c7; have b7 : Below w6.heap.size w6 w7 := new_fr f7; have HB7 : Hid (Below w.heap.size w w7) := HB6.out.trans (b7.mono HB6.out.size); have HK7 : Hid (Kv w.heap.size w3.heap.size w7) := HK6.out.keep b7; have HD7 : Hid (Rd w7 ao n c xs) := HD6.out.keep b7; have HI7 : Hid (w7.rowIs w5.heap.size 27 20 g) := rowIs_fr (P := fun _ => False) HI6.out (Fr.ofBelow b7) (fun h => h); have HO7 : Hid (Rd w7 (some ⟨w6.heap.size, 0, none⟩) 8 8 kO) := (kO_rd w6).same c7; clear f7 c7 b7))
  refine (kopen _ 8 w7 (HG.out.keep HB7.out) HO7.out).mono ?_
  rintro e w8 ⟨v8, rfl, o8, b8⟩
  obtain ⟨ao8, c8, rfl, rd8, _⟩ := own_rd (xs := [122]) o8 (by decide)
  have HB8 : Hid (Below w.heap.size w w8) := HB7.out.trans (b8.mono HB7.out.size)
  have HK8 : Hid (Kv w.heap.size w3.heap.size w8) := HK7.out.keep b8
  have HI8 : Hid (w8.rowIs w5.heap.size 27 20 g) := rowIs_fr (P := fun _ => False) HI7.out (Fr.ofBelow b8) (fun h => h)
  have HO8 : Hid (Rd w8 ao8 1 c8 [122]) := rd8
  have hed := HE.out w8 (HG.out.keep HB8.out) (HD7.out.keep b8)
  clear o8 b8 rd8
  go_wp2_with fail
  refine hed.mono ?_
  rintro e w9 ⟨v9, rfl, n9, b9⟩
  obtain ⟨ao9, c9, h9⟩ := n9.shape
  rw [show (#[z20] : Array (List Int)).size = 1 from rfl] at h9
  subst h9
  have HB9 : Hid (Below w.heap.size w w9) := HB8.out.trans (b9.mono HB8.out.size)
  have k9 := HK8.out.keep b9
  have ca : w9.cell? ⟨w.heap.size, 22, none⟩ = some (sv kC) := k9.a.cell (i := 22) (by omega)
  have cb : w9.cell? ⟨w3.heap.size, 22, none⟩ = some (sv kC) := k9.b.cell (i := 22) (by omega)
  have ci : w9.cell? ⟨w5.heap.size, 0, none⟩ = some (.int .u8 230) := by
    have i9 : w9.rowIs w5.heap.size 27 20 g := rowIs_fr (P := fun _ => False) HI8.out (Fr.ofBelow b9) (fun h => h)
    rw [i9.cell (i := 0) (by omega), HG0.out]
  have cv : (convert 22 9 (.slice ao8 1 c8)).run Tryz.prog w9 = .ok (sv [122]) w9 := (HO8.out.keep b9).str
  have HL9 : Hid ((loadVar 47 ⟨w3.heap.size, 0, none⟩).run Tryz.prog w9 = .ok (cmv z20 nlv kA kC kM) w9) := load_all (P := Tryz.prog) 47 _ k9.b Tryz.underlying47 rfl (by kernel_rfl)
  have hda := kdate nlv w9
  clear hed n9 b9 k9 hone hg1 hz hbd
  go_wp2_with ((refine wpList_ldw (by rfl) 47 _ rfl ⟨w3.heap.size, 0, none⟩ rfl _ HL9.out ?_))
  refine hda.mono ?_
  rintro e w10 ⟨rfl, b10⟩
  have HB10 : Hid (Below w.heap.size w w10) := HB9.out.trans (b10.mono HB9.out.size)
  clear hda b10 ca cb ci cv
  go_wp2
  go_ret
  exact ⟨rfl, HB10.out⟩

end Go.Proofs.YtojgablpjdlegaaGreatDoor

/- The order of bytes, as laws. -/
namespace Go.Proofs.YtojgablpjdlegaaGreatDoor
open Go.RowKit

theorem cmp_refl : ∀ a : List UInt8, Lib.compareBytes a a = 0
  | [] => rfl
  | x :: a => by
    unfold Lib.compareBytes
    rw [if_neg (UInt8.lt_irrefl x), if_neg (UInt8.lt_irrefl x)]
    exact cmp_refl a

theorem cmp_neg : ∀ a b : List UInt8, Lib.compareBytes b a = - Lib.compareBytes a b
  | [], [] => rfl
  | [], _ :: _ => rfl
  | _ :: _, [] => rfl
  | x :: a, y :: b => by
    unfold Lib.compareBytes
    have ih := cmp_neg a b
    by_cases h1 : x < y
    · have h2 : ¬ y < x := UInt8.lt_asymm h1
      rw [if_neg h2, if_pos h1, if_pos h1]
      decide
    · rw [if_neg h1, if_neg h1]
      by_cases h2 : y < x
      · rw [if_pos h2, if_pos h2]
      · rw [if_neg h2, if_neg h2]
        exact ih

theorem cmp_zero : ∀ a b : List UInt8, Lib.compareBytes a b = 0 → a = b
  | [], [] => fun _ => rfl
  | [], _ :: _ => fun h => by cases h
  | _ :: _, [] => fun h => by cases h
  | x :: a, y :: b => fun h => by
    unfold Lib.compareBytes at h
    by_cases h1 : x < y
    · rw [if_pos h1] at h
      cases h
    · rw [if_neg h1] at h
      by_cases h2 : y < x
      · rw [if_pos h2] at h
        cases h
      · rw [if_neg h2] at h
        rw [cmp_zero a b h, UInt8.le_antisymm (UInt8.not_lt.1 h2) (UInt8.not_lt.1 h1)]

theorem cmp_rng : ∀ a b : List UInt8, -1 ≤ Lib.compareBytes a b ∧ Lib.compareBytes a b ≤ 1
  | [], [] => by decide
  | [], _ :: _ => by unfold Lib.compareBytes; decide
  | _ :: _, [] => by unfold Lib.compareBytes; decide
  | x :: a, y :: b => by
    unfold Lib.compareBytes
    have ih := cmp_rng a b
    split
    · decide
    · split
      · decide
      · exact ih

theorem cmp_trans : ∀ a b c : List UInt8, Lib.compareBytes a b < 0 → Lib.compareBytes b c < 0 → Lib.compareBytes a c < 0
  | _, [], [] => fun _ h => absurd h (by decide)
  | _, _ :: _, [] => fun _ h => by unfold Lib.compareBytes at h; exact absurd h (by decide)
  | [], _, _ :: _ => fun _ _ => by unfold Lib.compareBytes; decide
  | _ :: _, [], _ :: _ => fun h => by unfold Lib.compareBytes at h; exact absurd h (by decide)
  | x :: a, y :: b, z :: c => fun h k => by
    unfold Lib.compareBytes at h k ⊢
    by_cases h1 : x < y
    · by_cases k1 : y < z
      · rw [if_pos (UInt8.lt_trans h1 k1)]
        decide
      · rw [if_neg k1] at k
        by_cases k2 : z < y
        · rw [if_pos k2] at k
          exact absurd k (by decide)
        · have : y = z := UInt8.le_antisymm (UInt8.not_lt.1 k2) (UInt8.not_lt.1 k1)
          rw [if_pos (this ▸ h1)]
          decide
    · rw [if_neg h1] at h
      by_cases h2 : y < x
      · rw [if_pos h2] at h
        exact absurd h (by decide)
      · rw [if_neg h2] at h
        obtain rfl : x = y := UInt8.le_antisymm (UInt8.not_lt.1 h2) (UInt8.not_lt.1 h1)
        by_cases k1 : x < z
        · rw [if_pos k1]
          decide
        · rw [if_neg k1] at k ⊢
          by_cases k2 : z < x
          · rw [if_pos k2] at k
            exact absurd k (by decide)
          · rw [if_neg k2] at k ⊢
            exact cmp_trans a b c h k

theorem ba_inj {s t : ByteArray} (h : s.data.toList = t.data.toList) : s = t := by
  cases s
  cases t
  simp at h
  rw [h]

theorem plc_inj (m : Int) {s t : ByteArray} (h : plc m s = plc m t) : s = t := by
  unfold plc at h
  split at h
  · have := congrArg (fun x : ByteArray => x.data.toList) h
    simp at this
    exact ba_inj (by simpa using this)
  · exact h

theorem ord_refl (m : Int) (s : ByteArray) : ord m s m s = 0 := cmp_refl _

theorem ord_neg (m : Int) (s : ByteArray) (n : Int) (t : ByteArray) : ord n t m s = - ord m s n t := cmp_neg _ _

theorem ord_zero (m : Int) (s t : ByteArray) : ord m s m t = 0 ↔ s = t :=
  ⟨fun h => plc_inj m (ba_inj (cmp_zero _ _ h)), fun h => by rw [h]; exact ord_refl m t⟩

theorem ord_trans (m : Int) (s : ByteArray) (n : Int) (t : ByteArray) (k : Int) (u : ByteArray) (h1 : ord m s n t < 0) (h2 : ord n t k u < 0) : ord m s k u < 0 := cmp_trans _ _ _ h1 h2

theorem ord_rng (m : Int) (s : ByteArray) (n : Int) (t : ByteArray) : -1 ≤ ord m s n t ∧ ord m s n t ≤ 1 := cmp_rng _ _

end Go.Proofs.YtojgablpjdlegaaGreatDoor
