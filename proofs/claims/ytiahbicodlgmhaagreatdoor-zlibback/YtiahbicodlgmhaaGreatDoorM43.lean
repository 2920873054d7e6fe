/- XInf, XIn2: the document's own functions, walked. -/
import Derived.Test.YtiahbicodlgmhaaGreatDoorM40
import Derived.Test.YtiahbicodlgmhaaGreatDoorM41
import Derived.Test.YtiahbicodlgmhaaGreatDoorM42
import Derived.Test.YtiahbicodlgmhaaGreatDoorM39
import Derived.Test.YtiahbicodlgmhaaGreatDoorM35
/- The document's Block and Inflate, of what Deflate writes. -/
namespace Go.Proofs.YtiahbicodlgmhaaGreatDoor.D
open Go.RowKit
open Go.Proofs.YtiahbicodlgmhaaGreatDoor.Z

/-- What the document's block does from bit p on, os being there: the last one; what is there then, and where it ends. -/
def Blk (X : Int) (n m p : Nat) (os os' : List Int) (p' : Nat) : Prop :=
  ∀ (w : World) (B S R : Nat), Stm w B S R n X p os m → Calls Tryz.prog 29 #[.pointer (some ⟨S, 0, none⟩)] w fun e w' => e = .returned (.bool true) ∧ Stm w' B S R n X p' os' m ∧ Sw B w w'

theorem rblk_sto {X : Int} {n m p : Nat} {os cs : List Int} (hl : Lay X n p (sto1 1 cs)) (h8 : p % 8 = 0) (hb : ∀ x ∈ cs, 0 ≤ x ∧ x < 256) (hc : cs.length ≤ 65535) (hr : os.length + cs.length ≤ m) (hm : m ≤ 1000000) : Blk X n m p os (os ++ cs) (p + 40 + 8 * cs.length) := by
  intro w B S R h
  obtain ⟨e1, p1, hl1⟩ := hl.head
  obtain ⟨e2, p2', hl2⟩ := hl1.head
  simp only at e1 p1 e2 p2'
  have HL : Hid (Lay X n (p + 1 + 2) ((0, 5) :: ((cs.length : Int), 16) :: (65535 - (cs.length : Int), 16) :: bfs cs)) := hl2
  clear hl hl1 hl2
  go_enter Tryz.func29, Tryz.ntmps29
  go_wp2_with fail
  refine (rget_any B S R n X p 1 os m w h (by omega) p1).mono ?_
  rintro e w1 ⟨rfl, h1, f1⟩
  rw [e1]
  clear h
  go_wp2_with fail
  refine (rget_any B S R n X (p + 1) 2 os m w1 h1 (by omega) p2').mono ?_
  rintro e w2 ⟨rfl, h2, f2⟩
  rw [e2]
  have k3 := h2.c3
  have F2 : Hid (Sw B w w2) := f1.trans f2
  have hst := rstored_yes B S R n X (p + 1 + 2) os cs m w2 h2 (by omega) hb hc hr hm HL.out
  clear h1 h2 f1 f2 e1 e2 p1 p2'
  go_wp2_with fail
  refine hst.mono ?_
  rintro e w3 ⟨rfl, h3, f3⟩
  have k3 := h3.c3
  have H3 : Hid (Stm w3 B S R n X (p + 40 + 8 * cs.length) (os ++ cs) m) := by
    rw [show p + 40 + 8 * cs.length = p + 1 + 2 + 5 + 16 + 16 + 8 * cs.length by omega]
    exact h3
  have F3 : Hid (Sw B w w3) := F2.out.trans f3
  clear h3 f3 hst F2
  go_wp2
  go_ret
  exact ⟨rfl, H3.out, F3.out⟩

theorem rblk_fix {X : Int} {n m p : Nat} {os : List Int} {is : List It} (hl : Lay X n p ([(1, 1), (1, 2)] ++ encS fl 288 dl 32 (stps is ++ [eos]))) (hok : ∀ i ∈ is, i.ok) (hr : os.length ≤ m) (hm : m ≤ 1000000) {os' : List Int} (hG : play m is os = (0, os')) : Blk X n m p os os' (p + fb ([(1, 1), (1, 2)] ++ encS fl 288 dl 32 (stps is ++ [eos]))) := by
  intro w B S R h
  have e := encS_eqv (L := fl) (L' := fl) (mA := 288) (D := dl) (D' := dl) (mD := 32) (fun _ _ => rfl) (fun _ _ => rfl) (by omega) (fix_okG hok)
  have hft : Ft (encsG fl 288 dl 32 is ++ [gf fl 288 256]) := (encsG_ft (fix_okG hok)).app (Ft.cons (gf_ft _ _ _).1 (gf_ft _ _ _).2 Ft.nil)
  have hl2 := lay_eqv hl.tail e hft
  have hP : p + 1 + 2 + fb (encsG fl 288 dl 32 is) + (fl 256).toNat = p + fb ([(1, 1), (1, 2)] ++ encS fl 288 dl 32 (stps is ++ [eos])) := by
    rw [fb_app, e.2, fb_app]
    simp only [fb, gf]
    omega
  obtain ⟨e1, p1, hl1⟩ := hl.front.head
  obtain ⟨e2, p2', _⟩ := hl1.head
  simp only at e1 p1 e2 p2'
  have HL : Hid (Lay X n (p + 1 + 2) (encsG fl 288 dl 32 is ++ [gf fl 288 256])) := hl2
  obtain ⟨P, hPP⟩ : ∃ P, P = p + fb ([(1, 1), (1, 2)] ++ encS fl 288 dl 32 (stps is ++ [eos])) := ⟨_, rfl⟩
  rw [← hPP] at hP ⊢
  have HP : Hid (p + 1 + 2 + fb (encsG fl 288 dl 32 is) + (fl 256).toNat = P) := hP
  clear hl hl1 hl2 e hft hP hPP
  go_enter Tryz.func29, Tryz.ntmps29
  go_wp2_with fail
  refine (rget_any B S R n X p 1 os m w h (by omega) p1).mono ?_
  rintro e w1 ⟨rfl, h1, f1⟩
  rw [e1]
  clear h
  go_wp2_with fail
  refine (rget_any B S R n X (p + 1) 2 os m w1 h1 (by omega) p2').mono ?_
  rintro e w2 ⟨rfl, h2, f2⟩
  rw [e2]
  have k3 := h2.c3
  have F2 : Hid (Sw B w w2) := f1.trans f2
  have H2 : Hid (Stm w2 B S R n X (p + 1 + 2) os m) := h2
  clear h1 h2 f1 f2 e1 e2 p1 p2'
  go_wp2_with fail
  refine (xfixed_any w2).mono ?_
  rintro e w3 ⟨a, d, rfl, ra, rd, b3⟩
  have h3 := H2.out.keep b3
  have hcd := rcoded_g fl 288 dl 32 fl_nw dl_nw fl_fits dl_fits ⟨by omega, by decide, by decide⟩ B S R n X (p + 1 + 2) os m (some ⟨a, 0, none⟩) 288 (some ⟨d, 0, none⟩) 32 is w3 h3 (Ri.row ra) (Ri.row rd) (fix_okG hok) HL.out hm hr os' hG P HP.out
  have F3 : Hid (Sw B w w3) := F2.out.trans (Sw.keep H2.out.bB b3)
  clear h3 ra rd b3 k3 H2 F2
  go_wp2_with fail
  refine hcd.mono ?_
  rintro e w4 ⟨rfl, h4, f4⟩
  have k3 := h4.c3
  have H4 : Hid (Stm w4 B S R n X P os' m) := h4
  have F4 : Hid (Sw B w w4) := F3.out.trans f4
  clear h4 f4 hcd F3
  go_wp2
  go_ret
  exact ⟨rfl, H4.out, F4.out⟩

theorem rblk_tld {X : Int} {n m p : Nat} {os : List Int} {is : List It} {nl nd vn : Nat} {L0 L1 Lc : Nat → Int} {qs : List Cl} (h : Tm is nl nd vn L0 L1 Lc qs) (hl : Lay X n p ([(1, 1), (2, 2)] ++ tlf Lc nl nd vn qs ++ encS L0 nl L1 nd (stps is ++ [eos]))) (hok : ∀ i ∈ is, i.ok) (hr : os.length ≤ m) (hm : m ≤ 1000000) {os' : List Int} (hG : play m is os = (0, os')) : Blk X n m p os os' (p + fb ([(1, 1), (2, 2)] ++ tlf Lc nl nd vn qs ++ encS L0 nl L1 nd (stps is ++ [eos]))) := by
  rw [List.append_assoc] at hl ⊢
  intro w B S R hs
  have e := h.fields hok
  have hl2 := lay_eqv hl.tail e (hdf_ft h hok)
  have hP : p + 1 + 2 + fb (hdf (vso Lc vn) qs nl nd) + fb (encsG (fun j => (fso nl nd L0 L1).getD j 0) nl (fun j => (fso nl nd L0 L1).getD (nl + j) 0) nd is) + ((fso nl nd L0 L1).getD 256 0).toNat = p + fb ([(1, 1), (2, 2)] ++ (tlf Lc nl nd vn qs ++ encS L0 nl L1 nd (stps is ++ [eos]))) := by
    rw [fb_app, e.2, fb_app, fb_app]
    simp only [fb, gf]
    omega
  obtain ⟨e1, p1, hl1⟩ := hl.front.head
  obtain ⟨e2, p2', _⟩ := hl1.head
  simp only at e1 p1 e2 p2'
  obtain ⟨P, hPP⟩ : ∃ P, P = p + fb ([(1, 1), (2, 2)] ++ (tlf Lc nl nd vn qs ++ encS L0 nl L1 nd (stps is ++ [eos]))) := ⟨_, rfl⟩
  rw [← hPP] at hP ⊢
  have hd := h.hd
  have hog := h.okG hok
  generalize vso Lc vn = vs at *
  generalize fso nl nd L0 L1 = fs at *
  have HLH : Hid (Lay X n (p + 1 + 2) (hdf vs qs nl nd)) := hl2.front
  have HL : Hid (Lay X n (p + 1 + 2 + fb (hdf vs qs nl nd)) (encsG (fun j => fs.getD j 0) nl (fun j => fs.getD (nl + j) 0) nd is ++ [gf (fun j => fs.getD j 0) nl 256])) := hl2.tail
  have HP : Hid (p + 1 + 2 + fb (hdf vs qs nl nd) + fb (encsG (fun j => fs.getD j 0) nl (fun j => fs.getD (nl + j) 0) nd is) + (fs.getD 256 0).toNat = P) := hP
  have HHD : Hid (Hd vs qs fs nl nd) := hd
  have HOG : Hid (∀ i ∈ is, i.okG (fun j => fs.getD j 0) nl (fun j => fs.getD (nl + j) 0) nd) := hog
  have hl01 := hd.l0
  clear hl hl1 hl2 e hP hPP h hok hd hog
  go_enter Tryz.func29, Tryz.ntmps29
  go_wp2_with fail
  refine (rget_any B S R n X p 1 os m w hs (by omega) p1).mono ?_
  rintro e w1 ⟨rfl, h1, f1⟩
  rw [e1]
  clear hs
  go_wp2_with fail
  refine (rget_any B S R n X (p + 1) 2 os m w1 h1 (by omega) p2').mono ?_
  rintro e w2 ⟨rfl, h2, f2⟩
  rw [e2]
  have k3 := h2.c3
  have F2 : Hid (Sw B w w2) := f1.trans f2
  obtain ⟨ao, c, v, h2⟩ := h2
  have hln := rlens_S B S R ao n c X (p + 1 + 2) v os m vs qs fs nl nd w2 h2 HHD.out HLH.out
  have HSW : Hid (∀ w', Fr (fun k => k = R) w2 w' → Sw B w2 w') := fun w' hf => ⟨hf.below B h2.bB (fun i hi e => by have := h2.bR; omega), Kt.row h2.rd.row (by decide) hf⟩
  clear h1 h2 f1 f2 e1 e2 p1 p2'
  go_wp2_with fail
  refine hln.mono ?_
  rintro e w3 ⟨g, off, lc, rfl, ra, rd, h3, f3⟩
  have hcd := rcoded_g (fun j => fs.getD j 0) nl (fun j => fs.getD (nl + j) 0) nd HHD.out.an HHD.out.dn HHD.out.af HHD.out.df ⟨by omega, HHD.out.e0, HHD.out.e15⟩ B S R n X _ os m (some ⟨g, off, none⟩) lc (some ⟨g, off + nl, none⟩) (lc - nl) is w3 ⟨ao, c, v, h3⟩ ra rd HOG.out HL.out hm hr os' hG P HP.out
  have F3 : Hid (Sw B w w3) := F2.out.trans (HSW.out w3 f3)
  clear h3 ra rd f3 k3 F2 HSW hln
  go_wp2_with fail
  refine hcd.mono ?_
  rintro e w4 ⟨rfl, h4, f4⟩
  have k3 := h4.c3
  have H4 : Hid (Stm w4 B S R n X P os' m) := h4
  have F4 : Hid (Sw B w w4) := F3.out.trans f4
  clear h4 f4 hcd F3
  go_wp2
  go_ret
  exact ⟨rfl, H4.out, F4.out⟩

theorem rdfl {bs : List Int} {F : List Fd} {X : Int} {n m : Nat} (h : Dfl bs F) (hb : ∀ x ∈ bs, 0 ≤ x ∧ x < 256) (hl : Lay X n 0 F) (hs : bs.length ≤ 65535) (hr : bs.length ≤ m) (hm : m ≤ 1000000) : Blk X n m 0 [] bs (fb F) := by
  cases h with
  | sto =>
    rw [stk_one bs hs] at hl ⊢
    have := rblk_sto (os := []) (m := m) hl rfl hb hs (by simpa using hr) hm
    rw [sto1_fb]
    simpa using this
  | fix is h1 h2 =>
    have := rblk_fix hl h1 (os := []) (by simp) hm ((h2 m).1 hr)
    rw [Nat.zero_add] at this
    exact this
  | tld is nl nd vn L0 L1 Lc qs h1 h2 h3 =>
    have := rblk_tld h3 hl h1 (os := []) (by simp) hm ((h2 m).1 hr)
    rw [Nat.zero_add] at this
    exact this

end Go.Proofs.YtiahbicodlgmhaaGreatDoor.D

/- The document's Inflate. -/
namespace Go.Proofs.YtiahbicodlgmhaaGreatDoor.D
open Go.RowKit
open Go.Proofs.YtiahbicodlgmhaaGreatDoor.Z

theorem ypast_any (R : Nat) (ao : Option Addr) (n c : Nat) (X : Int) (p : Nat) (w : World) (h : IsY w R ao n c X p) :
    Calls Tryz.prog 30 #[.pointer (some ⟨R, 0, none⟩)] w fun e w' => e = .returned (.int .i64 ((p + 7) / 8 : Nat)) ∧ w' = w := by
  have c1 := h.row.cell (i := 1) (by omega)
  simp only [ycells] at c1
  have hl := h.le
  have hm := h.lim
  obtain ⟨q, hq⟩ : ∃ q, q = (p + 7) / 8 := ⟨_, rfl⟩
  have z1 : Hid (((p : Int) + 7) / 8 = q) := by show ((p : Int) + 7) / 8 = q; omega
  have z2 : IntKind.i64.wrap ((p : Int) + 7) = (p : Int) + 7 := wraps_i64 _ (by omega) (by omega)
  have z3 : IntKind.i64.wrap (((p : Int) + 7) / 8) = ((p : Int) + 7) / 8 := wraps_i64 _ (by omega) (by omega)
  rw [← hq]
  clear h hq
  go_enter Tryz.func30, Tryz.ntmps30
  go_wp2
  go_ret
  rw [← z1.out]
  exact ⟨rfl, rfl⟩

theorem rnew (m : Int) (ao : Option Addr) (n c : Nat) (X : Int) (w : World) (hr : Rd w ao n c (by8 X n)) (hn : n ≤ 1000000000) :
    Stm ((w.alloc (Obj.cells #[Value.slice ao n c, Value.int .i64 0] 53)).alloc (Obj.cells #[Value.pointer (some ⟨w.heap.size, 0, none⟩), Value.slice none 0 0, Value.int .i64 m, Value.int .i64 0] 55)) w.heap.size (w.heap.size + 1) w.heap.size n X 0 [] m := by
  obtain ⟨W, hW⟩ : ∃ W, W = w.alloc (Obj.cells #[Value.slice ao n c, Value.int .i64 0] 53) := ⟨_, rfl⟩
  have b1 : Below w.heap.size w W := by rw [hW]; exact (Below.refl _ _).alloc (Nat.le_refl _) _
  have hsz : W.heap.size = w.heap.size + 1 := by rw [hW]; simp
  have r1 : W.rowIs w.heap.size 53 2 (ycells (.slice ao n c) ((0 : Nat) : Int)) := by
    rw [hW]
    exact World.rowIs_alloc w _ 53 _ (fun i hi => by simp at hi; rcases i with _ | _ | i <;> first | rfl | omega)
  have hblk : ∀ ad, ao = some ad → 0 < n → ad.block < w.heap.size := fun ad had hn0 => by
    have hc := hr.cells ad had 0 hn0
    have := World.block_lt_of_cell? w _ hc
    rwa [show (ad.add 0).block = ad.block by unfold Addr.add; split <;> rfl] at this
  have hY : IsY W w.heap.size ao n c X 0 := ⟨r1, hr.keep b1, fun ad had hn0 e => by have := hblk ad had hn0; omega, by omega, hn⟩
  rw [← hW]
  have r2 : (W.alloc (Obj.cells #[Value.pointer (some ⟨w.heap.size, 0, none⟩), Value.slice none 0 0, Value.int .i64 m, Value.int .i64 0] 55)).rowIs (w.heap.size + 1) 55 4 (scells w.heap.size (.slice none 0 0) m) := by
    rw [← hsz]
    exact World.rowIs_alloc W _ 55 _ (fun i hi => by simp at hi; rcases i with _ | _ | _ | _ | i <;> first | rfl | omega)
  have b2 : Below W.heap.size W (W.alloc (Obj.cells #[Value.pointer (some ⟨w.heap.size, 0, none⟩), Value.slice none 0 0, Value.int .i64 m, Value.int .i64 0] 55)) := (Below.refl _ _).alloc (Nat.le_refl _) _
  exact ⟨ao, c, .slice none 0 0, ⟨r2, hY.keep b2, World.ownsRow_nil _ _ _ _, (fun x hx => by cases hx), (by simp [Value.ownBlock]), (by simp [Value.ownBlock]), (fun ad had hn0 e => by have := hblk ad had hn0; omega), (fun ad _ _ => by simp [Value.ownBlock]), (by have := b2.size; omega), (by omega), Nat.le_refl _, (fun k hk => by simp [Value.ownBlock] at hk)⟩⟩

set_option maxRecDepth 100000 in
set_option maxHeartbeats 2000000 in
theorem rinflate {bs : List Int} {F : List Fd} (h : Dfl bs F) (hf : Ft F) (hb : ∀ x ∈ bs, 0 ≤ x ∧ x < 256) (hs : bs.length ≤ 65535) (ts : List Int) (ao : Option Addr) (n c m : Nat) (w : World) (hr : Rd w ao n c (byF F ++ ts)) (hn : n ≤ 1000000000) (hm : bs.length ≤ m) (hm2 : m ≤ 262144) :
    Calls Tryz.prog 12 #[.slice ao n c, .int .i64 m] w fun e w' => ∃ xo xc, e = .returned (.tuple #[.slice xo bs.length xc, .int .i64 ((fb F + 7) / 8 : Nat), .int .i64 0]) ∧ Rd w' xo bs.length xc bs ∧ Below w.heap.size w w' := by
  have hl := hr.len
  rw [List.length_append, byF_len] at hl
  obtain ⟨X, h1, h2⟩ := byF_tail hf ts (fun x hx => hr.byt x (by simp [hx])) n hl.symm
  have hblk := rdfl h hb h2 hs hm (by omega)
  have hst := rnew (m : Int) ao n c X w (by rw [h1]; exact hr) hn
  have bA : Below w.heap.size w ((w.alloc (Obj.cells #[Value.slice ao n c, Value.int .i64 0] 53)).alloc (Obj.cells #[Value.pointer (some ⟨w.heap.size, 0, none⟩), Value.slice none 0 0, Value.int .i64 (m : Int), Value.int .i64 0] 55)) := ((Below.refl _ _).alloc (Nat.le_refl _) _).alloc (by simp) _
  have d1 : decide ((m : Int) < 0) = false := by simp
  have d2 : decide ((262144 : Int) < m) = false := by simp; omega
  obtain ⟨u, hu⟩ : ∃ u, u = (fb F + 7) / 8 := ⟨_, rfl⟩
  have HU : Hid (u = (fb F + 7) / 8) := hu
  obtain ⟨lx', hlx⟩ : ∃ l, l = bs.length := ⟨_, rfl⟩
  have HX : Hid (lx' = bs.length) := hlx
  rw [← hu, ← hlx]
  have HB : Hid (Below w.heap.size w ((w.alloc (Obj.cells #[Value.slice ao n c, Value.int .i64 0] 53)).alloc (Obj.cells #[Value.pointer (some ⟨w.heap.size, 0, none⟩), Value.slice none 0 0, Value.int .i64 (m : Int), Value.int .i64 0] 55))) := bA
  have HS : Hid (Stm ((w.alloc (Obj.cells #[Value.slice ao n c, Value.int .i64 0] 53)).alloc (Obj.cells #[Value.pointer (some ⟨w.heap.size, 0, none⟩), Value.slice none 0 0, Value.int .i64 (m : Int), Value.int .i64 0] 55)) w.heap.size (w.heap.size + 1) w.heap.size n X 0 [] m) := hst
  have HBK : Hid (Blk X n m 0 [] bs (fb F)) := hblk
  obtain ⟨B0, hB0⟩ : ∃ B0, B0 = w.heap.size := ⟨_, rfl⟩
  clear h hf hb hr h1 h2 hblk hst bA hl hu hlx
  go_enter Tryz.func12, Tryz.ntmps12
  go_wp2_with fail
  rw [← hB0] at HS HB ⊢
  generalize ((w.alloc (Obj.cells #[Value.slice ao n c, Value.int .i64 0] 53)).alloc (Obj.cells #[Value.pointer (some ⟨B0, 0, none⟩), Value.slice none 0 0, Value.int .i64 (m : Int), Value.int .i64 0] 55)) = W at *
  obtain ⟨SS, hSS⟩ : ∃ SS, SS = B0 + 1 := ⟨_, rfl⟩
  rw [← hSS] at HS ⊢
  have HB0 : Hid (B0 = w.heap.size) := hB0
  clear hB0 hSS
  go_loopg [] 1 (fun _ wr => Hid (Stm wr B0 SS B0 n X 0 [] m) ∧ Hid (Below B0 w wr))
  case atStart => exact ⟨HS, HB⟩
  case round =>
    clear HS HB
    obtain ⟨HS, HB⟩ := hrel
    go_wp2_with fail
    refine (HBK.out wr B0 SS B0 HS.out).mono ?_
    rintro e w2 ⟨rfl, h2, f2⟩
    have k0 := h2.c0
    obtain ⟨ya, yc, k1, hrd⟩ := h2.c1
    rw [← HX.out] at k1 hrd
    have HR : Hid (Rd w2.drew ya lx' yc bs) := hrd.keep (Below.refl _ _).drew
    have HB2 : Hid (Below B0 w w2.drew) := (HB.out.trans f2.bel).drew
    obtain ⟨ra, rc, rv, h3⟩ := h2.drew
    have hpast := ypast_any B0 ra n rc X (fb F) w2.drew h3.rd
    rw [← HU.out] at hpast
    clear h2 f2 hrd HS HB h3
    go_wp2_with fail
    go_region_with (go_at_call 30; refine hpast.mono ?_; rintro e w9 ⟨rfl, hw⟩; subst w9)
    all_goals
      go_wp2_with fail
      go_ret3
      exact ⟨ya, yc, rfl, HR.out, by rw [← HB0.out]; exact HB2.out⟩

end Go.Proofs.YtiahbicodlgmhaaGreatDoor.D
