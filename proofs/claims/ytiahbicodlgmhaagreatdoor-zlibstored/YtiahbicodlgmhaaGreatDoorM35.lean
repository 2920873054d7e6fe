/- ZBlk0, ZRead, ZRd, ZPx, ZDf. -/
import Derived.Test.YtiahbicodlgmhaaGreatDoorM34
import Derived.Test.YtiahbicodlgmhaaGreatDoorM33
import Derived.Test.YtiahbicodlgmhaaGreatDoorM31
/- A block by what its kind does. -/
namespace Go.Proofs.YtiahbicodlgmhaaGreatDoor.Z
open Go.RowKit

theorem block_short {X : Int} {n m p : Nat} {os : List Int} {f k : Int} (hl : Cut X n p [(f, 1), (k, 2)]) (os' : List Int) (p' : Nat) : Blk X n m p os true 3 os' p' := by
  intro w B S R h _ _
  obtain ⟨e1, p1 | ⟨p1, hl1⟩⟩ := hl.head
  · have hc := sget_no B S R n X p 1 os m w h p1
    clear hl e1 p1 h
    go_enter Tryz.func34, Tryz.ntmps34
    go_wp2_with (go_at_call 60; refine hc.mono ?_; rintro e w1 ⟨rfl, hw1⟩)
    go_ret2
    exact ⟨_, rfl, (fun e => by omega), hw1⟩
  obtain ⟨e2, p2 | ⟨p2, hl2⟩⟩ := hl1.head
  · simp only at e1 p1
    have hc := sget_any B S R n X p 1 os m w h (by omega) p1
    rw [e1] at hc
    clear hl hl1 e2 h
    go_enter Tryz.func34, Tryz.ntmps34
    go_wp2_with fail
    refine hc.mono ?_
    rintro e w1 ⟨rfl, h1, hw1⟩
    have hc2 := sget_no B S R n X (p + 1) 2 os m w1 h1 p2
    clear h1 hc
    go_wp2_with fail
    refine hc2.mono ?_
    rintro e w2 ⟨rfl, hw2⟩
    go_wp2
    go_ret2
    exact ⟨_, rfl, (fun e => by omega), hw1.trans hw2⟩
  · have h1 := hl2.ge
    have h2 := hl2.sh
    simp only [fb] at h1 h2
    omega

theorem block_k0 {X : Int} {n m p : Nat} {os : List Int} {f g : Int} {os' : List Int} {P : Nat} (hl : Lay X n p [(f, 1), (0, 2)])
    (hk : ∀ (w : World) (B S R : Nat), Stm w B S R n X (p + 1 + 2) os m → Calls Tryz.prog 61 #[.pointer (some ⟨S, 0, none⟩)] w fun e w' => e = .returned (.int .i64 g) ∧ (g = 0 → Stm w' B S R n X P os' m) ∧ Sw B w w') : Blk X n m p os (f == 1) g os' P := by
  intro w B S R h _ _
  obtain ⟨e1, p1, hl1⟩ := hl.head
  obtain ⟨e2, p2', hl2⟩ := hl1.head
  simp only at e1 p1 e2 p2'
  clear hl hl1 hl2
  go_enter Tryz.func34, Tryz.ntmps34
  go_wp2_with fail
  refine (sget_any B S R n X p 1 os m w h (by omega) p1).mono ?_
  rintro e w1 ⟨rfl, h1, f1⟩
  rw [e1]
  clear h
  go_wp2_with fail
  refine (sget_any B S R n X (p + 1) 2 os m w1 h1 (by omega) p2').mono ?_
  rintro e w2 ⟨rfl, h2, f2⟩
  rw [e2]
  have F2 : Hid (Sw B w w2) := f1.trans f2
  have hc := hk w2 B S R h2
  clear h1 f1 f2 e1 e2 p1 p2' h2 hk
  go_wp2_with (go_at_call 61; refine hc.mono ?_; rintro e w3 ⟨rfl, h3, f3⟩)
  go_ret2
  exact ⟨_, rfl, fun hg => ⟨rfl, h3 hg⟩, F2.out.trans f3⟩

theorem block_k1 {X : Int} {n m p : Nat} {os : List Int} {f g : Int} {os' : List Int} {P : Nat} (hl : Lay X n p [(f, 1), (1, 2)])
    (hk : ∀ (w : World) (B S R : Nat) (la : Option Addr) (lc : Nat) (da : Option Addr) (dc : Nat), Stm w B S R n X (p + 1 + 2) os m → Ri w la 288 lc fl → Ri w da 32 dc dl → Calls Tryz.prog 62 #[.pointer (some ⟨S, 0, none⟩), .slice la 288 lc, .slice da 32 dc] w fun e w' => e = .returned (.int .i64 g) ∧ (g = 0 → Stm w' B S R n X P os' m) ∧ Sw B w w') : Blk X n m p os (f == 1) g os' P := by
  intro w B S R h _ _
  obtain ⟨e1, p1, hl1⟩ := hl.head
  obtain ⟨e2, p2', hl2⟩ := hl1.head
  simp only at e1 p1 e2 p2'
  clear hl hl1 hl2
  go_enter Tryz.func34, Tryz.ntmps34
  go_wp2_with fail
  refine (sget_any B S R n X p 1 os m w h (by omega) p1).mono ?_
  rintro e w1 ⟨rfl, h1, f1⟩
  rw [e1]
  clear h
  go_wp2_with fail
  refine (sget_any B S R n X (p + 1) 2 os m w1 h1 (by omega) p2').mono ?_
  rintro e w2 ⟨rfl, h2, f2⟩
  rw [e2]
  have F2 : Hid (Sw B w w2) := f1.trans f2
  clear h1 f1 f2 e1 e2 p1 p2'
  go_wp2_with (go_at_call 63; refine (fixed_any w2).mono ?_; rintro e w3 ⟨la, lc, da, rfl, r3, d3, b3⟩)
  have hc := hk w3 B S R la lc (some ⟨da, 0, none⟩) 32 (h2.keep b3) r3 (Ri.row d3)
  have F3 : Hid (Sw B w w3) := F2.out.trans (Sw.keep h2.bB b3)
  clear h2 r3 d3 b3 F2 hk
  refine hc.mono ?_
  rintro e w4 ⟨rfl, h4, f4⟩
  have F4 : Hid (Sw B w w4) := F3.out.trans f4
  have H4 : Hid (g = 0 → Stm w4 B S R n X P os' m) := h4
  clear h4 f4 F3 hc
  go_wp2
  go_ret2
  exact ⟨_, rfl, fun hg => ⟨rfl, H4.out hg⟩, F4.out⟩

theorem block_k2 {X : Int} {n m p : Nat} {os : List Int} {f g : Int} {os' : List Int} {P : Nat} (hl : Lay X n p [(f, 1), (2, 2)])
    (hk : ∀ (w : World) (B S R : Nat), Stm w B S R n X (p + 1 + 2) os m → Tab w 0 → 0 < B → Calls Tryz.prog 64 #[.pointer (some ⟨S, 0, none⟩)] w fun e w' => e = .returned (.int .i64 g) ∧ (g = 0 → Stm w' B S R n X P os' m) ∧ Sw B w w') : Blk X n m p os (f == 1) g os' P := by
  intro w B S R h hT hB
  obtain ⟨e1, p1, hl1⟩ := hl.head
  obtain ⟨e2, p2', hl2⟩ := hl1.head
  simp only at e1 p1 e2 p2'
  have HT : Hid (Tab w 0) := hT
  clear hl hl1 hl2 hT
  go_enter Tryz.func34, Tryz.ntmps34
  go_wp2_with fail
  refine (sget_any B S R n X p 1 os m w h (by omega) p1).mono ?_
  rintro e w1 ⟨rfl, h1, f1⟩
  rw [e1]
  clear h
  go_wp2_with fail
  refine (sget_any B S R n X (p + 1) 2 os m w1 h1 (by omega) p2').mono ?_
  rintro e w2 ⟨rfl, h2, f2⟩
  rw [e2]
  have F2 : Hid (Sw B w w2) := f1.trans f2
  have hT2 : Tab w2 0 := fun j hj => by
    rw [F2.out.bel.cell hB]
    exact HT.out j hj
  have hc := hk w2 B S R h2 hT2 hB
  clear h1 f1 f2 e1 e2 p1 p2' h2 hk hT2
  go_wp2_with (go_at_call 64; refine hc.mono ?_; rintro e w3 ⟨rfl, h3, f3⟩)
  go_ret2
  exact ⟨_, rfl, fun hg => ⟨rfl, h3 hg⟩, F2.out.trans f3⟩

end Go.Proofs.YtiahbicodlgmhaaGreatDoor.Z

/- What Deflate writes, read. -/
namespace Go.Proofs.YtiahbicodlgmhaaGreatDoor.Z
open Go.RowKit

theorem blk_sto {X : Int} {n m p : Nat} {os cs : List Int} {f : Int} (hl : Lay X n p (sto1 f cs)) (h8 : p % 8 = 0) (hb : ∀ x ∈ cs, 0 ≤ x ∧ x < 256) (hc : cs.length ≤ 65535) (hr : os.length + cs.length ≤ m) (hm : m ≤ 1000000) : Blk X n m p os (f == 1) 0 (os ++ cs) (p + 40 + 8 * cs.length) := by
  intro w B S R h _ _
  refine (block_stored B S R n X p os cs m f w h h8 hb hc hr hm hl).mono ?_
  rintro e w' ⟨rfl, h1, h2⟩
  exact ⟨_, rfl, fun _ => ⟨rfl, h1⟩, h2⟩

theorem blk_sto_cut {X : Int} {n m p : Nat} {os cs : List Int} {f : Int} (hl : Cut X n p (sto1 f cs)) (h8 : p % 8 = 0) (hb : ∀ x ∈ cs, 0 ≤ x ∧ x < 256) (hc : cs.length ≤ 65535) (hr : os.length + cs.length ≤ m) (hm : m ≤ 1000000) : ∃ b, Blk X n m p os b 3 [] 0 := by
  have hl' : Cut X n p ([(f, 1), (0, 2)] ++ ((0, 5) :: ((cs.length : Int), 16) :: (65535 - (cs.length : Int), 16) :: bfs cs)) := hl
  rcases hl'.app with h1 | ⟨h1, h2⟩
  · exact ⟨_, block_short h1 [] 0⟩
  · refine ⟨_, block_k0 h1 (fun w B S R h => ?_)⟩
    refine (sstored_cut B S R n X (p + 1 + 2) os cs m w h (by omega) hb hc hr hm h2).mono ?_
    rintro e w' ⟨rfl, h3⟩
    exact ⟨rfl, (fun e => by omega), h3⟩

theorem blk_sto_long {X : Int} {n m p : Nat} {os cs : List Int} {f : Int} (hl : Lay X n p (sto1 f cs)) (h8 : p % 8 = 0) (hc : cs.length ≤ 65535) (ho : os.length ≤ 1000000) (hr : m < os.length + cs.length) (hm : m ≤ 1000000) : ∃ b, Blk X n m p os b 5 [] 0 := by
  have hl' : Lay X n p ([(f, 1), (0, 2)] ++ ([(0, 5), ((cs.length : Int), 16)] ++ ((65535 - (cs.length : Int), 16) :: bfs cs))) := hl
  refine ⟨_, block_k0 hl'.front (fun w B S R h => ?_)⟩
  refine (sstored_long B S R n X (p + 1 + 2) os m cs.length w h (by omega) hc ho hr hm hl'.tail.front).mono ?_
  rintro e w' ⟨rfl, h3⟩
  exact ⟨rfl, (fun e => by omega), h3⟩

theorem blk_fix {X : Int} {n m p : Nat} {os : List Int} {is : List It} (hl : Lay X n p ([(1, 1), (1, 2)] ++ encS fl 288 dl 32 (stps is ++ [eos]))) (hok : ∀ i ∈ is, i.ok) (hr : os.length ≤ m) (hm : m ≤ 1000000) {g : Int} {os' : List Int} (hG : play m is os = (g, os')) : Blk X n m p os true g os' (p + fb ([(1, 1), (1, 2)] ++ encS fl 288 dl 32 (stps is ++ [eos]))) := by
  have e := encS_eqv (L := fl) (L' := fl) (mA := 288) (D := dl) (D' := dl) (mD := 32) (fun _ _ => rfl) (fun _ _ => rfl) (by omega) (fix_okG hok)
  have hft : Ft (encsG fl 288 dl 32 is ++ [gf fl 288 256]) := (encsG_ft (fix_okG hok)).app (Ft.cons (gf_ft _ _ _).1 (gf_ft _ _ _).2 Ft.nil)
  have hl2 := lay_eqv hl.tail e hft
  refine block_k1 (f := 1) hl.front (fun w B S R la lc da dc h hA hD => ?_)
  have hP : p + 1 + 2 + fb (encsG fl 288 dl 32 is) + (fl 256).toNat = p + fb ([(1, 1), (1, 2)] ++ encS fl 288 dl 32 (stps is ++ [eos])) := by
    rw [fb_app, e.2, fb_app]
    simp only [fb, gf]
    omega
  refine (scoded_g fl 288 dl 32 fl_nw dl_nw fl_fits dl_fits ⟨by omega, by decide, by decide⟩ B S R n X (p + 1 + 2) os m la lc da dc is w h hA hD (fix_okG hok) hl2 hm hr (g, os') hG _ hP).mono ?_
  rintro e w' ⟨rfl, h1, h2⟩
  exact ⟨rfl, h1, h2⟩

theorem blk_fix_cut {X : Int} {n m p : Nat} {os : List Int} {is : List It} (hl : Cut X n p ([(1, 1), (1, 2)] ++ encS fl 288 dl 32 (stps is ++ [eos]))) (hok : ∀ i ∈ is, i.ok) (hr : os.length ≤ m) (hm : m ≤ 1000000) (hG : (play m is os).1 = 0) : ∃ b, Blk X n m p os b 3 [] 0 := by
  have e := encS_eqv (L := fl) (L' := fl) (mA := 288) (D := dl) (D' := dl) (mD := 32) (fun _ _ => rfl) (fun _ _ => rfl) (by omega) (fix_okG hok)
  have hft : Ft (encsG fl 288 dl 32 is ++ [gf fl 288 256]) := (encsG_ft (fix_okG hok)).app (Ft.cons (gf_ft _ _ _).1 (gf_ft _ _ _).2 Ft.nil)
  rcases hl.app with h1 | ⟨h1, h2⟩
  · exact ⟨_, block_short h1 [] 0⟩
  · have hl2 := cut_eqv h2 e hft
    refine ⟨_, block_k1 h1 (fun w B S R la lc da dc h hA hD => ?_)⟩
    refine (scoded_no fl 288 dl 32 fl_nw dl_nw fl_fits dl_fits ⟨by omega, by decide, by decide⟩ B S R n X (p + 1 + 2) os m la lc da dc is w h hA hD (fix_okG hok) hl2 hm hr hG).mono ?_
    rintro e w' ⟨rfl, h3⟩
    exact ⟨rfl, (fun e => by omega), h3⟩

theorem hdf_ft {is : List It} {nl nd vn : Nat} {L0 L1 Lc : Nat → Int} {qs : List Cl} (h : Tm is nl nd vn L0 L1 Lc qs) (hok : ∀ i ∈ is, i.ok) : Ft (hdf (vso Lc vn) qs nl nd ++ (encsG (fun j => (fso nl nd L0 L1).getD j 0) nl (fun j => (fso nl nd L0 L1).getD (nl + j) 0) nd is ++ [gf (fun j => (fso nl nd L0 L1).getD j 0) nl 256])) := by
  have hl : (vso Lc vn).length = vn := by simp [vso]
  have l0 := h.l0
  have l1 := h.l1
  have d0 := h.d0
  have d1 := h.d1
  have v4 := h.v4
  have v19 := h.v19
  refine Ft.app ?_ ((encsG_ft (h.okG hok)).app (Ft.cons (gf_ft _ _ _).1 (gf_ft _ _ _).2 Ft.nil))
  have hv : ∀ vs : List Nat, (∀ x ∈ vs, x < 8) → Ft (vfs vs) := fun vs => by
    induction vs with
    | nil => intro _; exact Ft.nil
    | cons x vs ih =>
      intro hx
      exact Ft.cons (by simp) (by have := hx x (by simp); show (x : Int) < 8; omega) (ih (fun y hy => hx y (by simp [hy])))
  have hq : ∀ (C : Nat → Int) (qs : List Cl) (ls : List Int), clsOk C qs ls → Ft (encC C qs) := fun C qs => by
    induction qs with
    | nil => intro _ _; exact Ft.nil
    | cons q qs ih =>
      intro ls hk
      refine Ft.cons (gf_ft _ _ _).1 (gf_ft _ _ _).2 (Ft.app ?_ (ih _ hk.2.2.2))
      have h1 := hk.1
      cases q with
      | len x => exact Ft.nil
      | rep v => exact Ft.cons (by simp) (by have : v < 4 := h1.1; show (v : Int) < 4; omega) Ft.nil
      | few v => exact Ft.cons (by simp) (by have : v < 8 := h1; show (v : Int) < 8; omega) Ft.nil
      | many v => exact Ft.cons (by simp) (by have : v < 128 := h1; show (v : Int) < 128; omega) Ft.nil
  unfold hdf
  rw [hl]
  simp only [List.cons_append]
  refine Ft.cons (by simp) (by show ((nl - 257 : Nat) : Int) < 32; omega) (Ft.cons (by simp) (by show ((nd - 1 : Nat) : Int) < 32; omega) (Ft.cons (by simp) (by show ((vn - 4 : Nat) : Int) < 16; omega) (Ft.app (hv _ ?_) ?_)))
  · intro x hx
    simp only [vso, List.mem_map, List.mem_range] at hx
    obtain ⟨k, hk, rfl⟩ := hx
    have ho := ord_lt k (by omega)
    by_cases hp : 0 < tl 0 (qs.map clst) (ord k)
    · have := h.gc.pos (ord k) ho hp; omega
    · have := h.gc.zer (ord k) ho hp; omega
  · have := h.hd.ok
    rw [hl] at this
    exact hq _ _ _ this

theorem blk_tld {X : Int} {n m p : Nat} {os : List Int} {is : List It} {nl nd vn : Nat} {L0 L1 Lc : Nat → Int} {qs : List Cl} (h : Tm is nl nd vn L0 L1 Lc qs) (hl : Lay X n p ([(1, 1), (2, 2)] ++ tlf Lc nl nd vn qs ++ encS L0 nl L1 nd (stps is ++ [eos]))) (hok : ∀ i ∈ is, i.ok) (hr : os.length ≤ m) (hm : m ≤ 1000000) {g : Int} {os' : List Int} (hG : play m is os = (g, os')) : Blk X n m p os true g os' (p + fb ([(1, 1), (2, 2)] ++ tlf Lc nl nd vn qs ++ encS L0 nl L1 nd (stps is ++ [eos]))) := by
  rw [List.append_assoc] at hl ⊢
  have e := h.fields hok
  have hl2 := lay_eqv hl.tail e (hdf_ft h hok)
  refine block_k2 (f := 1) hl.front (fun w B S R hs hT hB => ?_)
  obtain ⟨ao, c, v, hs⟩ := hs
  have hP : p + 1 + 2 + fb (hdf (vso Lc vn) qs nl nd) + fb (encsG (fun j => (fso nl nd L0 L1).getD j 0) nl (fun j => (fso nl nd L0 L1).getD (nl + j) 0) nd is) + ((fso nl nd L0 L1).getD 256 0).toNat = p + fb ([(1, 1), (2, 2)] ++ (tlf Lc nl nd vn qs ++ encS L0 nl L1 nd (stps is ++ [eos]))) := by
    rw [fb_app, e.2, fb_app, fb_app]
    simp only [fb, gf]
    omega
  refine (stold_any B S R ao n c X (p + 1 + 2) v os m _ _ _ nl nd is w hs hT hB h.hd (h.okG hok) hl2 hm hr (g, os') hG _ hP).mono ?_
  rintro e w' ⟨rfl, h1, h2⟩
  exact ⟨rfl, h1, h2⟩

theorem blk_tld_cut {X : Int} {n m p : Nat} {os : List Int} {is : List It} {nl nd vn : Nat} {L0 L1 Lc : Nat → Int} {qs : List Cl} (h : Tm is nl nd vn L0 L1 Lc qs) (hl : Cut X n p ([(1, 1), (2, 2)] ++ tlf Lc nl nd vn qs ++ encS L0 nl L1 nd (stps is ++ [eos]))) (hok : ∀ i ∈ is, i.ok) (hr : os.length ≤ m) (hm : m ≤ 1000000) (hG : (play m is os).1 = 0) : ∃ b, Blk X n m p os b 3 [] 0 := by
  rw [List.append_assoc] at hl
  have e := h.fields hok
  rcases hl.app with h1 | ⟨h1, h2⟩
  · exact ⟨_, block_short h1 [] 0⟩
  · have hl2 := cut_eqv h2 e (hdf_ft h hok)
    refine ⟨_, block_k2 h1 (fun w B S R hs hT hB => ?_)⟩
    obtain ⟨ao, c, v, hs⟩ := hs
    refine (stold_no B S R ao n c X (p + 1 + 2) v os m _ _ _ nl nd is w hs hT hB h.hd (h.okG hok) hl2 hm hr hG).mono ?_
    rintro e w' ⟨rfl, h3⟩
    exact ⟨rfl, (fun e => by omega), h3⟩

theorem stk_pre (last : Bool) (bs : List Int) (j : Nat) : ∀ d, ∃ r, stk last bs (j + d) = stk last bs j ++ r
  | 0 => ⟨[], by simp⟩
  | d + 1 => by
    obtain ⟨r, hr⟩ := stk_pre last bs j d
    exact ⟨r ++ sto1 (lb1 (last && decide (bs.length ≤ 65535 * (j + d + 1)))) (zsl bs (j + d)), by rw [← Nat.add_assoc]; simp only [stk, hr, List.append_assoc]⟩

theorem take_zsl (bs : List Int) (j : Nat) : bs.take (65535 * j) ++ zsl bs j = bs.take (65535 * (j + 1)) := by
  unfold zsl
  rw [show 65535 * (j + 1) = 65535 * j + 65535 by omega, List.take_add]

theorem sto_read {X : Int} {n m : Nat} {bs : List Int} (hl : Lay X n 0 (stk true bs (nck bs.length))) (hb : ∀ x ∈ bs, 0 ≤ x ∧ x < 256) (hr : bs.length ≤ m) (hm : m ≤ 1000000) : ∀ d j, j + d = nck bs.length → 1 ≤ d → InfB X n m d (fb (stk true bs j)) (bs.take (65535 * j)) 0 bs (fb (stk true bs (nck bs.length))) := by
  intro d
  induction d with
  | zero => intro j _ h; omega
  | succ d ih =>
    intro j hj _
    obtain ⟨r, hr1⟩ := stk_pre true bs (j + 1) d
    have hlj : Lay X n (0 + fb (stk true bs j)) (sto1 (lb1 (true && decide (bs.length ≤ 65535 * (j + 1)))) (zsl bs j)) := by
      rw [← hj, show j + (d + 1) = j + 1 + d by omega, hr1] at hl
      exact hl.front.tail
    rw [Nat.zero_add] at hlj
    have hz := zsl_len bs j
    have hf := stk_fb true bs j (by omega)
    have hf1 := stk_fb true bs (j + 1) (by omega)
    have hjl : 65535 * j ≤ bs.length := by unfold nck at hj; omega
    have hblk := blk_sto (os := bs.take (65535 * j)) (m := m) hlj (by omega) (fun x hx => hb x (List.mem_of_mem_drop (List.mem_of_mem_take hx))) (by omega) (by rw [List.length_take]; omega) hm
    rw [take_zsl, show fb (stk true bs j) + 40 + 8 * (zsl bs j).length = fb (stk true bs (j + 1)) by rw [hf, hf1, hz]; omega] at hblk
    by_cases hd : d = 0
    · subst hd
      have e1 : bs.length ≤ 65535 * (j + 1) := by unfold nck at hj; omega
      rw [decide_eq_true e1, List.take_of_length_le e1, hj] at hblk
      exact InfB.last 0 _ _ _ _ hblk
    · have e1 : ¬ bs.length ≤ 65535 * (j + 1) := by unfold nck at hj; omega
      rw [decide_eq_false e1] at hblk
      exact InfB.more d _ _ _ _ _ _ _ hblk (ih (j + 1) (by omega) (by omega))

end Go.Proofs.YtiahbicodlgmhaaGreatDoor.Z

/- What Deflate writes, read: whole, cut, and without room. -/
namespace Go.Proofs.YtiahbicodlgmhaaGreatDoor.Z
open Go.RowKit

theorem dfl_read {bs : List Int} {F : List Fd} {X : Int} {n m : Nat} (h : Dfl bs F) (hb : ∀ x ∈ bs, 0 ≤ x ∧ x < 256) (hl : Lay X n 0 F) (hr : bs.length ≤ m) (hm : m ≤ 1000000) : ∃ k, InfB X n m k 0 [] 0 bs (fb F) := by
  cases h with
  | sto =>
    have := sto_read hl hb hr hm (nck bs.length) 0 (by omega) (by unfold nck; omega)
    exact ⟨_, by simpa [stk, fb] using this⟩
  | fix is h1 h2 =>
    have := blk_fix hl h1 (os := []) (by simp) hm ((h2 m).1 hr)
    rw [Nat.zero_add] at this
    exact ⟨1, InfB.last 0 _ _ _ _ this⟩
  | tld is nl nd vn L0 L1 Lc qs h1 h2 h3 =>
    have := blk_tld h3 hl h1 (os := []) (by simp) hm ((h2 m).1 hr)
    rw [Nat.zero_add] at this
    exact ⟨1, InfB.last 0 _ _ _ _ this⟩

theorem stk_one (bs : List Int) (h : bs.length ≤ 65535) : stk true bs (nck bs.length) = sto1 1 bs := by
  have e : nck bs.length = 1 := by unfold nck; omega
  rw [e]
  simp only [stk, List.nil_append, Bool.true_and, zsl]
  rw [decide_eq_true (by omega), Nat.mul_zero, List.drop_zero, List.take_of_length_le h]
  rfl

theorem dfl_cut {bs : List Int} {F : List Fd} {X : Int} {n m : Nat} (h : Dfl bs F) (hb : ∀ x ∈ bs, 0 ≤ x ∧ x < 256) (hl : Cut X n 0 F) (hs : bs.length ≤ 65535) (hr : bs.length ≤ m) (hm : m ≤ 1000000) : ∃ k, InfB X n m k 0 [] 3 [] 0 := by
  have fin : (∃ b, Blk X n m 0 [] b 3 [] 0) → ∃ k, InfB X n m k 0 [] 3 [] 0 := fun ⟨b, hb⟩ => ⟨1, InfB.err 0 _ _ _ _ _ _ _ _ hb (by decide)⟩
  cases h with
  | sto =>
    rw [stk_one bs hs] at hl
    exact fin (blk_sto_cut hl rfl hb hs (by simpa using hr) hm)
  | fix is h1 h2 => exact fin (blk_fix_cut hl h1 (by simp) hm (by rw [(h2 m).1 hr]))
  | tld is nl nd vn L0 L1 Lc qs h1 h2 h3 => exact fin (blk_tld_cut h3 hl h1 (by simp) hm (by rw [(h2 m).1 hr]))

theorem dfl_long {bs : List Int} {F : List Fd} {X : Int} {n m : Nat} (h : Dfl bs F) (hl : Lay X n 0 F) (hs : bs.length ≤ 65535) (hr : m < bs.length) (hm : m ≤ 1000000) : ∃ k, InfB X n m k 0 [] 5 [] 0 := by
  cases h with
  | sto =>
    rw [stk_one bs hs] at hl
    obtain ⟨b, hb⟩ := blk_sto_long (os := []) (m := m) hl rfl hs (by simp) (by simpa using hr) hm
    exact ⟨1, InfB.err 0 _ _ _ _ _ _ _ _ hb (by decide)⟩
  | fix is h1 h2 =>
    obtain ⟨x, hx⟩ := (h2 m).2 hr
    exact ⟨1, InfB.err 0 _ _ _ _ _ _ _ _ (blk_fix hl h1 (os := []) (by simp) hm hx) (by decide)⟩
  | tld is nl nd vn L0 L1 Lc qs h1 h2 h3 =>
    obtain ⟨x, hx⟩ := (h2 m).2 hr
    exact ⟨1, InfB.err 0 _ _ _ _ _ _ _ _ (blk_tld h3 hl h1 (os := []) (by simp) hm hx) (by decide)⟩

theorem by8_app (N Y : Int) (a : Nat) (h0 : 0 ≤ N) (h1 : N < 2 ^ (8 * a)) : ∀ b, by8 (N + 2 ^ (8 * a) * Y) (a + b) = by8 N a ++ by8 Y b
  | 0 => by rw [Nat.add_zero, by8_put _ _ _ _ (Nat.le_refl _)]; simp [by8]
  | b + 1 => by
    rw [← Nat.add_assoc, by8_succ, by8_app N Y a h0 h1 b, by8_succ, List.append_assoc, show 8 * (a + b) = 8 * a + 8 * b by omega, ← div_div, put_high N Y _ h0 h1]

/-- The bytes of fields, and bytes behind them. -/
theorem byF_tail {F : List Fd} (hf : Ft F) (ts : List Int) (ht : ∀ x ∈ ts, 0 ≤ x ∧ x < 256) (n : Nat) (hn : n = (fb F + 7) / 8 + ts.length) : ∃ X, by8 X n = byF F ++ ts ∧ Lay X n 0 F := by
  obtain ⟨Y, y0, y1, hY⟩ := by8_exists ts ht
  obtain ⟨f0, f1⟩ := fv_bound hf
  have hle : fb F ≤ 8 * ((fb F + 7) / 8) := by omega
  have hp := p2_le (fb F) (8 * ((fb F + 7) / 8)) hle
  refine ⟨fv F + 2 ^ (8 * ((fb F + 7) / 8)) * Y, ?_, hf, by omega, 2 ^ (8 * ((fb F + 7) / 8) - fb F) * Y, ?_⟩
  · rw [hn, by8_app _ _ _ f0 (by omega), hY]
    rfl
  · rw [← Int.mul_assoc, ← Int.pow_add, show fb F + (8 * ((fb F + 7) / 8) - fb F) = 8 * ((fb F + 7) / 8) by omega]
    simp

theorem by8_take (N : Int) (n m : Nat) (h : n ≤ m) : (by8 N m).take n = by8 N n := by
  apply List.ext_getElem?
  intro i
  rw [List.getElem?_take]
  by_cases hi : i < n
  · rw [if_pos hi]
    simp [by8, hi, show i < m by omega]
  · rw [if_neg hi]
    simp [by8, hi]

theorem byF_cut {F : List Fd} (hf : Ft F) (n : Nat) (hn : n < (fb F + 7) / 8) : by8 (fv F) n = (byF F).take n ∧ Cut (fv F) n 0 F :=
  ⟨(by8_take _ _ _ (by omega)).symm, ⟨(fb F + 7) / 8, Lay.of hf (by omega)⟩, by omega, by omega⟩

theorem byF_len (F : List Fd) : (byF F).length = (fb F + 7) / 8 := by8_len _ _

/-- Inflate of what Deflate wrote, whatever stands behind. -/
theorem infl_read {bs : List Int} {F : List Fd} (h : Dfl bs F) (hf : Ft F) (hb : ∀ x ∈ bs, 0 ≤ x ∧ x < 256) (ts : List Int) (ao : Option Addr) (n c m : Nat) (w : World) (hr : Rd w ao n c (byF F ++ ts)) (hn : n ≤ 1000000000) (hT : Tab w 0) (hm : bs.length ≤ m) (hm2 : m ≤ 262144) :
    Calls Tryz.prog 16 #[.slice ao n c, .int .i64 m] w fun e w' => ∃ xo xc, e = .returned (.tuple #[.slice xo bs.length xc, .int .i64 ((fb F + 7) / 8 : Nat), .int .i64 0]) ∧ Rd w' xo bs.length xc bs ∧ Below w.heap.size w w' := by
  have hl := hr.len
  rw [List.length_append, byF_len] at hl
  obtain ⟨X, h1, h2⟩ := byF_tail hf ts (fun x hx => hr.byt x (by simp [hx])) n hl.symm
  obtain ⟨k, hk⟩ := dfl_read h hb h2 hm (by omega)
  exact inflate_b ao n c X m k 0 bs (fb F) bs _ w (by rw [h1]; exact hr) hn hm2 hT hk (.inl ⟨rfl, rfl, rfl⟩)

theorem infl_long {bs : List Int} {F : List Fd} (h : Dfl bs F) (hf : Ft F) (hs : bs.length ≤ 65535) (ts : List Int) (ao : Option Addr) (n c m : Nat) (w : World) (hr : Rd w ao n c (byF F ++ ts)) (hn : n ≤ 1000000000) (hT : Tab w 0) (hm : m < bs.length) (hm2 : m ≤ 262144) :
    Calls Tryz.prog 16 #[.slice ao n c, .int .i64 m] w fun e w' => ∃ xo xc, e = .returned (.tuple #[.slice xo 0 xc, .int .i64 0, .int .i64 5]) ∧ Below w.heap.size w w' := by
  have hl := hr.len
  rw [List.length_append, byF_len] at hl
  obtain ⟨X, h1, h2⟩ := byF_tail hf ts (fun x hx => hr.byt x (by simp [hx])) n hl.symm
  obtain ⟨k, hk⟩ := dfl_long h h2 hs hm (by omega)
  refine (inflate_b ao n c X m k 5 [] 0 [] 0 w (by rw [h1]; exact hr) hn hm2 hT hk (.inr ⟨by decide, rfl, rfl⟩)).mono ?_
  rintro e w' ⟨xo, xc, rfl, _, h3⟩
  exact ⟨xo, xc, rfl, h3⟩

theorem infl_cut {bs : List Int} {F : List Fd} (h : Dfl bs F) (hf : Ft F) (hb : ∀ x ∈ bs, 0 ≤ x ∧ x < 256) (hs : bs.length ≤ 65535) (ao : Option Addr) (n c m : Nat) (w : World) (hr : Rd w ao n c ((byF F).take n)) (hnF : n < (fb F + 7) / 8) (hn : n ≤ 1000000000) (hT : Tab w 0) (hm : bs.length ≤ m) (hm2 : m ≤ 262144) :
    Calls Tryz.prog 16 #[.slice ao n c, .int .i64 m] w fun e w' => ∃ xo xc, e = .returned (.tuple #[.slice xo 0 xc, .int .i64 0, .int .i64 3]) ∧ Below w.heap.size w w' := by
  obtain ⟨h1, h2⟩ := byF_cut hf n hnF
  obtain ⟨k, hk⟩ := dfl_cut h hb h2 hs hm (by omega)
  refine (inflate_b ao n c (fv F) m k 3 [] 0 [] 0 w (by rw [h1]; exact hr) hn hm2 hT hk (.inr ⟨by decide, rfl, rfl⟩)).mono ?_
  rintro e w' ⟨xo, xc, rfl, _, h3⟩
  exact ⟨xo, xc, rfl, h3⟩

end Go.Proofs.YtiahbicodlgmhaaGreatDoor.Z

/- A block put by its least cost. -/
namespace Go.Proofs.YtiahbicodlgmhaaGreatDoor.Z
open Go.RowKit

theorem CS_same (L D D' : Nat → Int) : ∀ k, (∀ j, j < k → D' j = D j) → Lim.CS L D' k = Lim.CS L D k
  | 0, _ => rfl
  | k + 1, h => by
    have ih := CS_same L D D' k (fun j hj => h j (by omega))
    simp only [Lim.CS, ih, h k (by omega)]

theorem CS_hit (L D D' : Nat → Int) (i : Nat) : ∀ k, (∀ j, j < k → D' j = (if i = j then 1 else 0) + D j) → i < k → Lim.CS L D' k = L i + Lim.CS L D k
  | 0, _, hi => by omega
  | k + 1, h, hi => by
    by_cases e : i = k
    · subst e
      have ih := CS_same L D D' i (fun j hj => by rw [h j (by omega), if_neg (by omega)]; omega)
      simp only [Lim.CS, ih, h i (by omega), if_pos, Int.mul_add, Int.mul_one]
      omega
    · have ih := CS_hit L D D' i k (fun j hj => h j (by omega)) (by omega)
      simp only [Lim.CS, ih, h k (by omega), if_neg e, Int.zero_add]
      omega

theorem encS_fb {La : Nat → Int} {na : Nat} {Lb : Nat → Int} {nb ka kb : Nat} : ∀ {ss : List Stp}, (∀ s ∈ ss, ∃ i u k : Nat, s.2 = ((i : Int), (u : Int), (k : Int)) ∧ ((s.1 = 0 ∧ i < ka ∧ 0 ≤ La i) ∨ (s.1 = 1 ∧ i < kb ∧ 0 ≤ Lb i))) → (fb (encS La na Lb nb ss) : Int) = exs ss + Lim.CS La (tl 0 ss) ka + Lim.CS Lb (tl 1 ss) kb
  | [], _ => by
    have e0 : ∀ (L : Nat → Int) (c : Int) (k : Nat), Lim.CS L (tl c []) k = 0 := fun L c k => by
      induction k with
      | zero => rfl
      | succ k ih =>
        show Lim.CS L (tl c []) k + L k * 0 = 0
        rw [ih, Int.mul_zero]; rfl
    simp [encS, fb, exs, e0]
  | s :: ss, h => by
    have ih := encS_fb (na := na) (nb := nb) (ss := ss) (fun x hx => h x (by simp [hx]))
    obtain ⟨i, u, k, e, h5⟩ := h s (by simp)
    obtain ⟨a, b⟩ := s
    simp only at e h5
    subst e
    rcases h5 with ⟨rfl, h6, h7⟩ | ⟨rfl, h6, h7⟩
    · have e1 := CS_hit La (tl 0 ss) (tl 0 ((0, (i : Int), (u : Int), (k : Int)) :: ss)) i ka (fun j _ => by simp only [tl, true_and, Int.natCast_inj]) h6
      have e2 := CS_same Lb (tl 1 ss) (tl 1 ((0, (i : Int), (u : Int), (k : Int)) :: ss)) kb (fun j _ => by simp [tl])
      rw [e1, e2]
      simp only [encS, fb_app, fb, exs, if_true, gf, Int.toNat_natCast]
      omega
    · have e1 := CS_same La (tl 0 ss) (tl 0 ((1, (i : Int), (u : Int), (k : Int)) :: ss)) ka (fun j _ => by simp [tl])
      have e2 := CS_hit Lb (tl 1 ss) (tl 1 ((1, (i : Int), (u : Int), (k : Int)) :: ss)) i kb (fun j _ => by simp only [tl, true_and, Int.natCast_inj]) h6
      rw [e1, e2]
      simp only [encS, fb_app, fb, exs, gf, Int.toNat_natCast]
      rw [if_neg (by decide)]
      simp only
      omega

theorem fix_fb {is : List It} (hok : ∀ i ∈ is, i.ok) : (fb (encS fl 288 dl 32 (stps is ++ [eos])) : Int) = bct fl 288 dl 32 (stps is ++ [eos]) := by
  unfold bct
  refine encS_fb (fun s hs => ?_)
  obtain ⟨i, u, k, e, _, _, h4⟩ := stps_shape hok s hs
  refine ⟨i, u, k, e, ?_⟩
  rcases h4 with ⟨a, b⟩ | ⟨a, b⟩
  · exact .inl ⟨a, by omega, by have := fl_pos i b; omega⟩
  · exact .inr ⟨a, by omega, by have := dl_pos i b; omega⟩

theorem told_fb {w : World} {T lo K : Nat} {R0 R1 Rb nl nd vn : Nat} {L0 L1 Lc : Nat → Int} {qs : List Cl} {oa oc ca : Nat} {sa : Option Addr} {sc : Nat} {l : List It} (hok : ∀ i ∈ l, i.ok) (h : Tg w T lo K (tl 0 (stps l ++ [eos])) (tl 1 (stps l ++ [eos])) R0 R1 Rb nl nd vn L0 L1 Lc qs oa oc ca sa sc) : (fb (encS L0 nl L1 nd (stps l ++ [eos])) : Int) = bct L0 nl L1 nd (stps l ++ [eos]) ∧ (fb (tlf Lc nl nd vn qs) : Int) = tct Lc vn qs := by
  have n0 := h.t0.le
  have n1 := h.t1.le
  constructor
  · unfold bct
    refine encS_fb (fun s hs => ?_)
    obtain ⟨i, u, k, e, _, _, h4⟩ := told_okP hok h s hs
    refine ⟨i, u, k, e, ?_⟩
    rcases h4 with ⟨a, b, c, d⟩ | ⟨a, b, c, d⟩
    · exact .inl ⟨a, by omega, by omega⟩
    · exact .inr ⟨a, by omega, by omega⟩
  · have q := encS_fb (La := Lc) (na := 19) (Lb := Lc) (nb := 19) (ka := 19) (kb := 0) (ss := qs.map clst) (fun s hs => by
      obtain ⟨i, u, k, e, _, _, h4⟩ := tg_okP h s hs
      refine ⟨i, u, k, e, ?_⟩
      have h1 : s.1 = 0 := by
        obtain ⟨q, _, rfl⟩ := List.mem_map.1 hs
        cases q <;> rfl
      rcases h4 with ⟨a, b, c, d⟩ | ⟨a, b, c, d⟩
      · exact .inl ⟨a, b, by omega⟩
      · rw [h1] at a; cases a)
    unfold tlf tct
    rw [fb_app, fb_app, vfo_fb]
    simp only [fb, Lim.CS] at *
    omega

set_option maxHeartbeats 2000000 in
theorem put_any (x B Q lo K : Nat) (A : Nat → Prop) (hA : ∀ k, lo ≤ k → k < K → A k) (da : Option Addr) (N dc : Nat) (bs : List Int) (is : List It) (hok : ∀ i ∈ is, i.ok) (hpl : Pl bs is) (sa : Option Addr) (sc g0 g1 f0 f1 T R0 R1 Rb nl nd vn : Nat) (L0 L1 Lc : Nat → Int) (qs : List Cl) (oa oc ca : Nat) (ta : Option Addr) (tc : Nat) (w : World) (h : Bk w x lo K (.slice da N dc) true is sa sc g0 g1 f0 f1 T R0 R1 Rb nl nd vn L0 L1 Lc qs oa oc ca ta tc) (hW : Wz w B Q A []) (hm : (stps is ++ [eos]).length ≤ 1000000) (hN : N ≤ 1000000) (hlen : bs.length = N) (hr : ∀ W, Zw B A w W → Rd W da N dc bs) :
    Calls Tryz.prog 26 #[.pointer (some ⟨x, 0, none⟩), .pointer (some ⟨Q, 0, none⟩)] w fun e w' => e = .returned (.tuple #[]) ∧ ∃ F, Dfl bs F ∧ Wz w' B Q A F ∧ Zw B A w w' ∧ fb F ≤ 8 * ssz N ∧ (fb F : Int) ≤ 3 + bct fl 288 dl 32 (stps is ++ [eos]) := by
  have hz : ∀ W, Below w.heap.size w W → Zw B A w W := fun W hb => Zw.keep hW.kB hW.kw hb
  have hmd : ∀ W, Below w.heap.size w W → Mid lo K w W := fun W hb => (hz W hb).md hA
  have hcs : sct (fb ([] : List Fd)) N = 8 * (ssz N : Int) := by simp [sct, fb]
  have htb := told_fb hok h.tg
  refine choose_any x B Q lo K A [] da N dc true is hok sa sc g0 g1 f0 f1 T R0 R1 Rb nl nd vn L0 L1 Lc qs oa oc ca ta tc w h hW hm hN (by simp [fb]) _ _ _ rfl rfl rfl (fun _ w' => ∃ F, Dfl bs F ∧ Wz w' B Q A F ∧ Zw B A w w' ∧ fb F ≤ 8 * ssz N ∧ (fb F : Int) ≤ 3 + bct fl 288 dl 32 (stps is ++ [eos])) ?_ ?_ ?_
  · intro c1 c2 W hb
    refine (putStored_any x B Q A [] da N dc bs true _ W (fun W' hz' => h.row.of_block (((hz W hb).trans hz').mid x (hA x h.bx.1 h.bx.2))) rfl rfl (fun W' hz' => hr W' ((hz W hb).trans hz')) hN (hW.keep hb) (by simp [fb]) (by simp [fb])).mono ?_
    rintro e w' ⟨rfl, h1, h2⟩
    refine ⟨rfl, stk true bs (nck N), ?_, ?_, (hz W hb).trans h2, ?_, ?_⟩
    · rw [← hlen]; exact .sto
    · rw [List.nil_append] at h1; exact h1
    · have := stk_full true bs; rw [hlen] at this; omega
    · have := stk_full true bs; rw [hlen] at this; omega
  · intro c1 c2 W hb
    refine (putFixed_any x B Q lo K A hA [] _ true is hok sa sc g0 g1 f0 f1 T R0 R1 Rb nl nd vn L0 L1 Lc qs oa oc ca ta tc W (h.mid (hmd W hb)) (hW.keep hb) hm (by simp [fb])).mono ?_
    rintro e w' ⟨rfl, h1, h2⟩
    have hf := fix_fb hok
    have e1 : (fb ([(1, 1), (1, 2)] ++ encS fl 288 dl 32 (stps is ++ [eos])) : Int) = 3 + bct fl 288 dl 32 (stps is ++ [eos]) := by
      rw [fb_app, ← hf]; simp [fb]
    refine ⟨rfl, [(1, 1), (1, 2)] ++ encS fl 288 dl 32 (stps is ++ [eos]), .fix is hok hpl, ?_, (hz W hb).trans h2, by omega, by omega⟩
    rw [List.nil_append] at h1
    exact h1
  · intro c1 c2 W hb
    refine (putTold_any x B Q lo K A hA [] _ true is hok sa sc g0 g1 f0 f1 T R0 R1 Rb nl nd vn L0 L1 Lc qs oa oc ca ta tc W (h.mid (hmd W hb)) (hW.keep hb) hm (by simp [fb])).mono ?_
    rintro e w' ⟨rfl, h1, h2⟩
    obtain ⟨t1, t2⟩ := htb
    have e1 : (fb ([(1, 1), (2, 2)] ++ tlf Lc nl nd vn qs ++ encS L0 nl L1 nd (stps is ++ [eos])) : Int) = 3 + tct Lc vn qs + bct L0 nl L1 nd (stps is ++ [eos]) := by
      rw [fb_app, fb_app, ← t1, ← t2]; simp [fb]
    refine ⟨rfl, [(1, 1), (2, 2)] ++ tlf Lc nl nd vn qs ++ encS L0 nl L1 nd (stps is ++ [eos]), .tld is nl nd vn L0 L1 Lc qs hok hpl h.tg.tm, ?_, (hz W hb).trans h2, by omega, by omega⟩
    rw [List.nil_append] at h1
    exact h1

end Go.Proofs.YtiahbicodlgmhaaGreatDoor.Z

/- Deflate. -/
namespace Go.Proofs.YtiahbicodlgmhaaGreatDoor.Z
open Go.RowKit

/-- What Deflate's one block tells. -/
structure Dd (bs : List Int) (eff : Int) (N : Nat) (F : List Fd) : Prop where
  dfl : Dfl bs F
  ft : Ft F
  le : fb F ≤ 8 * ssz N
  few : ∃ ts is, Lzz.Fd bs eff ts ∧ Its ts is ∧ (fb F : Int) ≤ 3 + bct fl 288 dl 32 (stps is ++ [eos])

theorem tab_keep {w w' : World} (h : Tab w 1) (hb : Below w.heap.size w w') : Tab w' 1 := fun j hj => by
  have := h j hj
  rw [hb.cell (World.block_lt_of_cell? _ _ this)]
  exact this

theorem own_slice {w : World} {base e s n : Nat} {v : Value} {xs : List Value} (h : w.ownsRow base e s v n xs) : ∃ ao c, v = .slice ao n c := by
  rcases h.2 with ⟨rfl, rfl⟩ | ⟨g, cap, cur, rfl, _⟩
  · exact ⟨none, 0, rfl⟩
  · exact ⟨_, _, rfl⟩

set_option maxRecDepth 100000 in
set_option maxHeartbeats 4000000 in
theorem deflate_any (da : Option Addr) (N dc : Nat) (bs : List Int) (eff : Int) (w : World) (hr : Rd w da N dc bs) (hN : N ≤ 16384) (he : eff < 9223372036854775808) (hT : Tab w 1) :
    Calls Tryz.prog 11 #[.slice da N dc, .int .i64 eff] w fun e w' => ∃ v F, e = .returned v ∧ Dd bs eff N F ∧ w'.ownsRow w.heap.size 5 1 v ((fb F + 7) / 8) ((byF F).map (Value.int .u8)) ∧ Below w.heap.size w w' := by
  have hnw := Lim.newW_any w
  have HRD : Hid (∀ W, Below w.heap.size w W → Rd W da N dc bs) := fun W hW => hr.keep hW
  have HLN : Hid (bs.length = N) := hr.len
  have HT : Hid (Tab w 1) := hT
  clear hr hT
  go_enter Tryz.func11, Tryz.ntmps11
  go_wp2_with (go_at_call 23; refine hnw.mono ?_; rintro e w1 ⟨R, rfl, hw1, hR, hb1⟩)
  have hfd := Lzz.find_any da N dc bs eff w1 (HRD.out w1 hb1) (by omega) he
  refine hfd.mono ?_
  rintro e w2 ⟨v, ts, rfl, hf, ho2, hb2⟩
  obtain ⟨ao, c, rfl, hnc, htk, hnn, _⟩ := Lzz.own_tk ho2 hf.fnd.byt
  have hcnt := hf.fnd.cnt
  rw [HLN.out] at hcnt
  obtain ⟨n, hn⟩ : ∃ n, n = ts.length := ⟨_, rfl⟩
  rw [← hn] at htk hnc hnn hcnt ⊢
  have B2 := hb1.trans (hb2.mono hb1.size)
  have hnb := newBlocks_any da N dc bs ao n c ts w2 (HRD.out w2 B2) htk hnc hnn (by omega) hN (by have := hf.fnd; rw [HLN.out] at this; exact this) (tab_keep HT.out B2)
  have HW1 : Hid (Wz w1 w.heap.size R (fun _ => False) []) := wz_new hw1 (Nat.le_of_eq hR)
  have HB1 : Hid (Below w.heap.size w w1) := hb1
  have HB12 : Hid (Below w1.heap.size w1 w2) := hb2
  have HFD : Hid (Lzz.Fd bs eff ts) := hf
  have HCN : Hid (n ≤ N) := hcnt
  have HTL : Hid (n = ts.length) := hn
  clear hnw hw1 hR hb1 hfd hf ho2 hb2 hnc htk hnn hcnt hn B2
  go_wp2_with (go_at_call 24; refine hnb.mono ?_; rintro e w3 ⟨g, cap, x, is, da', dc', rfl, hc, hsub, hits, hbk, hb3⟩)
  obtain ⟨K, sa, sc, g0, g1, f0, f1, T, R0, R1, Rb, nl, nd, vn, L0, L1, Lc, qs, oa, oc, ca, ta, tc, hK, hbk⟩ := hbk
  have B13 := HB12.out.trans (hb3.mono HB12.out.size)
  have hz : Wz w3 w.heap.size R (fun k => w2.heap.size ≤ k ∧ k < K) [] := HW1.out.more B13 _ (fun k hk => .inr ⟨by have := HB12.out.size; omega, by omega⟩)
  have B3 := HB1.out.trans (B13.mono HB1.out.size)
  have hil := hits.len
  have hsl := stps_le is
  have hput := put_any x w.heap.size R w2.heap.size K (fun k => w2.heap.size ≤ k ∧ k < K) (fun k h1 h2 => ⟨h1, h2⟩) da' N dc' bs is hits.ok (play_fnd HFD.out.fnd hits) sa sc g0 g1 f0 f1 T R0 R1 Rb nl nd vn L0 L1 Lc qs oa oc ca ta tc w3 hbk hz (by have := HTL.out; have := HCN.out; simp; omega) (by omega) HLN.out (fun W hW => hsub W (HRD.out W (B3.trans hW.bel)))
  have HB3 : Hid (Below w.heap.size w w3) := B3
  have HITS : Hid (Its ts is) := hits
  clear hnb hsub hits hbk hb3 B13 hz B3 hil hsl hK
  have HP : Hid (∀ W F, Dfl bs F → Wz W w.heap.size R (fun k => w2.heap.size ≤ k ∧ k < K) F → Zw w.heap.size (fun k => w2.heap.size ≤ k ∧ k < K) w3 W → fb F ≤ 8 * ssz N → (fb F : Int) ≤ 3 + bct fl 288 dl 32 (stps is ++ [eos]) → Dd bs eff N F ∧ Wz W w.heap.size R (fun k => w2.heap.size ≤ k ∧ k < K) F ∧ Below w.heap.size w W) := fun W F h1 h2 h3 h4 h5 => ⟨⟨h1, h2.ft, h4, ts, is, HFD.out, HITS.out, h5⟩, h2, HB3.out.trans h3.bel⟩
  go_loopg [19] 1 (fun gk iv wr => (gk = 1 ∧ iv = .int .i64 0 ∧ wr = w3) ∨ (iv = .int .i64 1 ∧ ∃ F, Hid (Dd bs eff N F ∧ Wz wr w.heap.size R (fun k => w2.heap.size ≤ k ∧ k < K) F ∧ Below w.heap.size w wr)))
  case atStart => exact .inl ⟨rfl, rfl, rfl⟩
  case round =>
    rcases hrel with ⟨hgk, rfl, rfl⟩ | ⟨rfl, F, HR⟩
    · go_wp2_with (go_at_call 26; refine hput.mono ?_; rintro e w4 ⟨rfl, F, h1, h2, h3, h4, h5⟩)
      have HR := HP.out w4 F h1 h2 h3 h4 h5
      go_roundg 0
      case measure => omega
      case rel => exact .inr ⟨rfl, F, HR⟩
    · obtain ⟨q1, q2, q3⟩ := HR.out
      have hl := q1.le
      have hss : ssz N ≤ 2000000 := by unfold ssz nck; omega
      have hdn := zdone_any w.heap.size R _ _ wr q2 (by omega)
      have hst := fun W => storedSize_any N W (by omega)
      have HBR : Hid (Below w.heap.size w wr) := q3
      have HDD : Hid (Dd bs eff N F) := q1
      have h8 : (fb F + 7) / 8 ≤ ssz N := by omega
      obtain ⟨m, hm⟩ : ∃ m, m = (fb F + 7) / 8 := ⟨_, rfl⟩
      rw [← hm] at h8
      have HM : Hid (m = (fb F + 7) / 8) := hm
      rw [← hm] at hdn
      obtain ⟨s9, hs9⟩ : ∃ s9, s9 = ssz N := ⟨_, rfl⟩
      rw [← hs9] at hst h8 hss
      clear hput hc HR q1 q2 q3 hl hm hs9
      go_wp2_with (first
        | (go_at_call 27; refine hdn.mono ?_; rintro e w5 ⟨v, rfl, o5, b5⟩; obtain ⟨va, vc, rfl⟩ := own_slice o5)
        | (go_at_call 28; refine (hst w5).mono ?_; rintro e w6 ⟨rfl, rfl⟩))
      go_ret
      refine ⟨.slice va m vc, F, rfl, HDD.out, ?_, HBR.out.trans (b5.mono HBR.out.size)⟩
      unfold byF
      rw [← HM.out]
      exact ownsRow_base o5 HBR.out.size

end Go.Proofs.YtiahbicodlgmhaaGreatDoor.Z
