/- WTold, WRun, WLens, ZSt. -/
import Derived.Test.YtiahbicodlgmhaaGreatDoorM08
import Derived.Test.YtiahbicodlgmhaaGreatDoorM01
/- Reading that leaves the stream's slices: get, more, a symbol, count; run. -/
namespace Go.Proofs.YtiahbicodlgmhaaGreatDoor
open Go.RowKit

theorem IsS.fr {P : Nat → Prop} {w w' : World} {B S R : Nat} {ao : Option Addr} {n c : Nat} {X : Int} {p : Nat} {v : Value} {os : List Int} {m : Int} (h : IsS w B S R ao n c X p v os m) (hf : Fr P w w') (hS : ¬ P S) (hR : ¬ P R) (hv : ∀ k, v.ownBlock = some k → ¬ P k) (ha : ∀ ad, ao = some ad → 0 < n → ¬ P ad.block) : IsS w' B S R ao n c X p v os m :=
  ⟨rowIs_fr h.row hf hS, h.rd.fr hf hR ha, ownsRow_fr h.own hf hv, h.byt, h.vS, h.vR, h.aS, h.av, Nat.le_trans h.bB hf.size, h.bS, h.bR, h.bv⟩

theorem IsS.inside {w : World} {B S R : Nat} {ao : Option Addr} {n c : Nat} {X : Int} {p : Nat} {v : Value} {os : List Int} {m : Int} (h : IsS w B S R ao n c X p v os m) : S < w.heap.size ∧ R < w.heap.size ∧ (∀ k, v.ownBlock = some k → k < w.heap.size) ∧ ∀ ad, ao = some ad → 0 < n → ad.block < w.heap.size :=
  ⟨h.row.lt, h.rd.row.lt, fun k hk => (h.own.lt k hk).2, fun ad had hn => by
    have hc := h.rd.rd.cells ad had 0 hn
    have := World.block_lt_of_cell? w _ hc
    rwa [show (ad.add 0).block = ad.block by unfold Addr.add; split <;> rfl] at this⟩

section
variable (B S R : Nat) (ao : Option Addr) (n c : Nat) (X : Int) (p : Nat) (v : Value) (os : List Int) (m : Int)

theorem sget_S (k : Nat) (w : World) (h : IsS w B S R ao n c X p v os m) (hk : k ≤ 24) (hl : p + k ≤ 8 * n) :
    Calls Tryz.prog 60 #[.pointer (some ⟨S, 0, none⟩), .int .i64 k] w fun e w' => e = .returned (.tuple #[.int .i64 (X / 2 ^ p % 2 ^ k), .int .i64 0]) ∧ IsS w' B S R ao n c X (p + k) v os m ∧ Sw B w w' ∧ Fr (fun k => k = R) w w' := by
  have c0 := h.row.cell (i := 0) (by omega)
  simp only [scells] at c0
  go_enter Tryz.func60, Tryz.ntmps60
  go_wp2_with (go_at_call 87; refine (get_yes R ao n c X p k w h.rd hk hl).mono ?_; rintro e w1 ⟨rfl, hr, hf⟩)
  go_ret2
  obtain ⟨h1, h2⟩ := h.read hr hf
  exact ⟨rfl, h1, h2, hf⟩

theorem smore_S (k : Nat) (b : Int) (w : World) (h : IsS w B S R ao n c X p v os m) (hk : k ≤ 24) (hl : p + k ≤ 8 * n) (hb0 : 0 ≤ b) (hb1 : b ≤ 1000000) :
    Calls Tryz.prog 127 #[.pointer (some ⟨S, 0, none⟩), .int .i64 b, .int .i64 k] w fun e w' => e = .returned (.tuple #[.int .i64 (b + X / 2 ^ p % 2 ^ k), .int .i64 0]) ∧ IsS w' B S R ao n c X (p + k) v os m ∧ Sw B w w' ∧ Fr (fun k => k = R) w w' := by
  have l0 := mod_nn (X / 2 ^ p) k
  have l1 := mod_lt (X / 2 ^ p) k
  have l2 := p2_le k 24 hk
  have hc := sget_S B S R ao n c X p v os m k w h hk hl
  generalize X / 2 ^ p % 2 ^ k = u at *
  have hu : u < 16777216 := by omega
  clear l1 l2
  go_enter Tryz.func127, Tryz.ntmps127
  go_wp2_with (go_at_call 60; refine hc.mono ?_; rintro e w1 ⟨rfl, hr, hf, hg⟩)
  go_ret2
  exact ⟨by go_num, hr, hf, hg⟩

theorem snext_S (D : Nat) (L : Nat → Int) (mL i x : Nat) (w : World) (h : IsS w B S R ao n c X p v os m) (hD : Cd w D L mL) (hf : Fits L mL) (hi : i < mL) (hx : L i = x) (hx0 : 0 < x) (hx15 : x ≤ 15) (hp : p + x ≤ 8 * n) (hb : X / 2 ^ p % 2 ^ x = T (cd L mL i) x) :
    Calls Tryz.prog 91 #[.pointer (some ⟨D, 0, none⟩), .pointer (some ⟨R, 0, none⟩)] w fun e w' => e = .returned (.tuple #[.int .i64 i, .int .i64 0]) ∧ IsS w' B S R ao n c X (p + x) v os m ∧ Sw B w w' ∧ Fr (fun k => k = R) w w' := by
  refine (next_any D L mL R ao n c X p w hD h.rd).mono ?_
  rintro e w' ⟨s, g, q, rfl, hN, hr, hfr⟩
  obtain ⟨rfl, rfl, rfl⟩ := nx_sym hf hi hx hx0 hx15 hp hb hN
  obtain ⟨h1, h2⟩ := h.read hr hfr
  exact ⟨rfl, h1, h2, hfr⟩

theorem scount_S (k least most : Nat) (w : World) (h : IsS w B S R ao n c X p v os m) (hk : k ≤ 24) (hl : p + k ≤ 8 * n) (hb1 : least ≤ 1000) (hm : (least : Int) + X / 2 ^ p % 2 ^ k ≤ most) :
    Calls Tryz.prog 94 #[.pointer (some ⟨S, 0, none⟩), .int .i64 k, .int .i64 least, .int .i64 most] w fun e w' => e = .returned (.tuple #[.int .i64 (least + X / 2 ^ p % 2 ^ k), .int .i64 0]) ∧ IsS w' B S R ao n c X (p + k) v os m ∧ Sw B w w' ∧ Fr (fun k => k = R) w w' := by
  have hc := smore_S B S R ao n c X p v os m k least w h hk hl (by omega) (by omega)
  generalize (least : Int) + X / 2 ^ p % 2 ^ k = u at *
  have hu : ¬ (most : Int) < u := by omega
  go_enter Tryz.func94, Tryz.ntmps94
  go_wp2_with (go_at_call 127; refine hc.mono ?_; rintro e w1 ⟨rfl, hr, hf, hg⟩)
  go_ret2
  exact ⟨rfl, hr, hf, hg⟩

end

end Go.Proofs.YtiahbicodlgmhaaGreatDoor

/- The lengths' own symbols; run. -/
namespace Go.Proofs.YtiahbicodlgmhaaGreatDoor
open Go.RowKit

/-- A symbol by which lengths stand. -/
inductive Cl
  | len (x : Nat)
  | rep (v : Nat)
  | few (v : Nat)
  | many (v : Nat)

def Cl.sym : Cl → Nat
  | .len x => x
  | .rep _ => 16
  | .few _ => 17
  | .many _ => 18

def Cl.ext : Cl → List Fd
  | .len _ => []
  | .rep v => [((v : Int), 2)]
  | .few v => [((v : Int), 3)]
  | .many v => [((v : Int), 7)]

def Cl.cnt : Cl → Nat
  | .len _ => 1
  | .rep v => 3 + v
  | .few v => 3 + v
  | .many v => 11 + v

def Cl.val (ls : List Int) : Cl → Int
  | .len x => x
  | .rep _ => ls.getD (ls.length - 1) 0
  | _ => 0

def Cl.ok (ls : List Int) : Cl → Prop
  | .len x => x ≤ 15
  | .rep v => v < 4 ∧ ls ≠ []
  | .few v => v < 8
  | .many v => v < 128

theorem Cl.cnt_pos (q : Cl) : 1 ≤ q.cnt := by cases q <;> simp [Cl.cnt] <;> omega

theorem Cl.cnt_le {q : Cl} {ls : List Int} (h : q.ok ls) : q.cnt ≤ 138 := by
  cases q with
  | len x => simp [Cl.cnt]
  | rep v => have := h.1; simp only [Cl.cnt]; omega
  | few v => have : v < 8 := h; simp only [Cl.cnt]; omega
  | many v => have : v < 128 := h; simp only [Cl.cnt]; omega

theorem Cl.sym_lt {q : Cl} {ls : List Int} (h : q.ok ls) : q.sym < 19 := by
  cases q with
  | len x => have : x ≤ 15 := h; simp only [Cl.sym]; omega
  | _ => simp [Cl.sym]

/-- What Repeat answers, behind a world where only the reader has gone on. -/
theorem run_end {w w1 w' : World} {B S R : Nat} {ao : Option Addr} {n c : Nat} {X : Int} {p : Nat} {v : Value} {os : List Int} {m : Int} {O : Obj} {g N : Nat} {x : Int} (h : IsS w1 B S R ao n c X p v os m) (hf : Fr (fun k => k = R) w w1)
    (h1 : w'.rowIs g 3 N (fun _ => .int .i64 x)) (h2 : (w1.alloc O).heap.size ≤ g) (h3 : Below (w1.alloc O).heap.size (w1.alloc O) w') :
    w'.rowIs g 3 N (fun _ => .int .i64 x) ∧ w.heap.size ≤ g ∧ IsS w' B S R ao n c X p v os m ∧ Fr (fun k => k = R) w w' := by
  have b : Below w1.heap.size w1 (w1.alloc O) := (Below.refl _ _).alloc (Nat.le_refl _) _
  have b2 : Below w1.heap.size w1 w' := b.trans (h3.mono b.size)
  refine ⟨h1, by have := hf.size; simp at h2; omega, h.keep b2, hf.trans (P' := fun _ => False) (Fr.ofBelow b2) (fun _ _ h => h.elim)⟩

set_option maxRecDepth 100000 in
set_option maxHeartbeats 1000000 in
theorem srun_S (B S R : Nat) (ao : Option Addr) (n c : Nat) (X : Int) (p : Nat) (v : Value) (os : List Int) (m : Int) (q : Cl) (ls : List Int) (la : Option Addr) (k lc : Nat) (w : World) (h : IsS w B S R ao n c X p v os m) (hq : q.ok ls) (hk : ls.length = k) (hk9 : k ≤ 1000) (hr : Ri w la k lc (fun j => ls.getD j 0)) (hl : Lay X n p q.ext) :
    Calls Tryz.prog 128 #[.pointer (some ⟨S, 0, none⟩), .int .i64 q.sym, .slice la k lc] w fun e w' => ∃ g, e = .returned (.tuple #[.slice (some ⟨g, 0, none⟩) q.cnt q.cnt, .int .i64 0]) ∧ w'.rowIs g 3 q.cnt (fun _ => .int .i64 (q.val ls)) ∧ w.heap.size ≤ g ∧ IsS w' B S R ao n c X (p + fb q.ext) v os m ∧ Fr (fun k => k = R) w w' := by
  cases q with
  | len x =>
    have hx : x ≤ 15 := hq
    simp only [Cl.sym, Cl.cnt, Cl.val, Cl.ext, fb, Nat.add_zero]
    have q1 : ((x : Int) == 16) = false := by simp; omega
    have q2 : ((x : Int) == 17) = false := by simp; omega
    have q3 : ((x : Int) == 18) = false := by simp; omega
    have hrep := repeat_one w.heap.size (x : Int) 1 (w.alloc (Obj.cells #[Value.int .i64 (x : Int)] 3)) ((World.rowIs_alloc w #[Value.int .i64 (x : Int)] 3 (fun _ => .int .i64 (x : Int)) (fun i hi => by simp at hi; subst hi; rfl)).cell (i := 0) (by simp)) (by omega) (by omega)
    have HS : Hid (IsS w B S R ao n c X p v os m) := h
    clear h hr hl hq hk
    go_enter Tryz.func128, Tryz.ntmps128
    go_wp2_with (go_at_call 93; refine hrep.mono ?_; rintro e w1 ⟨g, rfl, h1, h2, h3⟩)
    go_ret2
    exact ⟨g, rfl, run_end HS.out (Fr.refl _ _) h1 h2 h3⟩
  | rep u =>
    obtain ⟨hu, hne⟩ : u < 4 ∧ ls ≠ [] := hq
    simp only [Cl.sym, Cl.cnt, Cl.val, Cl.ext, fb, Nat.add_zero] at hl ⊢
    have hk0 : 0 < k := by
      rw [← hk]
      exact List.length_pos_iff.2 hne
    obtain ⟨e1, p1, _⟩ := hl.head
    simp only at e1 p1
    obtain ⟨lb', loff, rfl, hcell⟩ := hr.plain hk0
    have hc := hcell (k - 1) (by omega)
    rw [hk]
    obtain ⟨x, hx⟩ : ∃ x, x = ls.getD (k - 1) 0 := ⟨_, rfl⟩
    rw [← hx] at hc ⊢
    obtain ⟨j, hj⟩ : ∃ j, j = k - 1 := ⟨_, rfl⟩
    rw [← hj] at hc
    have z1 : (k : Int) - 1 = j := by omega
    have z2 : j < k := by omega
    have z3 : (j : Int) < k := by omega
    have z4 : (k == 0) = false := by simp; omega
    have z5 : ((k : Int) == 0) = false := by simp; omega
    have hmo := smore_S B S R ao n c X p v os m 2 3 w h (by omega) p1 (by omega) (by omega)
    rw [e1, show (3 : Int) + (u : Int) = ((3 + u : Nat) : Int) by omega] at hmo
    have hN : 3 + u ≤ 100000 := by omega
    have hN0 : 0 < 3 + u := by omega
    generalize 3 + u = N at *
    clear h hr hl hx hcell hk hne hj
    go_enter Tryz.func128, Tryz.ntmps128
    go_wp2_with (first | (go_at_call 93; refine (repeat_one w1.heap.size x N (w1.alloc (Obj.cells #[Value.int .i64 x] 3)) ((World.rowIs_alloc w1 #[Value.int .i64 x] 3 (fun _ => .int .i64 x) (fun i hi => by simp at hi; subst hi; rfl)).cell (i := 0) (by simp)) hN0 hN).mono ?_; rintro e w2 ⟨g, rfl, h1, h2, h3⟩) | (go_at_call 127; refine hmo.mono ?_; rintro e w1 ⟨rfl, hs1, hw1, hf1⟩))
    go_ret2
    exact ⟨g, rfl, run_end hs1 hf1 h1 h2 h3⟩
  | few u =>
    have hu : u < 8 := hq
    simp only [Cl.sym, Cl.cnt, Cl.val, Cl.ext, fb, Nat.add_zero] at hl ⊢
    obtain ⟨e1, p1, _⟩ := hl.head
    simp only at e1 p1
    have hmo := smore_S B S R ao n c X p v os m 3 3 w h (by omega) p1 (by omega) (by omega)
    rw [e1, show (3 : Int) + (u : Int) = ((3 + u : Nat) : Int) by omega] at hmo
    have hN : 3 + u ≤ 100000 := by omega
    have hN0 : 0 < 3 + u := by omega
    generalize 3 + u = N at *
    clear h hr hl hk
    go_enter Tryz.func128, Tryz.ntmps128
    go_wp2_with (first | (go_at_call 93; refine (repeat_one w1.heap.size 0 N (w1.alloc (Obj.cells #[Value.int .i64 0] 3)) ((World.rowIs_alloc w1 #[Value.int .i64 0] 3 (fun _ => .int .i64 0) (fun i hi => by simp at hi; subst hi; rfl)).cell (i := 0) (by simp)) hN0 hN).mono ?_; rintro e w2 ⟨g, rfl, h1, h2, h3⟩) | (go_at_call 127; refine hmo.mono ?_; rintro e w1 ⟨rfl, hs1, hw1, hf1⟩))
    go_ret2
    exact ⟨g, rfl, run_end hs1 hf1 h1 h2 h3⟩
  | many u =>
    have hu : u < 128 := hq
    simp only [Cl.sym, Cl.cnt, Cl.val, Cl.ext, fb, Nat.add_zero] at hl ⊢
    obtain ⟨e1, p1, _⟩ := hl.head
    simp only at e1 p1
    have hmo := smore_S B S R ao n c X p v os m 7 11 w h (by omega) p1 (by omega) (by omega)
    rw [e1, show (11 : Int) + (u : Int) = ((11 + u : Nat) : Int) by omega] at hmo
    have hN : 11 + u ≤ 100000 := by omega
    have hN0 : 0 < 11 + u := by omega
    generalize 11 + u = N at *
    clear h hr hl hk
    go_enter Tryz.func128, Tryz.ntmps128
    go_wp2_with (first | (go_at_call 93; refine (repeat_one w1.heap.size 0 N (w1.alloc (Obj.cells #[Value.int .i64 0] 3)) ((World.rowIs_alloc w1 #[Value.int .i64 0] 3 (fun _ => .int .i64 0) (fun i hi => by simp at hi; subst hi; rfl)).cell (i := 0) (by simp)) hN0 hN).mono ?_; rintro e w2 ⟨g, rfl, h1, h2, h3⟩) | (go_at_call 127; refine hmo.mono ?_; rintro e w1 ⟨rfl, hs1, hw1, hf1⟩))
    go_ret2
    exact ⟨g, rfl, run_end hs1 hf1 h1 h2 h3⟩

end Go.Proofs.YtiahbicodlgmhaaGreatDoor

/- lengths. -/
namespace Go.Proofs.YtiahbicodlgmhaaGreatDoor
open Go.RowKit

/-- All that the symbols tell, behind ls. -/
def cls : List Cl → List Int → List Int
  | [], ls => ls
  | q :: qs, ls => cls qs (ls ++ List.replicate q.cnt (q.val ls))

/-- They may stand so, and have codes. -/
def clsOk (C : Nat → Int) : List Cl → List Int → Prop
  | [], _ => True
  | q :: qs, ls => q.ok ls ∧ 0 < C q.sym ∧ C q.sym ≤ 15 ∧ clsOk C qs (ls ++ List.replicate q.cnt (q.val ls))

def encC (C : Nat → Int) : List Cl → List Fd
  | [] => []
  | q :: qs => gf C 19 q.sym :: (q.ext ++ encC C qs)

theorem cls_len (qs : List Cl) : ∀ ls, ls.length ≤ (cls qs ls).length := by
  induction qs with
  | nil => intro ls; exact Nat.le_refl _
  | cons q qs ih =>
    intro ls
    have := ih (ls ++ List.replicate q.cnt (q.val ls))
    simp at this
    show ls.length ≤ (cls qs _).length
    omega

theorem cls_lt (q : Cl) (qs : List Cl) (ls : List Int) : ls.length < (cls (q :: qs) ls).length := by
  have := cls_len qs (ls ++ List.replicate q.cnt (q.val ls))
  have h := q.cnt_pos
  simp at this
  show ls.length < (cls qs _).length
  omega

theorem lens_iv (ls : List Int) (n : Nat) (h : ls.length = n) : ls.map (Value.int .i64) = ivs (fun j => ls.getD j 0) n := by
  apply List.ext_getElem?
  intro i
  by_cases hi : i < n
  · rw [vals_get _ _ _ hi]
    simp [List.getD, show i < ls.length by omega]
  · rw [List.getElem?_eq_none (by simp; omega), List.getElem?_eq_none (by rw [vals_len]; omega)]

theorem rep_iv (x : Int) (N : Nat) : ivs (fun _ => x) N = (List.replicate N x).map (Value.int .i64) := by
  apply List.ext_getElem?
  intro i
  by_cases hi : i < N
  · rw [vals_get _ _ _ hi]
    simp [hi]
  · rw [List.getElem?_eq_none (by rw [vals_len]; omega), List.getElem?_eq_none (by simp; omega)]

/-- What is left to be read. -/
structure Lg (C : Nat → Int) (B S R : Nat) (ao : Option Addr) (n c : Nat) (X : Int) (v : Value) (os : List Int) (m : Int) (w : World) (fs : List Int) (P gk : Nat) (lv : Value) (wr : World) (qs : List Cl) (p : Nat) (ls : List Int) : Prop where
  len : qs.length = gk
  st : IsS wr B S R ao n c X p v os m
  lay : Lay X n p (encC C qs)
  ok : clsOk C qs ls
  fin : cls qs ls = fs
  pp : p + fb (encC C qs) = P
  own : wr.ownsRow w.heap.size 3 1 lv ls.length (ls.map (Value.int .i64))
  fr : Fr (fun k => k = R) w wr

set_option maxRecDepth 100000 in
set_option maxHeartbeats 2000000 in
theorem slens_S (C : Nat → Int) (hfC : Fits C 19) (B S R : Nat) (ao : Option Addr) (n c : Nat) (X : Int) (p : Nat) (v : Value) (os : List Int) (m : Int) (A : Nat) (qs : List Cl) (fs : List Int) (N P : Nat) (w : World) (h : IsS w B S R ao n c X p v os m) (hA : Cd w A C 19) (hok : clsOk C qs []) (hfs : cls qs [] = fs) (hN : fs.length = N) (hN9 : N ≤ 800) (hl : Lay X n p (encC C qs)) (hP : p + fb (encC C qs) = P) :
    Calls Tryz.prog 96 #[.pointer (some ⟨S, 0, none⟩), .func (.func 91) #[.pointer (some ⟨A, 0, none⟩)] #[], .int .i64 N] w fun e w' => ∃ v', e = .returned (.tuple #[v', .int .i64 0]) ∧ w'.ownsRow w.heap.size 3 1 v' N (fs.map (Value.int .i64)) ∧ IsS w' B S R ao n c X P v os m ∧ Fr (fun k => k = R) w w' := by
  have H0 : Hid (Lg C B S R ao n c X v os m w fs P qs.length (.slice none 0 0) w qs p []) := ⟨rfl, h, hl, hok, hfs, hP, World.ownsRow_nil _ _ _ _, Fr.refl _ _⟩
  have HI : Hid (S < w.heap.size ∧ R < w.heap.size ∧ (∀ k, v.ownBlock = some k → k < w.heap.size) ∧ ∀ ad, ao = some ad → 0 < n → ad.block < w.heap.size) := h.inside
  have HRW : Hid (∀ w', Fr (fun k => k = R) w w' → Kt w w') := fun w' hf => Kt.row h.rd.row (by decide) hf
  have HA : Hid (Cd w A C 19) := hA
  have HN : Hid (fs.length = N) := hN
  clear h hA hok hfs hl hP hN
  go_enter Tryz.func96, Tryz.ntmps96
  go_wp2_with fail
  go_loopg [8] qs.length (fun gk lv wr => ∃ qs1 p1 ls, Hid (Lg C B S R ao n c X v os m w fs P gk lv wr qs1 p1 ls))
  case atStart => exact ⟨qs, p, [], H0⟩
  case round =>
    obtain ⟨qs1, p1, ls, HY⟩ := hrel
    clear H0
    obtain ⟨k, hk⟩ : ∃ k, k = ls.length := ⟨_, rfl⟩
    have HK : Hid (k = ls.length) := hk
    have hown := HY.out.own
    rw [← hk] at hown
    have hlt := hown.lt
    rw [lens_iv ls k hk.symm] at hown
    obtain ⟨la, lc, rfl, hri, _⟩ := own_ri hown
    have HW : Hid (wr.ownsRow w.heap.size 3 1 (.slice la k lc) k (ls.map (Value.int .i64))) := by have := HY.out.own; rw [← hk] at this; exact this
    have HLT : Hid (∀ q, (Value.slice la k lc).ownBlock = some q → w.heap.size ≤ q ∧ q < wr.heap.size) := hlt
    have hst := HY.out.st
    have c0 := hst.row.cell (i := 0) (by omega)
    simp only [scells] at c0
    clear hown hlt
    cases qs1 with
    | nil =>
      have hfin : ls = fs := HY.out.fin
      have hkN : k = N := by rw [hk, hfin, HN.out]
      have HP : Hid (p1 = P) := by have := HY.out.pp; simp only [encC, fb] at this; show p1 = P; omega
      have HO : Hid (wr.ownsRow w.heap.size 3 1 (.slice la N lc) N (fs.map (Value.int .i64))) := by have := HW.out; rw [hfin, hkN] at this; exact this
      have HS : Hid (IsS wr B S R ao n c X P v os m ∧ Fr (fun k => k = R) w wr) := ⟨by rw [← HP.out]; exact hst, HY.out.fr⟩
      subst hkN
      clear hk hfin hst hri HY c0 HW
      go_wp2
      go_ret2
      exact ⟨_, rfl, HO.out, HS.out.1, HS.out.2⟩
    | cons q qs2 =>
      obtain ⟨ok1, ok2, ok3, ok4⟩ : q.ok ls ∧ 0 < C q.sym ∧ C q.sym ≤ 15 ∧ clsOk C qs2 (ls ++ List.replicate q.cnt (q.val ls)) := HY.out.ok
      have hkN : k < N := by
        have := cls_lt q qs2 ls
        rw [HY.out.fin, HN.out] at this
        omega
      have z1 : (k : Int) < N := by omega
      have hlay : Lay X n p1 (gf C 19 q.sym :: (q.ext ++ encC C qs2)) := HY.out.lay
      obtain ⟨e1, e2, e3, hl2⟩ := gf_next hlay ok2
      have A1 := HA.out.kt (HRW.out wr HY.out.fr)
      have hn := snext_S B S R ao n c X p1 v os m A C 19 q.sym (C q.sym).toNat wr hst A1 hfC (Cl.sym_lt ok1) e1 (by omega) (by omega) e2 e3
      have HL2 : Hid (Lay X n (p1 + (C q.sym).toNat) (q.ext ++ encC C qs2)) := hl2
      have HOK : Hid (q.ok ls ∧ clsOk C qs2 (ls ++ List.replicate q.cnt (q.val ls))) := ⟨ok1, ok4⟩
      have HRI : Hid (Ri wr la k lc (fun j => ls.getD j 0)) := hri
      have hcl := Cl.cnt_le ok1
      clear hlay hl2 e1 e2 e3 A1 hst hri ok1 ok2 ok3 ok4 hk
      have hnR : ∀ q, (Value.slice la k lc).ownBlock = some q → ¬ q = R := fun q hq e => by have := (HLT.out q hq).1; have := HI.out.2.1; omega
      have HNR : Hid (∀ q, (Value.slice la k lc).ownBlock = some q → ¬ q = R) := hnR
      have HFR : Hid (Fr (fun k => k = R) w wr) := HY.out.fr
      have HLA : Hid (∀ ad, la = some ad → ¬ ad.block = R) := fun ad had e => by
        rcases HW.out.2 with ⟨e1, _⟩ | ⟨g, cap, cur, e1, _⟩
        · cases e1; cases had
        · cases e1
          cases had
          exact HNR.out g rfl e
      clear hnR
      go_wp2_with (first | (refine wpList_append_iv rfl _ _ rfl w.heap.size k (.slice la k lc) (ls.map (Value.int .i64)) rfl (ownsRow_fr (ownsRow_fr HW.out hf1 HNR.out) hf2 HNR.out) (some ⟨g, 0, none⟩) q.cnt q.cnt (fun _ => q.val ls) rfl (Ri.row hg2) (by omega) (by have := HFR.out.size; have := hf1.size; have := hf2.size; omega) ?_; intro v3 w3 o3 g3) | (go_at_call 128; refine (srun_S B S R ao n c X (p1 + (C q.sym).toNat) v os m q ls la k lc w1 hs1 HOK.out.1 HK.out.symm (by omega) (HRI.out.fr hf1 (fun ad had _ => HLA.out ad had)) HL2.out.front).mono ?_; rintro e w2 ⟨g, rfl, hg2, hgb, hs2, hf2⟩) | (go_at_call 91; refine hn.mono ?_; rintro e w1 ⟨rfl, hs1, hw1, hf1⟩))
      have F2 : Fr (fun k => k = R) w w2 := (HFR.out.trans hf1 (fun _ _ e => e)).trans hf2 (fun _ _ e => e)
      have F3 : Fr (fun i => (Value.slice la k lc).ownBlock = some i) w2 w3 := (Fr.refl _ _).grown g3 (fun _ _ e => e)
      have hi := HI.out
      have hs3 : IsS w3 B S R ao n c X (p1 + (C q.sym).toNat + fb q.ext) v os m := hs2.fr F3 (fun e => by have := (HLT.out _ e).1; omega) (fun e => by have := (HLT.out _ e).1; omega) (fun i hv e => by have := (HLT.out _ e).1; have := hi.2.2.1 i hv; omega) (fun ad had hn0 e => by have := (HLT.out _ e).1; have := hi.2.2.2 ad had hn0; omega)
      have FF : Fr (fun k => k = R) w w3 := F2.trans F3 (fun i hi' e => by have := (HLT.out _ e).1; omega)
      have HNX : Hid (Lg C B S R ao n c X v os m w fs P qs2.length v3 w3 qs2 (p1 + (C q.sym).toNat + fb q.ext) (ls ++ List.replicate q.cnt (q.val ls))) := by
        refine ⟨rfl, hs3, HL2.out.tail, HOK.out.2, HY.out.fin, ?_, ?_, FF⟩
        · have := HY.out.pp
          simp only [encC, fb, fb_app, gf] at this
          omega
        · rw [rep_iv, ← List.map_append] at o3
          rw [List.length_append, List.length_replicate, ← HK.out]
          exact o3
      have HGK : Hid (qs2.length < gk) := by
        have := HY.out.len
        simp at this
        show qs2.length < gk
        omega
      clear F2 F3 hi hs3 FF o3 g3 hg2 hgb hs2 hf2 hs1 hw1 hf1 hn HY HW HLT HNR HFR HLA HOK HL2 HRI HK
      go_roundg qs2.length
      case measure => exact HGK.out
      case rel => exact ⟨qs2, _, _, HNX⟩

end Go.Proofs.YtiahbicodlgmhaaGreatDoor

/- Steps in memory. -/
namespace Go.Proofs.YtiahbicodlgmhaaGreatDoor.Z
open Go.RowKit

/-- A step: which code, the symbol, what stands behind it, in how many bits. -/
abbrev Stp := Int × Int × Int × Int

def sz0 : Stp := (0, 0, 0, 0)

/-- A step, by value. -/
abbrev sv (t : Stp) : Value := .agg #[.int .i64 t.1, .int .i64 t.2.1, .int .i64 t.2.2.1, .int .i64 t.2.2.2]

/-- A step's cells. -/
def sc (t : Stp) : List Value := [.int .i64 t.1, .int .i64 t.2.1, .int .i64 t.2.2.1, .int .i64 t.2.2.2]

def stc (t : Stp) : Nat → Value
  | 0 => .int .i64 t.1
  | 1 => .int .i64 t.2.1
  | 2 => .int .i64 t.2.2.1
  | _ => .int .i64 t.2.2.2

theorem stc_one (t : Stp) : ∀ j, (stc t j).oneCell' = true := by
  intro j
  rcases j with _ | _ | _ | j <;> rfl

/-- The cells of steps. -/
def scs (ts : List Stp) : List Value := ts.flatMap sc

theorem scs_app (a b : List Stp) : scs (a ++ b) = scs a ++ scs b := by simp [scs]

theorem scs_one (t : Stp) : scs [t] = sc t := by simp [scs]

theorem scs_len (ts : List Stp) : (scs ts).length = ts.length * 4 := by
  induction ts with
  | nil => rfl
  | cons t ts ih =>
    show (sc t ++ scs ts).length = _
    rw [List.length_append, ih]
    simp [sc]
    omega

theorem scs_get (ts : List Stp) (j : Nat) (h : j < ts.length) : (scs ts)[j * 4]? = some (.int .i64 (ts.getD j sz0).1) ∧ (scs ts)[j * 4 + 1]? = some (.int .i64 (ts.getD j sz0).2.1) ∧ (scs ts)[j * 4 + 2]? = some (.int .i64 (ts.getD j sz0).2.2.1) ∧ (scs ts)[j * 4 + 3]? = some (.int .i64 (ts.getD j sz0).2.2.2) := by
  induction ts generalizing j with
  | nil => simp at h
  | cons t ts ih =>
    have e : scs (t :: ts) = .int .i64 t.1 :: .int .i64 t.2.1 :: .int .i64 t.2.2.1 :: .int .i64 t.2.2.2 :: scs ts := rfl
    rw [e]
    cases j with
    | zero => exact ⟨rfl, rfl, rfl, rfl⟩
    | succ j =>
      have := ih j (by simpa using h)
      rw [show (j + 1) * 4 = j * 4 + 1 + 1 + 1 + 1 by omega]
      simpa using this

theorem scs_oneCell (ts : List Stp) : ∀ v ∈ scs ts, v.oneCell' = true := by
  intro v hv
  obtain ⟨t, _, ht⟩ := List.mem_flatMap.1 hv
  simp only [sc, List.mem_cons, List.not_mem_nil, or_false] at ht
  rcases ht with rfl | rfl | rfl | rfl <;> rfl

/-- The slice at ao of n steps reads as ts in the world w. -/
structure Ss (w : World) (ao : Option Addr) (n : Nat) (ts : List Stp) : Prop where
  len : ts.length = n
  cells : ∀ j, j < n → ∃ b off, ao = some ⟨b, off, none⟩ ∧ w.cell? ⟨b, off + j * 4, none⟩ = some (.int .i64 (ts.getD j sz0).1) ∧ w.cell? ⟨b, off + j * 4 + 1, none⟩ = some (.int .i64 (ts.getD j sz0).2.1) ∧ w.cell? ⟨b, off + j * 4 + 2, none⟩ = some (.int .i64 (ts.getD j sz0).2.2.1) ∧ w.cell? ⟨b, off + j * 4 + 3, none⟩ = some (.int .i64 (ts.getD j sz0).2.2.2)

theorem Ss.keep {w w' : World} {ao : Option Addr} {n : Nat} {ts : List Stp} (h : Ss w ao n ts) (hb : Below w.heap.size w w') : Ss w' ao n ts :=
  ⟨h.len, fun j hj => by
    obtain ⟨b, off, e, h0, h1, h2, h3⟩ := h.cells j hj
    refine ⟨b, off, e, ?_, ?_, ?_, ?_⟩
    · rw [hb.cell (World.block_lt_of_cell? w _ h0)]; exact h0
    · rw [hb.cell (World.block_lt_of_cell? w _ h1)]; exact h1
    · rw [hb.cell (World.block_lt_of_cell? w _ h2)]; exact h2
    · rw [hb.cell (World.block_lt_of_cell? w _ h3)]; exact h3⟩

theorem Ss.of {w w' : World} {ao : Option Addr} {n : Nat} {ts : List Stp} (h : Ss w ao n ts) (hb : ∀ ad, ao = some ad → w'.heap[ad.block]? = w.heap[ad.block]?) : Ss w' ao n ts :=
  ⟨h.len, fun j hj => by
    obtain ⟨b, off, e, h0, h1, h2, h3⟩ := h.cells j hj
    have hk := hb _ e
    refine ⟨b, off, e, ?_, ?_, ?_, ?_⟩
    · rw [World.cell?_of_block (a := ⟨b, off + j * 4, none⟩) hk]; exact h0
    · rw [World.cell?_of_block (a := ⟨b, off + j * 4 + 1, none⟩) hk]; exact h1
    · rw [World.cell?_of_block (a := ⟨b, off + j * 4 + 2, none⟩) hk]; exact h2
    · rw [World.cell?_of_block (a := ⟨b, off + j * 4 + 3, none⟩) hk]; exact h3⟩

/-- A row of steps of the call's own. -/
theorem own_ss {w : World} {base e n : Nat} {v : Value} {ts : List Stp} (h : w.ownsRow base e 4 v n (scs ts)) :
    ∃ ao c, v = .slice ao n c ∧ n ≤ c ∧ Ss w ao n ts ∧ (ao = none → n = 0 ∧ c = 0) ∧ ∀ ad, ao = some ad → v.ownBlock = some ad.block ∧ base ≤ ad.block ∧ ad = ⟨ad.block, 0, none⟩ := by
  have hl : ts.length = n := by have := h.1; rw [scs_len] at this; omega
  rcases h.2 with ⟨rfl, rfl⟩ | ⟨g, cap, cur, rfl, hg, hh, hle, hrest⟩
  · exact ⟨none, 0, rfl, Nat.le_refl _, ⟨hl, (fun j hj => by omega)⟩, fun _ => ⟨rfl, rfl⟩, fun ad had => by cases had⟩
  · refine ⟨_, _, rfl, hle, ⟨hl, fun j hj => ?_⟩, (fun e => by cases e), fun ad had => by cases had; exact ⟨rfl, hg, rfl⟩⟩
    obtain ⟨g0, g1, g2, g3⟩ := scs_get ts j (by omega)
    have c0 := h.cells (g := g) rfl _ _ g0
    have c1 := h.cells (g := g) rfl _ _ g1
    have c2 := h.cells (g := g) rfl _ _ g2
    have c3 := h.cells (g := g) rfl _ _ g3
    rw [Addr.add_lit] at c0 c1 c2 c3
    exact ⟨g, 0, rfl, c0, c1, c2, c3⟩

theorem Tryz.info109 : (Tryz.prog.info? 109).map (fun i => (i.zero, i.size, i.bytes)) = some (some (.agg #[.int .i64 0, .int .i64 0, .int .i64 0, .int .i64 0]), 4, 32) := by kernel_rfl
theorem size109 : (Tryz.prog.info? 109).map (·.size) = some 4 := by kernel_rfl

theorem own_keep {w w' : World} {base e s n : Nat} {v : Value} {xs : List Value} (h : w.ownsRow base e s v n xs) (hb : Below w.heap.size w w') : w'.ownsRow base e s v n xs :=
  ownsRow_fr h (Fr.ofBelow (P := fun _ => False) hb) (fun _ _ h => h)

/-- A new block of one step. -/
theorem step_new (w : World) (t : Stp) (a : Array Value) (h : a = #[.int .i64 t.1, .int .i64 t.2.1, .int .i64 t.2.2.1, .int .i64 t.2.2.2]) : (w.alloc (.cells a 109)).rowIs w.heap.size 109 4 (stc t) := by
  subst h
  exact World.rowIs_alloc w _ 109 (stc t) (fun i hi => by simp at hi; rcases i with _ | _ | _ | _ | i <;> first | rfl | omega)

end Go.Proofs.YtiahbicodlgmhaaGreatDoor.Z
