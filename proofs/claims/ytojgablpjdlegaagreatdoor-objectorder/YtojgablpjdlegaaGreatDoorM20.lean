/- ObjectOrder. -/
import Derived.Test.YtojgablpjdlegaaGreatDoorM19
namespace Go.Proofs.YtojgablpjdlegaaGreatDoor
open Go.RowKit

theorem ef_one (m : Int) (s : ByteArray) (x : List Int) (j : Nat) : (ef m s x j).oneCell' = true := by
  unfold ef
  split
  · rfl
  · split <;> rfl

theorem ef_set (m n : Int) (s : ByteArray) (x : List Int) (j : Nat) (_ : j < 22) : ef n s x j = if j = 0 then .int .i64 n else ef m s x j := by
  unfold ef
  by_cases h : j = 0
  · rw [if_pos h, if_pos h]
  · rw [if_neg h, if_neg h, if_neg h]

theorem wpList_set {ops : Array Oper} {rest : List Oper} {op : Oper} {a : Act} {w : World} {Q : Exit → Act → World → Prop} (hgd : op.guard = none) (x y : Operand) (ho : op.op = .store 3 x y)
    (b : Nat) (hx : a.eval x = .pointer (some ⟨b, 0, none⟩)) (n : Int) (hy : a.eval y = .int .i64 n) {m : Int} {s : ByteArray} (h : w.rowIs b 79 22 (ef m s z20))
    (hk : ∀ w', w'.rowIs b 79 22 (ef n s z20) → Fr (fun k => k = b) w w' → wpList Tryz.prog ops Q rest (a.put op.dst undef) w') : wpList Tryz.prog ops Q (op :: rest) a w := by
  have hc : w.cell? ⟨b, 0, none⟩ = some (.int .i64 m) := h.cell (i := 0) (by omega)
  refine wpList_plain hgd fun K hK => ?_
  have hr : (w.setCell ⟨b, 0, none⟩ (.int .i64 n)).rowIs b 79 22 (ef n s z20) := set_row h 0 _ (ef_set m n s z20)
  have := hK _ _ (hk _ hr (set_fr w b 0 _))
  have hz : w.frozen? ⟨b, 0, none⟩ = false := by
    unfold World.frozen?
    simp [rowIs_block h]
  unfold Oper.wp execOp
  simp only [ho, hx, hy]
  simp [go_sem, hc, hz]
  exact this

/-- The three entries. -/
structure Es (w0 : World) (a b c : Nat) (m n k : Int) (s t u : ByteArray) (w : World) : Prop where
  ra : w.rowIs a 79 22 (ef m s z20)
  rb : w.rowIs b 79 22 (ef n t z20)
  rc : w.rowIs c 79 22 (ef k u z20)
  lo : w0.heap.size ≤ a
  ab : a < b
  bc : b < c
  bel : Below w0.heap.size w0 w

variable {w0 : World} {a b c : Nat} {m n k m' : Int} {s t u : ByteArray} {w w' : World}

theorem Es.keep (h : Es w0 a b c m n k s t u w) (hb : Below w.heap.size w w') : Es w0 a b c m n k s t u w' :=
  ⟨rowIs_fr (P := fun _ => False) h.ra (Fr.ofBelow hb) (fun h => h), rowIs_fr (P := fun _ => False) h.rb (Fr.ofBelow hb) (fun h => h), rowIs_fr (P := fun _ => False) h.rc (Fr.ofBelow hb) (fun h => h), h.lo, h.ab, h.bc, h.bel.trans (hb.mono h.bel.size)⟩

theorem Es.setA (h : Es w0 a b c m n k s t u w) (r : w'.rowIs a 79 22 (ef m' s z20)) (f : Fr (fun i => i = a) w w') : Es w0 a b c m' n k s t u w' :=
  ⟨r, rowIs_fr h.rb f (by have := h.ab; omega), rowIs_fr h.rc f (by have := h.ab; have := h.bc; omega), h.lo, h.ab, h.bc, h.bel.trans (f.below _ h.bel.size (fun i hi e => by have := h.lo; omega))⟩

theorem Es.setB (h : Es w0 a b c m n k s t u w) (r : w'.rowIs b 79 22 (ef m' t z20)) (f : Fr (fun i => i = b) w w') : Es w0 a b c m m' k s t u w' :=
  ⟨rowIs_fr h.ra f (by have := h.ab; omega), r, rowIs_fr h.rc f (by have := h.bc; omega), h.lo, h.ab, h.bc, h.bel.trans (f.below _ h.bel.size (fun i hi e => by have := h.lo; have := h.ab; omega))⟩

theorem Es.setC (h : Es w0 a b c m n k s t u w) (r : w'.rowIs c 79 22 (ef m' u z20)) (f : Fr (fun i => i = c) w w') : Es w0 a b c m n m' s t u w' :=
  ⟨rowIs_fr h.ra f (by have := h.ab; have := h.bc; omega), rowIs_fr h.rb f (by have := h.bc; omega), r, h.lo, h.ab, h.bc, h.bel.trans (f.below _ h.bel.size (fun i hi e => by have := h.lo; have := h.ab; have := h.bc; omega))⟩

theorem ba_eq (s t : ByteArray) : (s.toList == t.toList) = decide (s = t) := by
  rw [ByteArray.toList_eq, ByteArray.toList_eq]
  by_cases h : s = t
  · simp [h]
  · have : s.data.toList ≠ t.data.toList := fun e => h (ba_inj e)
    simp [h]
    exact fun e => this (by rw [e])

theorem es_new {w1 w2 w3 w4 : World} (hb : Below w0.heap.size w0 w1) (r2 : w2.rowIs w1.heap.size 79 22 (ef m s z20)) (b2 : Below w1.heap.size w1 w2) (r3 : w3.rowIs w2.heap.size 79 22 (ef n t z20)) (b3 : Below w2.heap.size w2 w3) (r4 : w4.rowIs w3.heap.size 79 22 (ef k u z20)) (b4 : Below w3.heap.size w3 w4) :
    Es w0 w1.heap.size w2.heap.size w3.heap.size m n k s t u w4 :=
  ⟨rowIs_fr (P := fun _ => False) (rowIs_fr (P := fun _ => False) r2 (Fr.ofBelow b3) (fun h => h)) (Fr.ofBelow b4) (fun h => h), rowIs_fr (P := fun _ => False) r3 (Fr.ofBelow b4) (fun h => h), r4, hb.size, r2.lt, r3.lt, ((hb.trans (b2.mono hb.size)).trans (b3.mono (Nat.le_trans hb.size b2.size))).trans (b4.mono (Nat.le_trans (Nat.le_trans hb.size b2.size) b3.size))⟩

set_option maxRecDepth 100000 in
set_option maxHeartbeats 40000000 in
theorem order_small (b3 b4 b5 : Bool) (w : World) (hg : Gs w) (hs : s.size ≤ 100) (ht : t.size ≤ 100) (hu : u.size ≤ 100) (hm : m = if b3 then 16384 else 33188) (hn : n = if b4 then 16384 else 33188) (hk : k = if b5 then 16384 else 33188) :
    Calls Tryz.prog 7 #[.string s, .string t, .string u, .bool b3, .bool b4, .bool b5] w fun e w' => e = .returned (.bool true) ∧ Below w.heap.size w w' := by
  have hz := zero79
  have HK : Hid (Calls Tryz.prog 9 #[] w fun e w' => e = .returned (.bool true) ∧ Below w.heap.size w w') := known_yes w hg
  have h1 := fun W => order_any m s z20 n t z20 W (by omega) (by omega)
  have h2 := fun W => order_any n t z20 k u z20 W (by omega) (by omega)
  have h3 := fun W => order_any n t z20 m s z20 W (by omega) (by omega)
  have H4 : Hid (∀ W, Calls Tryz.prog 39 #[env m s z20, env m s z20] W fun e w' => e = .returned (.int .i64 (ord m s m s)) ∧ Below W.heap.size W w') := fun W => order_any m s z20 m s z20 W (by omega) (by omega)
  have H5 : Hid (∀ W, Calls Tryz.prog 39 #[env m s z20, env k u z20] W fun e w' => e = .returned (.int .i64 (ord m s k u)) ∧ Below W.heap.size W w') := fun W => order_any m s z20 k u z20 W (by omega) (by omega)
  rw [ord_neg m s n t] at h3
  rw [ord_refl] at H4
  have y1 : IntKind.i64.wrap (-(ord m s n t)) = -(ord m s n t) := by have := ord_rng m s n t; rw [IntKind.wrap_i64]; omega
  have HT : Hid (ord m s n t < 0 → ord n t k u < 0 → ord m s k u < 0) := ord_trans m s n t k u
  have HE : Hid (m = n → (ord m s n t = 0 ↔ s = t)) := fun e => by subst e; exact ord_zero m s t
  have d1 : decide (100 < s.size) = false := by simp; omega
  have d2 : decide (100 < t.size) = false := by simp; omega
  have d3 : decide (100 < u.size) = false := by simp; omega
  have d4 : decide ((100 : Int) < s.size) = false := by simp; omega
  have d5 : decide ((100 : Int) < t.size) = false := by simp; omega
  have d6 : decide ((100 : Int) < u.size) = false := by simp; omega
  generalize ord m s n t = o1 at *
  generalize ord n t k u = o2 at *
  generalize ord m s k u = o3 at *
  clear hg hs ht hu
  cases b3 <;> cases b4 <;> cases b5
  case false.false.false =>
    simp at hm hn hk
    have q1 : (!(o1 == 0) == (s.toList == t.toList)) = false := by
      have h := HE.out (by rw [hm, hn])
      rw [ba_eq]
      by_cases h0 : o1 = 0 <;> simp [h0, ← h]
    subst hm hn hk
    go_enter Tryz.func7, Tryz.ntmps7
    go_wp2_with fail
    refine (show Calls Tryz.prog 9 #[] w _ from HK.out).mono ?_
    rintro e w1 ⟨rfl, b1⟩
    have HB1 : Hid (Below w.heap.size w w1) := b1
    have z1 := rowIs_vals w1 (ef 0 ⟨#[]⟩ z20) 22 79
    clear b1
    go_wp2_with (first
      | (refine wpList_st rfl 79 _ _ rfl w1.heap.size rfl (ef 33188 s z20) rfl z1 (by kernel_rfl) (ef_one _ _ _) ?_; intro w2 r2 f2; have R2 : Hid _ := r2; have b2 : Hid (Below w1.heap.size w1 w2) := new_fr f2; have z2 := rowIs_vals w2 (ef 0 ⟨#[]⟩ z20) 22 79; clear f2 z1 r2)
      | (refine wpList_st rfl 79 _ _ rfl w2.heap.size rfl (ef 33188 t z20) rfl z2 (by kernel_rfl) (ef_one _ _ _) ?_; intro w3 r3 f3; have R3 : Hid _ := r3; have b3 : Hid (Below w2.heap.size w2 w3) := new_fr f3; have z3 := rowIs_vals w3 (ef 0 ⟨#[]⟩ z20) 22 79; clear f3 z2 r3)
      | (refine wpList_st rfl 79 _ _ rfl w3.heap.size rfl (ef 33188 u z20) rfl z3 (by kernel_rfl) (ef_one _ _ _) ?_; intro w4 r4 f4; have E : Hid _ := es_new HB1.out R2.out b2.out R3.out b3.out r4 (new_fr f4); clear f4 z3 r4 R2 R3 b2 b3)
      | (refine wpList_set rfl _ _ rfl w1.heap.size rfl 16384 rfl E.out.ra ?_; intro w5 r5 f5; replace E : Hid _ := E.out.setA r5 f5; clear r5 f5)
      | (refine wpList_set rfl _ _ rfl w2.heap.size rfl 16384 rfl E.out.rb ?_; intro w5 r5 f5; replace E : Hid _ := E.out.setB r5 f5; clear r5 f5)
      | (refine wpList_set rfl _ _ rfl w3.heap.size rfl 16384 rfl E.out.rc ?_; intro w5 r5 f5; replace E : Hid _ := E.out.setC r5 f5; clear r5 f5)
      | (refine wpList_ldw (by rfl) 79 _ rfl ⟨w1.heap.size, 0, none⟩ rfl _ (load_all (P := Tryz.prog) 79 _ E.out.ra Tryz.underlying79 rfl (by kernel_rfl)) ?_)
      | (refine wpList_ldw (by rfl) 79 _ rfl ⟨w2.heap.size, 0, none⟩ rfl _ (load_all (P := Tryz.prog) 79 _ E.out.rb Tryz.underlying79 rfl (by kernel_rfl)) ?_)
      | (refine wpList_ldw (by rfl) 79 _ rfl ⟨w3.heap.size, 0, none⟩ rfl _ (load_all (P := Tryz.prog) 79 _ E.out.rc Tryz.underlying79 rfl (by kernel_rfl)) ?_))
    refine (h1 _).mono ?_
    rintro e w6 ⟨rfl, b6⟩
    replace E : Hid _ := E.out.keep b6
    clear b6
    go_wp2_with (first
      | (refine wpList_ldw (by rfl) 79 _ rfl ⟨w1.heap.size, 0, none⟩ rfl _ (load_all (P := Tryz.prog) 79 _ E.out.ra Tryz.underlying79 rfl (by kernel_rfl)) ?_)
      | (refine wpList_ldw (by rfl) 79 _ rfl ⟨w2.heap.size, 0, none⟩ rfl _ (load_all (P := Tryz.prog) 79 _ E.out.rb Tryz.underlying79 rfl (by kernel_rfl)) ?_)
      | (refine wpList_ldw (by rfl) 79 _ rfl ⟨w3.heap.size, 0, none⟩ rfl _ (load_all (P := Tryz.prog) 79 _ E.out.rc Tryz.underlying79 rfl (by kernel_rfl)) ?_))
    refine (h2 _).mono ?_
    rintro e w7 ⟨rfl, b7⟩
    replace E : Hid _ := E.out.keep b7
    clear b7
    go_wp2_with (first
      | (refine wpList_ldw (by rfl) 79 _ rfl ⟨w1.heap.size, 0, none⟩ rfl _ (load_all (P := Tryz.prog) 79 _ E.out.ra Tryz.underlying79 rfl (by kernel_rfl)) ?_)
      | (refine wpList_ldw (by rfl) 79 _ rfl ⟨w2.heap.size, 0, none⟩ rfl _ (load_all (P := Tryz.prog) 79 _ E.out.rb Tryz.underlying79 rfl (by kernel_rfl)) ?_)
      | (refine wpList_ldw (by rfl) 79 _ rfl ⟨w3.heap.size, 0, none⟩ rfl _ (load_all (P := Tryz.prog) 79 _ E.out.rc Tryz.underlying79 rfl (by kernel_rfl)) ?_))
    refine (h3 _).mono ?_
    rintro e w8 ⟨rfl, b8⟩
    replace E : Hid _ := E.out.keep b8
    clear b8
    go_wp2_with (first
      | (refine wpList_ldw (by rfl) 79 _ rfl ⟨w1.heap.size, 0, none⟩ rfl _ (load_all (P := Tryz.prog) 79 _ E.out.ra Tryz.underlying79 rfl (by kernel_rfl)) ?_)
      | (refine wpList_ldw (by rfl) 79 _ rfl ⟨w2.heap.size, 0, none⟩ rfl _ (load_all (P := Tryz.prog) 79 _ E.out.rb Tryz.underlying79 rfl (by kernel_rfl)) ?_)
      | (refine wpList_ldw (by rfl) 79 _ rfl ⟨w3.heap.size, 0, none⟩ rfl _ (load_all (P := Tryz.prog) 79 _ E.out.rc Tryz.underlying79 rfl (by kernel_rfl)) ?_))
    refine (H4.out _).mono ?_
    rintro e w9 ⟨rfl, b9⟩
    replace E : Hid _ := E.out.keep b9
    clear b9
    by_cases p1 : 0 ≤ o1
    · have e1 : decide (0 ≤ o1) = true := by simp [p1]
      go_wp2_with fail
      go_ret
      exact ⟨rfl, E.out.bel⟩
    · have e1 : decide (0 ≤ o1) = false := by simp [p1]
      by_cases p2 : 0 ≤ o2
      · have e2 : decide (0 ≤ o2) = true := by simp [p2]
        go_wp2_with fail
        go_ret
        exact ⟨rfl, E.out.bel⟩
      · have e2 : decide (0 ≤ o2) = false := by simp [p2]
        have p3 : o3 < 0 := HT.out (by omega) (by omega)
        have e3 : decide (o3 < 0) = true := by simp [p3]
        go_wp2_with (first
          | (refine wpList_ldw (by rfl) 79 _ rfl ⟨w1.heap.size, 0, none⟩ rfl _ (load_all (P := Tryz.prog) 79 _ E.out.ra Tryz.underlying79 rfl (by kernel_rfl)) ?_)
          | (refine wpList_ldw (by rfl) 79 _ rfl ⟨w2.heap.size, 0, none⟩ rfl _ (load_all (P := Tryz.prog) 79 _ E.out.rb Tryz.underlying79 rfl (by kernel_rfl)) ?_)
          | (refine wpList_ldw (by rfl) 79 _ rfl ⟨w3.heap.size, 0, none⟩ rfl _ (load_all (P := Tryz.prog) 79 _ E.out.rc Tryz.underlying79 rfl (by kernel_rfl)) ?_))
        refine (H5.out _).mono ?_
        rintro e w10 ⟨rfl, b10⟩
        replace E : Hid _ := E.out.keep b10
        clear b10
        go_wp2_with fail
        go_ret
        exact ⟨rfl, E.out.bel⟩
  case false.false.true =>
    simp at hm hn hk
    have q1 : (!(o1 == 0) == (s.toList == t.toList)) = false := by
      have h := HE.out (by rw [hm, hn])
      rw [ba_eq]
      by_cases h0 : o1 = 0 <;> simp [h0, ← h]
    subst hm hn hk
    go_enter Tryz.func7, Tryz.ntmps7
    go_wp2_with fail
    refine (show Calls Tryz.prog 9 #[] w _ from HK.out).mono ?_
    rintro e w1 ⟨rfl, b1⟩
    have HB1 : Hid (Below w.heap.size w w1) := b1
    have z1 := rowIs_vals w1 (ef 0 ⟨#[]⟩ z20) 22 79
    clear b1
    go_wp2_with (first
      | (refine wpList_st rfl 79 _ _ rfl w1.heap.size rfl (ef 33188 s z20) rfl z1 (by kernel_rfl) (ef_one _ _ _) ?_; intro w2 r2 f2; have R2 : Hid _ := r2; have b2 : Hid (Below w1.heap.size w1 w2) := new_fr f2; have z2 := rowIs_vals w2 (ef 0 ⟨#[]⟩ z20) 22 79; clear f2 z1 r2)
      | (refine wpList_st rfl 79 _ _ rfl w2.heap.size rfl (ef 33188 t z20) rfl z2 (by kernel_rfl) (ef_one _ _ _) ?_; intro w3 r3 f3; have R3 : Hid _ := r3; have b3 : Hid (Below w2.heap.size w2 w3) := new_fr f3; have z3 := rowIs_vals w3 (ef 0 ⟨#[]⟩ z20) 22 79; clear f3 z2 r3)
      | (refine wpList_st rfl 79 _ _ rfl w3.heap.size rfl (ef 33188 u z20) rfl z3 (by kernel_rfl) (ef_one _ _ _) ?_; intro w4 r4 f4; have E : Hid _ := es_new HB1.out R2.out b2.out R3.out b3.out r4 (new_fr f4); clear f4 z3 r4 R2 R3 b2 b3)
      | (refine wpList_set rfl _ _ rfl w1.heap.size rfl 16384 rfl E.out.ra ?_; intro w5 r5 f5; replace E : Hid _ := E.out.setA r5 f5; clear r5 f5)
      | (refine wpList_set rfl _ _ rfl w2.heap.size rfl 16384 rfl E.out.rb ?_; intro w5 r5 f5; replace E : Hid _ := E.out.setB r5 f5; clear r5 f5)
      | (refine wpList_set rfl _ _ rfl w3.heap.size rfl 16384 rfl E.out.rc ?_; intro w5 r5 f5; replace E : Hid _ := E.out.setC r5 f5; clear r5 f5)
      | (refine wpList_ldw (by rfl) 79 _ rfl ⟨w1.heap.size, 0, none⟩ rfl _ (load_all (P := Tryz.prog) 79 _ E.out.ra Tryz.underlying79 rfl (by kernel_rfl)) ?_)
      | (refine wpList_ldw (by rfl) 79 _ rfl ⟨w2.heap.size, 0, none⟩ rfl _ (load_all (P := Tryz.prog) 79 _ E.out.rb Tryz.underlying79 rfl (by kernel_rfl)) ?_)
      | (refine wpList_ldw (by rfl) 79 _ rfl ⟨w3.heap.size, 0, none⟩ rfl _ (load_all (P := Tryz.prog) 79 _ E.out.rc Tryz.underlying79 rfl (by kernel_rfl)) ?_))
    refine (h1 _).mono ?_
    rintro e w6 ⟨rfl, b6⟩
    replace E : Hid _ := E.out.keep b6
    clear b6
    go_wp2_with (first
      | (refine wpList_ldw (by rfl) 79 _ rfl ⟨w1.heap.size, 0, none⟩ rfl _ (load_all (P := Tryz.prog) 79 _ E.out.ra Tryz.underlying79 rfl (by kernel_rfl)) ?_)
      | (refine wpList_ldw (by rfl) 79 _ rfl ⟨w2.heap.size, 0, none⟩ rfl _ (load_all (P := Tryz.prog) 79 _ E.out.rb Tryz.underlying79 rfl (by kernel_rfl)) ?_)
      | (refine wpList_ldw (by rfl) 79 _ rfl ⟨w3.heap.size, 0, none⟩ rfl _ (load_all (P := Tryz.prog) 79 _ E.out.rc Tryz.underlying79 rfl (by kernel_rfl)) ?_))
    refine (h2 _).mono ?_
    rintro e w7 ⟨rfl, b7⟩
    replace E : Hid _ := E.out.keep b7
    clear b7
    go_wp2_with (first
      | (refine wpList_ldw (by rfl) 79 _ rfl ⟨w1.heap.size, 0, none⟩ rfl _ (load_all (P := Tryz.prog) 79 _ E.out.ra Tryz.underlying79 rfl (by kernel_rfl)) ?_)
      | (refine wpList_ldw (by rfl) 79 _ rfl ⟨w2.heap.size, 0, none⟩ rfl _ (load_all (P := Tryz.prog) 79 _ E.out.rb Tryz.underlying79 rfl (by kernel_rfl)) ?_)
      | (refine wpList_ldw (by rfl) 79 _ rfl ⟨w3.heap.size, 0, none⟩ rfl _ (load_all (P := Tryz.prog) 79 _ E.out.rc Tryz.underlying79 rfl (by kernel_rfl)) ?_))
    refine (h3 _).mono ?_
    rintro e w8 ⟨rfl, b8⟩
    replace E : Hid _ := E.out.keep b8
    clear b8
    go_wp2_with (first
      | (refine wpList_ldw (by rfl) 79 _ rfl ⟨w1.heap.size, 0, none⟩ rfl _ (load_all (P := Tryz.prog) 79 _ E.out.ra Tryz.underlying79 rfl (by kernel_rfl)) ?_)
      | (refine wpList_ldw (by rfl) 79 _ rfl ⟨w2.heap.size, 0, none⟩ rfl _ (load_all (P := Tryz.prog) 79 _ E.out.rb Tryz.underlying79 rfl (by kernel_rfl)) ?_)
      | (refine wpList_ldw (by rfl) 79 _ rfl ⟨w3.heap.size, 0, none⟩ rfl _ (load_all (P := Tryz.prog) 79 _ E.out.rc Tryz.underlying79 rfl (by kernel_rfl)) ?_))
    refine (H4.out _).mono ?_
    rintro e w9 ⟨rfl, b9⟩
    replace E : Hid _ := E.out.keep b9
    clear b9
    by_cases p1 : 0 ≤ o1
    · have e1 : decide (0 ≤ o1) = true := by simp [p1]
      go_wp2_with fail
      go_ret
      exact ⟨rfl, E.out.bel⟩
    · have e1 : decide (0 ≤ o1) = false := by simp [p1]
      by_cases p2 : 0 ≤ o2
      · have e2 : decide (0 ≤ o2) = true := by simp [p2]
        go_wp2_with fail
        go_ret
        exact ⟨rfl, E.out.bel⟩
      · have e2 : decide (0 ≤ o2) = false := by simp [p2]
        have p3 : o3 < 0 := HT.out (by omega) (by omega)
        have e3 : decide (o3 < 0) = true := by simp [p3]
        go_wp2_with (first
          | (refine wpList_ldw (by rfl) 79 _ rfl ⟨w1.heap.size, 0, none⟩ rfl _ (load_all (P := Tryz.prog) 79 _ E.out.ra Tryz.underlying79 rfl (by kernel_rfl)) ?_)
          | (refine wpList_ldw (by rfl) 79 _ rfl ⟨w2.heap.size, 0, none⟩ rfl _ (load_all (P := Tryz.prog) 79 _ E.out.rb Tryz.underlying79 rfl (by kernel_rfl)) ?_)
          | (refine wpList_ldw (by rfl) 79 _ rfl ⟨w3.heap.size, 0, none⟩ rfl _ (load_all (P := Tryz.prog) 79 _ E.out.rc Tryz.underlying79 rfl (by kernel_rfl)) ?_))
        refine (H5.out _).mono ?_
        rintro e w10 ⟨rfl, b10⟩
        replace E : Hid _ := E.out.keep b10
        clear b10
        go_wp2_with fail
        go_ret
        exact ⟨rfl, E.out.bel⟩
  case false.true.false =>
    simp at hm hn hk
    subst hm hn hk
    go_enter Tryz.func7, Tryz.ntmps7
    go_wp2_with fail
    refine (show Calls Tryz.prog 9 #[] w _ from HK.out).mono ?_
    rintro e w1 ⟨rfl, b1⟩
    have HB1 : Hid (Below w.heap.size w w1) := b1
    have z1 := rowIs_vals w1 (ef 0 ⟨#[]⟩ z20) 22 79
    clear b1
    go_wp2_with (first
      | (refine wpList_st rfl 79 _ _ rfl w1.heap.size rfl (ef 33188 s z20) rfl z1 (by kernel_rfl) (ef_one _ _ _) ?_; intro w2 r2 f2; have R2 : Hid _ := r2; have b2 : Hid (Below w1.heap.size w1 w2) := new_fr f2; have z2 := rowIs_vals w2 (ef 0 ⟨#[]⟩ z20) 22 79; clear f2 z1 r2)
      | (refine wpList_st rfl 79 _ _ rfl w2.heap.size rfl (ef 33188 t z20) rfl z2 (by kernel_rfl) (ef_one _ _ _) ?_; intro w3 r3 f3; have R3 : Hid _ := r3; have b3 : Hid (Below w2.heap.size w2 w3) := new_fr f3; have z3 := rowIs_vals w3 (ef 0 ⟨#[]⟩ z20) 22 79; clear f3 z2 r3)
      | (refine wpList_st rfl 79 _ _ rfl w3.heap.size rfl (ef 33188 u z20) rfl z3 (by kernel_rfl) (ef_one _ _ _) ?_; intro w4 r4 f4; have E : Hid _ := es_new HB1.out R2.out b2.out R3.out b3.out r4 (new_fr f4); clear f4 z3 r4 R2 R3 b2 b3)
      | (refine wpList_set rfl _ _ rfl w1.heap.size rfl 16384 rfl E.out.ra ?_; intro w5 r5 f5; replace E : Hid _ := E.out.setA r5 f5; clear r5 f5)
      | (refine wpList_set rfl _ _ rfl w2.heap.size rfl 16384 rfl E.out.rb ?_; intro w5 r5 f5; replace E : Hid _ := E.out.setB r5 f5; clear r5 f5)
      | (refine wpList_set rfl _ _ rfl w3.heap.size rfl 16384 rfl E.out.rc ?_; intro w5 r5 f5; replace E : Hid _ := E.out.setC r5 f5; clear r5 f5)
      | (refine wpList_ldw (by rfl) 79 _ rfl ⟨w1.heap.size, 0, none⟩ rfl _ (load_all (P := Tryz.prog) 79 _ E.out.ra Tryz.underlying79 rfl (by kernel_rfl)) ?_)
      | (refine wpList_ldw (by rfl) 79 _ rfl ⟨w2.heap.size, 0, none⟩ rfl _ (load_all (P := Tryz.prog) 79 _ E.out.rb Tryz.underlying79 rfl (by kernel_rfl)) ?_)
      | (refine wpList_ldw (by rfl) 79 _ rfl ⟨w3.heap.size, 0, none⟩ rfl _ (load_all (P := Tryz.prog) 79 _ E.out.rc Tryz.underlying79 rfl (by kernel_rfl)) ?_))
    refine (h1 _).mono ?_
    rintro e w6 ⟨rfl, b6⟩
    replace E : Hid _ := E.out.keep b6
    clear b6
    go_wp2_with (first
      | (refine wpList_ldw (by rfl) 79 _ rfl ⟨w1.heap.size, 0, none⟩ rfl _ (load_all (P := Tryz.prog) 79 _ E.out.ra Tryz.underlying79 rfl (by kernel_rfl)) ?_)
      | (refine wpList_ldw (by rfl) 79 _ rfl ⟨w2.heap.size, 0, none⟩ rfl _ (load_all (P := Tryz.prog) 79 _ E.out.rb Tryz.underlying79 rfl (by kernel_rfl)) ?_)
      | (refine wpList_ldw (by rfl) 79 _ rfl ⟨w3.heap.size, 0, none⟩ rfl _ (load_all (P := Tryz.prog) 79 _ E.out.rc Tryz.underlying79 rfl (by kernel_rfl)) ?_))
    refine (h2 _).mono ?_
    rintro e w7 ⟨rfl, b7⟩
    replace E : Hid _ := E.out.keep b7
    clear b7
    go_wp2_with (first
      | (refine wpList_ldw (by rfl) 79 _ rfl ⟨w1.heap.size, 0, none⟩ rfl _ (load_all (P := Tryz.prog) 79 _ E.out.ra Tryz.underlying79 rfl (by kernel_rfl)) ?_)
      | (refine wpList_ldw (by rfl) 79 _ rfl ⟨w2.heap.size, 0, none⟩ rfl _ (load_all (P := Tryz.prog) 79 _ E.out.rb Tryz.underlying79 rfl (by kernel_rfl)) ?_)
      | (refine wpList_ldw (by rfl) 79 _ rfl ⟨w3.heap.size, 0, none⟩ rfl _ (load_all (P := Tryz.prog) 79 _ E.out.rc Tryz.underlying79 rfl (by kernel_rfl)) ?_))
    refine (h3 _).mono ?_
    rintro e w8 ⟨rfl, b8⟩
    replace E : Hid _ := E.out.keep b8
    clear b8
    go_wp2_with (first
      | (refine wpList_ldw (by rfl) 79 _ rfl ⟨w1.heap.size, 0, none⟩ rfl _ (load_all (P := Tryz.prog) 79 _ E.out.ra Tryz.underlying79 rfl (by kernel_rfl)) ?_)
      | (refine wpList_ldw (by rfl) 79 _ rfl ⟨w2.heap.size, 0, none⟩ rfl _ (load_all (P := Tryz.prog) 79 _ E.out.rb Tryz.underlying79 rfl (by kernel_rfl)) ?_)
      | (refine wpList_ldw (by rfl) 79 _ rfl ⟨w3.heap.size, 0, none⟩ rfl _ (load_all (P := Tryz.prog) 79 _ E.out.rc Tryz.underlying79 rfl (by kernel_rfl)) ?_))
    refine (H4.out _).mono ?_
    rintro e w9 ⟨rfl, b9⟩
    replace E : Hid _ := E.out.keep b9
    clear b9
    by_cases p1 : 0 ≤ o1
    · have e1 : decide (0 ≤ o1) = true := by simp [p1]
      go_wp2_with fail
      go_ret
      exact ⟨rfl, E.out.bel⟩
    · have e1 : decide (0 ≤ o1) = false := by simp [p1]
      by_cases p2 : 0 ≤ o2
      · have e2 : decide (0 ≤ o2) = true := by simp [p2]
        go_wp2_with fail
        go_ret
        exact ⟨rfl, E.out.bel⟩
      · have e2 : decide (0 ≤ o2) = false := by simp [p2]
        have p3 : o3 < 0 := HT.out (by omega) (by omega)
        have e3 : decide (o3 < 0) = true := by simp [p3]
        go_wp2_with (first
          | (refine wpList_ldw (by rfl) 79 _ rfl ⟨w1.heap.size, 0, none⟩ rfl _ (load_all (P := Tryz.prog) 79 _ E.out.ra Tryz.underlying79 rfl (by kernel_rfl)) ?_)
          | (refine wpList_ldw (by rfl) 79 _ rfl ⟨w2.heap.size, 0, none⟩ rfl _ (load_all (P := Tryz.prog) 79 _ E.out.rb Tryz.underlying79 rfl (by kernel_rfl)) ?_)
          | (refine wpList_ldw (by rfl) 79 _ rfl ⟨w3.heap.size, 0, none⟩ rfl _ (load_all (P := Tryz.prog) 79 _ E.out.rc Tryz.underlying79 rfl (by kernel_rfl)) ?_))
        refine (H5.out _).mono ?_
        rintro e w10 ⟨rfl, b10⟩
        replace E : Hid _ := E.out.keep b10
        clear b10
        go_wp2_with fail
        go_ret
        exact ⟨rfl, E.out.bel⟩
  case false.true.true =>
    simp at hm hn hk
    subst hm hn hk
    go_enter Tryz.func7, Tryz.ntmps7
    go_wp2_with fail
    refine (show Calls Tryz.prog 9 #[] w _ from HK.out).mono ?_
    rintro e w1 ⟨rfl, b1⟩
    have HB1 : Hid (Below w.heap.size w w1) := b1
    have z1 := rowIs_vals w1 (ef 0 ⟨#[]⟩ z20) 22 79
    clear b1
    go_wp2_with (first
      | (refine wpList_st rfl 79 _ _ rfl w1.heap.size rfl (ef 33188 s z20) rfl z1 (by kernel_rfl) (ef_one _ _ _) ?_; intro w2 r2 f2; have R2 : Hid _ := r2; have b2 : Hid (Below w1.heap.size w1 w2) := new_fr f2; have z2 := rowIs_vals w2 (ef 0 ⟨#[]⟩ z20) 22 79; clear f2 z1 r2)
      | (refine wpList_st rfl 79 _ _ rfl w2.heap.size rfl (ef 33188 t z20) rfl z2 (by kernel_rfl) (ef_one _ _ _) ?_; intro w3 r3 f3; have R3 : Hid _ := r3; have b3 : Hid (Below w2.heap.size w2 w3) := new_fr f3; have z3 := rowIs_vals w3 (ef 0 ⟨#[]⟩ z20) 22 79; clear f3 z2 r3)
      | (refine wpList_st rfl 79 _ _ rfl w3.heap.size rfl (ef 33188 u z20) rfl z3 (by kernel_rfl) (ef_one _ _ _) ?_; intro w4 r4 f4; have E : Hid _ := es_new HB1.out R2.out b2.out R3.out b3.out r4 (new_fr f4); clear f4 z3 r4 R2 R3 b2 b3)
      | (refine wpList_set rfl _ _ rfl w1.heap.size rfl 16384 rfl E.out.ra ?_; intro w5 r5 f5; replace E : Hid _ := E.out.setA r5 f5; clear r5 f5)
      | (refine wpList_set rfl _ _ rfl w2.heap.size rfl 16384 rfl E.out.rb ?_; intro w5 r5 f5; replace E : Hid _ := E.out.setB r5 f5; clear r5 f5)
      | (refine wpList_set rfl _ _ rfl w3.heap.size rfl 16384 rfl E.out.rc ?_; intro w5 r5 f5; replace E : Hid _ := E.out.setC r5 f5; clear r5 f5)
      | (refine wpList_ldw (by rfl) 79 _ rfl ⟨w1.heap.size, 0, none⟩ rfl _ (load_all (P := Tryz.prog) 79 _ E.out.ra Tryz.underlying79 rfl (by kernel_rfl)) ?_)
      | (refine wpList_ldw (by rfl) 79 _ rfl ⟨w2.heap.size, 0, none⟩ rfl _ (load_all (P := Tryz.prog) 79 _ E.out.rb Tryz.underlying79 rfl (by kernel_rfl)) ?_)
      | (refine wpList_ldw (by rfl) 79 _ rfl ⟨w3.heap.size, 0, none⟩ rfl _ (load_all (P := Tryz.prog) 79 _ E.out.rc Tryz.underlying79 rfl (by kernel_rfl)) ?_))
    refine (h1 _).mono ?_
    rintro e w6 ⟨rfl, b6⟩
    replace E : Hid _ := E.out.keep b6
    clear b6
    go_wp2_with (first
      | (refine wpList_ldw (by rfl) 79 _ rfl ⟨w1.heap.size, 0, none⟩ rfl _ (load_all (P := Tryz.prog) 79 _ E.out.ra Tryz.underlying79 rfl (by kernel_rfl)) ?_)
      | (refine wpList_ldw (by rfl) 79 _ rfl ⟨w2.heap.size, 0, none⟩ rfl _ (load_all (P := Tryz.prog) 79 _ E.out.rb Tryz.underlying79 rfl (by kernel_rfl)) ?_)
      | (refine wpList_ldw (by rfl) 79 _ rfl ⟨w3.heap.size, 0, none⟩ rfl _ (load_all (P := Tryz.prog) 79 _ E.out.rc Tryz.underlying79 rfl (by kernel_rfl)) ?_))
    refine (h2 _).mono ?_
    rintro e w7 ⟨rfl, b7⟩
    replace E : Hid _ := E.out.keep b7
    clear b7
    go_wp2_with (first
      | (refine wpList_ldw (by rfl) 79 _ rfl ⟨w1.heap.size, 0, none⟩ rfl _ (load_all (P := Tryz.prog) 79 _ E.out.ra Tryz.underlying79 rfl (by kernel_rfl)) ?_)
      | (refine wpList_ldw (by rfl) 79 _ rfl ⟨w2.heap.size, 0, none⟩ rfl _ (load_all (P := Tryz.prog) 79 _ E.out.rb Tryz.underlying79 rfl (by kernel_rfl)) ?_)
      | (refine wpList_ldw (by rfl) 79 _ rfl ⟨w3.heap.size, 0, none⟩ rfl _ (load_all (P := Tryz.prog) 79 _ E.out.rc Tryz.underlying79 rfl (by kernel_rfl)) ?_))
    refine (h3 _).mono ?_
    rintro e w8 ⟨rfl, b8⟩
    replace E : Hid _ := E.out.keep b8
    clear b8
    go_wp2_with (first
      | (refine wpList_ldw (by rfl) 79 _ rfl ⟨w1.heap.size, 0, none⟩ rfl _ (load_all (P := Tryz.prog) 79 _ E.out.ra Tryz.underlying79 rfl (by kernel_rfl)) ?_)
      | (refine wpList_ldw (by rfl) 79 _ rfl ⟨w2.heap.size, 0, none⟩ rfl _ (load_all (P := Tryz.prog) 79 _ E.out.rb Tryz.underlying79 rfl (by kernel_rfl)) ?_)
      | (refine wpList_ldw (by rfl) 79 _ rfl ⟨w3.heap.size, 0, none⟩ rfl _ (load_all (P := Tryz.prog) 79 _ E.out.rc Tryz.underlying79 rfl (by kernel_rfl)) ?_))
    refine (H4.out _).mono ?_
    rintro e w9 ⟨rfl, b9⟩
    replace E : Hid _ := E.out.keep b9
    clear b9
    by_cases p1 : 0 ≤ o1
    · have e1 : decide (0 ≤ o1) = true := by simp [p1]
      go_wp2_with fail
      go_ret
      exact ⟨rfl, E.out.bel⟩
    · have e1 : decide (0 ≤ o1) = false := by simp [p1]
      by_cases p2 : 0 ≤ o2
      · have e2 : decide (0 ≤ o2) = true := by simp [p2]
        go_wp2_with fail
        go_ret
        exact ⟨rfl, E.out.bel⟩
      · have e2 : decide (0 ≤ o2) = false := by simp [p2]
        have p3 : o3 < 0 := HT.out (by omega) (by omega)
        have e3 : decide (o3 < 0) = true := by simp [p3]
        go_wp2_with (first
          | (refine wpList_ldw (by rfl) 79 _ rfl ⟨w1.heap.size, 0, none⟩ rfl _ (load_all (P := Tryz.prog) 79 _ E.out.ra Tryz.underlying79 rfl (by kernel_rfl)) ?_)
          | (refine wpList_ldw (by rfl) 79 _ rfl ⟨w2.heap.size, 0, none⟩ rfl _ (load_all (P := Tryz.prog) 79 _ E.out.rb Tryz.underlying79 rfl (by kernel_rfl)) ?_)
          | (refine wpList_ldw (by rfl) 79 _ rfl ⟨w3.heap.size, 0, none⟩ rfl _ (load_all (P := Tryz.prog) 79 _ E.out.rc Tryz.underlying79 rfl (by kernel_rfl)) ?_))
        refine (H5.out _).mono ?_
        rintro e w10 ⟨rfl, b10⟩
        replace E : Hid _ := E.out.keep b10
        clear b10
        go_wp2_with fail
        go_ret
        exact ⟨rfl, E.out.bel⟩
  case true.false.false =>
    simp at hm hn hk
    subst hm hn hk
    go_enter Tryz.func7, Tryz.ntmps7
    go_wp2_with fail
    refine (show Calls Tryz.prog 9 #[] w _ from HK.out).mono ?_
    rintro e w1 ⟨rfl, b1⟩
    have HB1 : Hid (Below w.heap.size w w1) := b1
    have z1 := rowIs_vals w1 (ef 0 ⟨#[]⟩ z20) 22 79
    clear b1
    go_wp2_with (first
      | (refine wpList_st rfl 79 _ _ rfl w1.heap.size rfl (ef 33188 s z20) rfl z1 (by kernel_rfl) (ef_one _ _ _) ?_; intro w2 r2 f2; have R2 : Hid _ := r2; have b2 : Hid (Below w1.heap.size w1 w2) := new_fr f2; have z2 := rowIs_vals w2 (ef 0 ⟨#[]⟩ z20) 22 79; clear f2 z1 r2)
      | (refine wpList_st rfl 79 _ _ rfl w2.heap.size rfl (ef 33188 t z20) rfl z2 (by kernel_rfl) (ef_one _ _ _) ?_; intro w3 r3 f3; have R3 : Hid _ := r3; have b3 : Hid (Below w2.heap.size w2 w3) := new_fr f3; have z3 := rowIs_vals w3 (ef 0 ⟨#[]⟩ z20) 22 79; clear f3 z2 r3)
      | (refine wpList_st rfl 79 _ _ rfl w3.heap.size rfl (ef 33188 u z20) rfl z3 (by kernel_rfl) (ef_one _ _ _) ?_; intro w4 r4 f4; have E : Hid _ := es_new HB1.out R2.out b2.out R3.out b3.out r4 (new_fr f4); clear f4 z3 r4 R2 R3 b2 b3)
      | (refine wpList_set rfl _ _ rfl w1.heap.size rfl 16384 rfl E.out.ra ?_; intro w5 r5 f5; replace E : Hid _ := E.out.setA r5 f5; clear r5 f5)
      | (refine wpList_set rfl _ _ rfl w2.heap.size rfl 16384 rfl E.out.rb ?_; intro w5 r5 f5; replace E : Hid _ := E.out.setB r5 f5; clear r5 f5)
      | (refine wpList_set rfl _ _ rfl w3.heap.size rfl 16384 rfl E.out.rc ?_; intro w5 r5 f5; replace E : Hid _ := E.out.setC r5 f5; clear r5 f5)
      | (refine wpList_ldw (by rfl) 79 _ rfl ⟨w1.heap.size, 0, none⟩ rfl _ (load_all (P := Tryz.prog) 79 _ E.out.ra Tryz.underlying79 rfl (by kernel_rfl)) ?_)
      | (refine wpList_ldw (by rfl) 79 _ rfl ⟨w2.heap.size, 0, none⟩ rfl _ (load_all (P := Tryz.prog) 79 _ E.out.rb Tryz.underlying79 rfl (by kernel_rfl)) ?_)
      | (refine wpList_ldw (by rfl) 79 _ rfl ⟨w3.heap.size, 0, none⟩ rfl _ (load_all (P := Tryz.prog) 79 _ E.out.rc Tryz.underlying79 rfl (by kernel_rfl)) ?_))
    refine (h1 _).mono ?_
    rintro e w6 ⟨rfl, b6⟩
    replace E : Hid _ := E.out.keep b6
    clear b6
    go_wp2_with (first
      | (refine wpList_ldw (by rfl) 79 _ rfl ⟨w1.heap.size, 0, none⟩ rfl _ (load_all (P := Tryz.prog) 79 _ E.out.ra Tryz.underlying79 rfl (by kernel_rfl)) ?_)
      | (refine wpList_ldw (by rfl) 79 _ rfl ⟨w2.heap.size, 0, none⟩ rfl _ (load_all (P := Tryz.prog) 79 _ E.out.rb Tryz.underlying79 rfl (by kernel_rfl)) ?_)
      | (refine wpList_ldw (by rfl) 79 _ rfl ⟨w3.heap.size, 0, none⟩ rfl _ (load_all (P := Tryz.prog) 79 _ E.out.rc Tryz.underlying79 rfl (by kernel_rfl)) ?_))
    refine (h2 _).mono ?_
    rintro e w7 ⟨rfl, b7⟩
    replace E : Hid _ := E.out.keep b7
    clear b7
    go_wp2_with (first
      | (refine wpList_ldw (by rfl) 79 _ rfl ⟨w1.heap.size, 0, none⟩ rfl _ (load_all (P := Tryz.prog) 79 _ E.out.ra Tryz.underlying79 rfl (by kernel_rfl)) ?_)
      | (refine wpList_ldw (by rfl) 79 _ rfl ⟨w2.heap.size, 0, none⟩ rfl _ (load_all (P := Tryz.prog) 79 _ E.out.rb Tryz.underlying79 rfl (by kernel_rfl)) ?_)
      | (refine wpList_ldw (by rfl) 79 _ rfl ⟨w3.heap.size, 0, none⟩ rfl _ (load_all (P := Tryz.prog) 79 _ E.out.rc Tryz.underlying79 rfl (by kernel_rfl)) ?_))
    refine (h3 _).mono ?_
    rintro e w8 ⟨rfl, b8⟩
    replace E : Hid _ := E.out.keep b8
    clear b8
    go_wp2_with (first
      | (refine wpList_ldw (by rfl) 79 _ rfl ⟨w1.heap.size, 0, none⟩ rfl _ (load_all (P := Tryz.prog) 79 _ E.out.ra Tryz.underlying79 rfl (by kernel_rfl)) ?_)
      | (refine wpList_ldw (by rfl) 79 _ rfl ⟨w2.heap.size, 0, none⟩ rfl _ (load_all (P := Tryz.prog) 79 _ E.out.rb Tryz.underlying79 rfl (by kernel_rfl)) ?_)
      | (refine wpList_ldw (by rfl) 79 _ rfl ⟨w3.heap.size, 0, none⟩ rfl _ (load_all (P := Tryz.prog) 79 _ E.out.rc Tryz.underlying79 rfl (by kernel_rfl)) ?_))
    refine (H4.out _).mono ?_
    rintro e w9 ⟨rfl, b9⟩
    replace E : Hid _ := E.out.keep b9
    clear b9
    by_cases p1 : 0 ≤ o1
    · have e1 : decide (0 ≤ o1) = true := by simp [p1]
      go_wp2_with fail
      go_ret
      exact ⟨rfl, E.out.bel⟩
    · have e1 : decide (0 ≤ o1) = false := by simp [p1]
      by_cases p2 : 0 ≤ o2
      · have e2 : decide (0 ≤ o2) = true := by simp [p2]
        go_wp2_with fail
        go_ret
        exact ⟨rfl, E.out.bel⟩
      · have e2 : decide (0 ≤ o2) = false := by simp [p2]
        have p3 : o3 < 0 := HT.out (by omega) (by omega)
        have e3 : decide (o3 < 0) = true := by simp [p3]
        go_wp2_with (first
          | (refine wpList_ldw (by rfl) 79 _ rfl ⟨w1.heap.size, 0, none⟩ rfl _ (load_all (P := Tryz.prog) 79 _ E.out.ra Tryz.underlying79 rfl (by kernel_rfl)) ?_)
          | (refine wpList_ldw (by rfl) 79 _ rfl ⟨w2.heap.size, 0, none⟩ rfl _ (load_all (P := Tryz.prog) 79 _ E.out.rb Tryz.underlying79 rfl (by kernel_rfl)) ?_)
          | (refine wpList_ldw (by rfl) 79 _ rfl ⟨w3.heap.size, 0, none⟩ rfl _ (load_all (P := Tryz.prog) 79 _ E.out.rc Tryz.underlying79 rfl (by kernel_rfl)) ?_))
        refine (H5.out _).mono ?_
        rintro e w10 ⟨rfl, b10⟩
        replace E : Hid _ := E.out.keep b10
        clear b10
        go_wp2_with fail
        go_ret
        exact ⟨rfl, E.out.bel⟩
  case true.false.true =>
    simp at hm hn hk
    subst hm hn hk
    go_enter Tryz.func7, Tryz.ntmps7
    go_wp2_with fail
    refine (show Calls Tryz.prog 9 #[] w _ from HK.out).mono ?_
    rintro e w1 ⟨rfl, b1⟩
    have HB1 : Hid (Below w.heap.size w w1) := b1
    have z1 := rowIs_vals w1 (ef 0 ⟨#[]⟩ z20) 22 79
    clear b1
    go_wp2_with (first
      | (refine wpList_st rfl 79 _ _ rfl w1.heap.size rfl (ef 33188 s z20) rfl z1 (by kernel_rfl) (ef_one _ _ _) ?_; intro w2 r2 f2; have R2 : Hid _ := r2; have b2 : Hid (Below w1.heap.size w1 w2) := new_fr f2; have z2 := rowIs_vals w2 (ef 0 ⟨#[]⟩ z20) 22 79; clear f2 z1 r2)
      | (refine wpList_st rfl 79 _ _ rfl w2.heap.size rfl (ef 33188 t z20) rfl z2 (by kernel_rfl) (ef_one _ _ _) ?_; intro w3 r3 f3; have R3 : Hid _ := r3; have b3 : Hid (Below w2.heap.size w2 w3) := new_fr f3; have z3 := rowIs_vals w3 (ef 0 ⟨#[]⟩ z20) 22 79; clear f3 z2 r3)
      | (refine wpList_st rfl 79 _ _ rfl w3.heap.size rfl (ef 33188 u z20) rfl z3 (by kernel_rfl) (ef_one _ _ _) ?_; intro w4 r4 f4; have E : Hid _ := es_new HB1.out R2.out b2.out R3.out b3.out r4 (new_fr f4); clear f4 z3 r4 R2 R3 b2 b3)
      | (refine wpList_set rfl _ _ rfl w1.heap.size rfl 16384 rfl E.out.ra ?_; intro w5 r5 f5; replace E : Hid _ := E.out.setA r5 f5; clear r5 f5)
      | (refine wpList_set rfl _ _ rfl w2.heap.size rfl 16384 rfl E.out.rb ?_; intro w5 r5 f5; replace E : Hid _ := E.out.setB r5 f5; clear r5 f5)
      | (refine wpList_set rfl _ _ rfl w3.heap.size rfl 16384 rfl E.out.rc ?_; intro w5 r5 f5; replace E : Hid _ := E.out.setC r5 f5; clear r5 f5)
      | (refine wpList_ldw (by rfl) 79 _ rfl ⟨w1.heap.size, 0, none⟩ rfl _ (load_all (P := Tryz.prog) 79 _ E.out.ra Tryz.underlying79 rfl (by kernel_rfl)) ?_)
      | (refine wpList_ldw (by rfl) 79 _ rfl ⟨w2.heap.size, 0, none⟩ rfl _ (load_all (P := Tryz.prog) 79 _ E.out.rb Tryz.underlying79 rfl (by kernel_rfl)) ?_)
      | (refine wpList_ldw (by rfl) 79 _ rfl ⟨w3.heap.size, 0, none⟩ rfl _ (load_all (P := Tryz.prog) 79 _ E.out.rc Tryz.underlying79 rfl (by kernel_rfl)) ?_))
    refine (h1 _).mono ?_
    rintro e w6 ⟨rfl, b6⟩
    replace E : Hid _ := E.out.keep b6
    clear b6
    go_wp2_with (first
      | (refine wpList_ldw (by rfl) 79 _ rfl ⟨w1.heap.size, 0, none⟩ rfl _ (load_all (P := Tryz.prog) 79 _ E.out.ra Tryz.underlying79 rfl (by kernel_rfl)) ?_)
      | (refine wpList_ldw (by rfl) 79 _ rfl ⟨w2.heap.size, 0, none⟩ rfl _ (load_all (P := Tryz.prog) 79 _ E.out.rb Tryz.underlying79 rfl (by kernel_rfl)) ?_)
      | (refine wpList_ldw (by rfl) 79 _ rfl ⟨w3.heap.size, 0, none⟩ rfl _ (load_all (P := Tryz.prog) 79 _ E.out.rc Tryz.underlying79 rfl (by kernel_rfl)) ?_))
    refine (h2 _).mono ?_
    rintro e w7 ⟨rfl, b7⟩
    replace E : Hid _ := E.out.keep b7
    clear b7
    go_wp2_with (first
      | (refine wpList_ldw (by rfl) 79 _ rfl ⟨w1.heap.size, 0, none⟩ rfl _ (load_all (P := Tryz.prog) 79 _ E.out.ra Tryz.underlying79 rfl (by kernel_rfl)) ?_)
      | (refine wpList_ldw (by rfl) 79 _ rfl ⟨w2.heap.size, 0, none⟩ rfl _ (load_all (P := Tryz.prog) 79 _ E.out.rb Tryz.underlying79 rfl (by kernel_rfl)) ?_)
      | (refine wpList_ldw (by rfl) 79 _ rfl ⟨w3.heap.size, 0, none⟩ rfl _ (load_all (P := Tryz.prog) 79 _ E.out.rc Tryz.underlying79 rfl (by kernel_rfl)) ?_))
    refine (h3 _).mono ?_
    rintro e w8 ⟨rfl, b8⟩
    replace E : Hid _ := E.out.keep b8
    clear b8
    go_wp2_with (first
      | (refine wpList_ldw (by rfl) 79 _ rfl ⟨w1.heap.size, 0, none⟩ rfl _ (load_all (P := Tryz.prog) 79 _ E.out.ra Tryz.underlying79 rfl (by kernel_rfl)) ?_)
      | (refine wpList_ldw (by rfl) 79 _ rfl ⟨w2.heap.size, 0, none⟩ rfl _ (load_all (P := Tryz.prog) 79 _ E.out.rb Tryz.underlying79 rfl (by kernel_rfl)) ?_)
      | (refine wpList_ldw (by rfl) 79 _ rfl ⟨w3.heap.size, 0, none⟩ rfl _ (load_all (P := Tryz.prog) 79 _ E.out.rc Tryz.underlying79 rfl (by kernel_rfl)) ?_))
    refine (H4.out _).mono ?_
    rintro e w9 ⟨rfl, b9⟩
    replace E : Hid _ := E.out.keep b9
    clear b9
    by_cases p1 : 0 ≤ o1
    · have e1 : decide (0 ≤ o1) = true := by simp [p1]
      go_wp2_with fail
      go_ret
      exact ⟨rfl, E.out.bel⟩
    · have e1 : decide (0 ≤ o1) = false := by simp [p1]
      by_cases p2 : 0 ≤ o2
      · have e2 : decide (0 ≤ o2) = true := by simp [p2]
        go_wp2_with fail
        go_ret
        exact ⟨rfl, E.out.bel⟩
      · have e2 : decide (0 ≤ o2) = false := by simp [p2]
        have p3 : o3 < 0 := HT.out (by omega) (by omega)
        have e3 : decide (o3 < 0) = true := by simp [p3]
        go_wp2_with (first
          | (refine wpList_ldw (by rfl) 79 _ rfl ⟨w1.heap.size, 0, none⟩ rfl _ (load_all (P := Tryz.prog) 79 _ E.out.ra Tryz.underlying79 rfl (by kernel_rfl)) ?_)
          | (refine wpList_ldw (by rfl) 79 _ rfl ⟨w2.heap.size, 0, none⟩ rfl _ (load_all (P := Tryz.prog) 79 _ E.out.rb Tryz.underlying79 rfl (by kernel_rfl)) ?_)
          | (refine wpList_ldw (by rfl) 79 _ rfl ⟨w3.heap.size, 0, none⟩ rfl _ (load_all (P := Tryz.prog) 79 _ E.out.rc Tryz.underlying79 rfl (by kernel_rfl)) ?_))
        refine (H5.out _).mono ?_
        rintro e w10 ⟨rfl, b10⟩
        replace E : Hid _ := E.out.keep b10
        clear b10
        go_wp2_with fail
        go_ret
        exact ⟨rfl, E.out.bel⟩
  case true.true.false =>
    simp at hm hn hk
    have q1 : (!(o1 == 0) == (s.toList == t.toList)) = false := by
      have h := HE.out (by rw [hm, hn])
      rw [ba_eq]
      by_cases h0 : o1 = 0 <;> simp [h0, ← h]
    subst hm hn hk
    go_enter Tryz.func7, Tryz.ntmps7
    go_wp2_with fail
    refine (show Calls Tryz.prog 9 #[] w _ from HK.out).mono ?_
    rintro e w1 ⟨rfl, b1⟩
    have HB1 : Hid (Below w.heap.size w w1) := b1
    have z1 := rowIs_vals w1 (ef 0 ⟨#[]⟩ z20) 22 79
    clear b1
    go_wp2_with (first
      | (refine wpList_st rfl 79 _ _ rfl w1.heap.size rfl (ef 33188 s z20) rfl z1 (by kernel_rfl) (ef_one _ _ _) ?_; intro w2 r2 f2; have R2 : Hid _ := r2; have b2 : Hid (Below w1.heap.size w1 w2) := new_fr f2; have z2 := rowIs_vals w2 (ef 0 ⟨#[]⟩ z20) 22 79; clear f2 z1 r2)
      | (refine wpList_st rfl 79 _ _ rfl w2.heap.size rfl (ef 33188 t z20) rfl z2 (by kernel_rfl) (ef_one _ _ _) ?_; intro w3 r3 f3; have R3 : Hid _ := r3; have b3 : Hid (Below w2.heap.size w2 w3) := new_fr f3; have z3 := rowIs_vals w3 (ef 0 ⟨#[]⟩ z20) 22 79; clear f3 z2 r3)
      | (refine wpList_st rfl 79 _ _ rfl w3.heap.size rfl (ef 33188 u z20) rfl z3 (by kernel_rfl) (ef_one _ _ _) ?_; intro w4 r4 f4; have E : Hid _ := es_new HB1.out R2.out b2.out R3.out b3.out r4 (new_fr f4); clear f4 z3 r4 R2 R3 b2 b3)
      | (refine wpList_set rfl _ _ rfl w1.heap.size rfl 16384 rfl E.out.ra ?_; intro w5 r5 f5; replace E : Hid _ := E.out.setA r5 f5; clear r5 f5)
      | (refine wpList_set rfl _ _ rfl w2.heap.size rfl 16384 rfl E.out.rb ?_; intro w5 r5 f5; replace E : Hid _ := E.out.setB r5 f5; clear r5 f5)
      | (refine wpList_set rfl _ _ rfl w3.heap.size rfl 16384 rfl E.out.rc ?_; intro w5 r5 f5; replace E : Hid _ := E.out.setC r5 f5; clear r5 f5)
      | (refine wpList_ldw (by rfl) 79 _ rfl ⟨w1.heap.size, 0, none⟩ rfl _ (load_all (P := Tryz.prog) 79 _ E.out.ra Tryz.underlying79 rfl (by kernel_rfl)) ?_)
      | (refine wpList_ldw (by rfl) 79 _ rfl ⟨w2.heap.size, 0, none⟩ rfl _ (load_all (P := Tryz.prog) 79 _ E.out.rb Tryz.underlying79 rfl (by kernel_rfl)) ?_)
      | (refine wpList_ldw (by rfl) 79 _ rfl ⟨w3.heap.size, 0, none⟩ rfl _ (load_all (P := Tryz.prog) 79 _ E.out.rc Tryz.underlying79 rfl (by kernel_rfl)) ?_))
    refine (h1 _).mono ?_
    rintro e w6 ⟨rfl, b6⟩
    replace E : Hid _ := E.out.keep b6
    clear b6
    go_wp2_with (first
      | (refine wpList_ldw (by rfl) 79 _ rfl ⟨w1.heap.size, 0, none⟩ rfl _ (load_all (P := Tryz.prog) 79 _ E.out.ra Tryz.underlying79 rfl (by kernel_rfl)) ?_)
      | (refine wpList_ldw (by rfl) 79 _ rfl ⟨w2.heap.size, 0, none⟩ rfl _ (load_all (P := Tryz.prog) 79 _ E.out.rb Tryz.underlying79 rfl (by kernel_rfl)) ?_)
      | (refine wpList_ldw (by rfl) 79 _ rfl ⟨w3.heap.size, 0, none⟩ rfl _ (load_all (P := Tryz.prog) 79 _ E.out.rc Tryz.underlying79 rfl (by kernel_rfl)) ?_))
    refine (h2 _).mono ?_
    rintro e w7 ⟨rfl, b7⟩
    replace E : Hid _ := E.out.keep b7
    clear b7
    go_wp2_with (first
      | (refine wpList_ldw (by rfl) 79 _ rfl ⟨w1.heap.size, 0, none⟩ rfl _ (load_all (P := Tryz.prog) 79 _ E.out.ra Tryz.underlying79 rfl (by kernel_rfl)) ?_)
      | (refine wpList_ldw (by rfl) 79 _ rfl ⟨w2.heap.size, 0, none⟩ rfl _ (load_all (P := Tryz.prog) 79 _ E.out.rb Tryz.underlying79 rfl (by kernel_rfl)) ?_)
      | (refine wpList_ldw (by rfl) 79 _ rfl ⟨w3.heap.size, 0, none⟩ rfl _ (load_all (P := Tryz.prog) 79 _ E.out.rc Tryz.underlying79 rfl (by kernel_rfl)) ?_))
    refine (h3 _).mono ?_
    rintro e w8 ⟨rfl, b8⟩
    replace E : Hid _ := E.out.keep b8
    clear b8
    go_wp2_with (first
      | (refine wpList_ldw (by rfl) 79 _ rfl ⟨w1.heap.size, 0, none⟩ rfl _ (load_all (P := Tryz.prog) 79 _ E.out.ra Tryz.underlying79 rfl (by kernel_rfl)) ?_)
      | (refine wpList_ldw (by rfl) 79 _ rfl ⟨w2.heap.size, 0, none⟩ rfl _ (load_all (P := Tryz.prog) 79 _ E.out.rb Tryz.underlying79 rfl (by kernel_rfl)) ?_)
      | (refine wpList_ldw (by rfl) 79 _ rfl ⟨w3.heap.size, 0, none⟩ rfl _ (load_all (P := Tryz.prog) 79 _ E.out.rc Tryz.underlying79 rfl (by kernel_rfl)) ?_))
    refine (H4.out _).mono ?_
    rintro e w9 ⟨rfl, b9⟩
    replace E : Hid _ := E.out.keep b9
    clear b9
    by_cases p1 : 0 ≤ o1
    · have e1 : decide (0 ≤ o1) = true := by simp [p1]
      go_wp2_with fail
      go_ret
      exact ⟨rfl, E.out.bel⟩
    · have e1 : decide (0 ≤ o1) = false := by simp [p1]
      by_cases p2 : 0 ≤ o2
      · have e2 : decide (0 ≤ o2) = true := by simp [p2]
        go_wp2_with fail
        go_ret
        exact ⟨rfl, E.out.bel⟩
      · have e2 : decide (0 ≤ o2) = false := by simp [p2]
        have p3 : o3 < 0 := HT.out (by omega) (by omega)
        have e3 : decide (o3 < 0) = true := by simp [p3]
        go_wp2_with (first
          | (refine wpList_ldw (by rfl) 79 _ rfl ⟨w1.heap.size, 0, none⟩ rfl _ (load_all (P := Tryz.prog) 79 _ E.out.ra Tryz.underlying79 rfl (by kernel_rfl)) ?_)
          | (refine wpList_ldw (by rfl) 79 _ rfl ⟨w2.heap.size, 0, none⟩ rfl _ (load_all (P := Tryz.prog) 79 _ E.out.rb Tryz.underlying79 rfl (by kernel_rfl)) ?_)
          | (refine wpList_ldw (by rfl) 79 _ rfl ⟨w3.heap.size, 0, none⟩ rfl _ (load_all (P := Tryz.prog) 79 _ E.out.rc Tryz.underlying79 rfl (by kernel_rfl)) ?_))
        refine (H5.out _).mono ?_
        rintro e w10 ⟨rfl, b10⟩
        replace E : Hid _ := E.out.keep b10
        clear b10
        go_wp2_with fail
        go_ret
        exact ⟨rfl, E.out.bel⟩
  case true.true.true =>
    simp at hm hn hk
    have q1 : (!(o1 == 0) == (s.toList == t.toList)) = false := by
      have h := HE.out (by rw [hm, hn])
      rw [ba_eq]
      by_cases h0 : o1 = 0 <;> simp [h0, ← h]
    subst hm hn hk
    go_enter Tryz.func7, Tryz.ntmps7
    go_wp2_with fail
    refine (show Calls Tryz.prog 9 #[] w _ from HK.out).mono ?_
    rintro e w1 ⟨rfl, b1⟩
    have HB1 : Hid (Below w.heap.size w w1) := b1
    have z1 := rowIs_vals w1 (ef 0 ⟨#[]⟩ z20) 22 79
    clear b1
    go_wp2_with (first
      | (refine wpList_st rfl 79 _ _ rfl w1.heap.size rfl (ef 33188 s z20) rfl z1 (by kernel_rfl) (ef_one _ _ _) ?_; intro w2 r2 f2; have R2 : Hid _ := r2; have b2 : Hid (Below w1.heap.size w1 w2) := new_fr f2; have z2 := rowIs_vals w2 (ef 0 ⟨#[]⟩ z20) 22 79; clear f2 z1 r2)
      | (refine wpList_st rfl 79 _ _ rfl w2.heap.size rfl (ef 33188 t z20) rfl z2 (by kernel_rfl) (ef_one _ _ _) ?_; intro w3 r3 f3; have R3 : Hid _ := r3; have b3 : Hid (Below w2.heap.size w2 w3) := new_fr f3; have z3 := rowIs_vals w3 (ef 0 ⟨#[]⟩ z20) 22 79; clear f3 z2 r3)
      | (refine wpList_st rfl 79 _ _ rfl w3.heap.size rfl (ef 33188 u z20) rfl z3 (by kernel_rfl) (ef_one _ _ _) ?_; intro w4 r4 f4; have E : Hid _ := es_new HB1.out R2.out b2.out R3.out b3.out r4 (new_fr f4); clear f4 z3 r4 R2 R3 b2 b3)
      | (refine wpList_set rfl _ _ rfl w1.heap.size rfl 16384 rfl E.out.ra ?_; intro w5 r5 f5; replace E : Hid _ := E.out.setA r5 f5; clear r5 f5)
      | (refine wpList_set rfl _ _ rfl w2.heap.size rfl 16384 rfl E.out.rb ?_; intro w5 r5 f5; replace E : Hid _ := E.out.setB r5 f5; clear r5 f5)
      | (refine wpList_set rfl _ _ rfl w3.heap.size rfl 16384 rfl E.out.rc ?_; intro w5 r5 f5; replace E : Hid _ := E.out.setC r5 f5; clear r5 f5)
      | (refine wpList_ldw (by rfl) 79 _ rfl ⟨w1.heap.size, 0, none⟩ rfl _ (load_all (P := Tryz.prog) 79 _ E.out.ra Tryz.underlying79 rfl (by kernel_rfl)) ?_)
      | (refine wpList_ldw (by rfl) 79 _ rfl ⟨w2.heap.size, 0, none⟩ rfl _ (load_all (P := Tryz.prog) 79 _ E.out.rb Tryz.underlying79 rfl (by kernel_rfl)) ?_)
      | (refine wpList_ldw (by rfl) 79 _ rfl ⟨w3.heap.size, 0, none⟩ rfl _ (load_all (P := Tryz.prog) 79 _ E.out.rc Tryz.underlying79 rfl (by kernel_rfl)) ?_))
    refine (h1 _).mono ?_
    rintro e w6 ⟨rfl, b6⟩
    replace E : Hid _ := E.out.keep b6
    clear b6
    go_wp2_with (first
      | (refine wpList_ldw (by rfl) 79 _ rfl ⟨w1.heap.size, 0, none⟩ rfl _ (load_all (P := Tryz.prog) 79 _ E.out.ra Tryz.underlying79 rfl (by kernel_rfl)) ?_)
      | (refine wpList_ldw (by rfl) 79 _ rfl ⟨w2.heap.size, 0, none⟩ rfl _ (load_all (P := Tryz.prog) 79 _ E.out.rb Tryz.underlying79 rfl (by kernel_rfl)) ?_)
      | (refine wpList_ldw (by rfl) 79 _ rfl ⟨w3.heap.size, 0, none⟩ rfl _ (load_all (P := Tryz.prog) 79 _ E.out.rc Tryz.underlying79 rfl (by kernel_rfl)) ?_))
    refine (h2 _).mono ?_
    rintro e w7 ⟨rfl, b7⟩
    replace E : Hid _ := E.out.keep b7
    clear b7
    go_wp2_with (first
      | (refine wpList_ldw (by rfl) 79 _ rfl ⟨w1.heap.size, 0, none⟩ rfl _ (load_all (P := Tryz.prog) 79 _ E.out.ra Tryz.underlying79 rfl (by kernel_rfl)) ?_)
      | (refine wpList_ldw (by rfl) 79 _ rfl ⟨w2.heap.size, 0, none⟩ rfl _ (load_all (P := Tryz.prog) 79 _ E.out.rb Tryz.underlying79 rfl (by kernel_rfl)) ?_)
      | (refine wpList_ldw (by rfl) 79 _ rfl ⟨w3.heap.size, 0, none⟩ rfl _ (load_all (P := Tryz.prog) 79 _ E.out.rc Tryz.underlying79 rfl (by kernel_rfl)) ?_))
    refine (h3 _).mono ?_
    rintro e w8 ⟨rfl, b8⟩
    replace E : Hid _ := E.out.keep b8
    clear b8
    go_wp2_with (first
      | (refine wpList_ldw (by rfl) 79 _ rfl ⟨w1.heap.size, 0, none⟩ rfl _ (load_all (P := Tryz.prog) 79 _ E.out.ra Tryz.underlying79 rfl (by kernel_rfl)) ?_)
      | (refine wpList_ldw (by rfl) 79 _ rfl ⟨w2.heap.size, 0, none⟩ rfl _ (load_all (P := Tryz.prog) 79 _ E.out.rb Tryz.underlying79 rfl (by kernel_rfl)) ?_)
      | (refine wpList_ldw (by rfl) 79 _ rfl ⟨w3.heap.size, 0, none⟩ rfl _ (load_all (P := Tryz.prog) 79 _ E.out.rc Tryz.underlying79 rfl (by kernel_rfl)) ?_))
    refine (H4.out _).mono ?_
    rintro e w9 ⟨rfl, b9⟩
    replace E : Hid _ := E.out.keep b9
    clear b9
    by_cases p1 : 0 ≤ o1
    · have e1 : decide (0 ≤ o1) = true := by simp [p1]
      go_wp2_with fail
      go_ret
      exact ⟨rfl, E.out.bel⟩
    · have e1 : decide (0 ≤ o1) = false := by simp [p1]
      by_cases p2 : 0 ≤ o2
      · have e2 : decide (0 ≤ o2) = true := by simp [p2]
        go_wp2_with fail
        go_ret
        exact ⟨rfl, E.out.bel⟩
      · have e2 : decide (0 ≤ o2) = false := by simp [p2]
        have p3 : o3 < 0 := HT.out (by omega) (by omega)
        have e3 : decide (o3 < 0) = true := by simp [p3]
        go_wp2_with (first
          | (refine wpList_ldw (by rfl) 79 _ rfl ⟨w1.heap.size, 0, none⟩ rfl _ (load_all (P := Tryz.prog) 79 _ E.out.ra Tryz.underlying79 rfl (by kernel_rfl)) ?_)
          | (refine wpList_ldw (by rfl) 79 _ rfl ⟨w2.heap.size, 0, none⟩ rfl _ (load_all (P := Tryz.prog) 79 _ E.out.rb Tryz.underlying79 rfl (by kernel_rfl)) ?_)
          | (refine wpList_ldw (by rfl) 79 _ rfl ⟨w3.heap.size, 0, none⟩ rfl _ (load_all (P := Tryz.prog) 79 _ E.out.rc Tryz.underlying79 rfl (by kernel_rfl)) ?_))
        refine (H5.out _).mono ?_
        rintro e w10 ⟨rfl, b10⟩
        replace E : Hid _ := E.out.keep b10
        clear b10
        go_wp2_with fail
        go_ret
        exact ⟨rfl, E.out.bel⟩

end Go.Proofs.YtojgablpjdlegaaGreatDoor
