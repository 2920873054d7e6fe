/- The document's own reader: Left, Bytes. -/
import Derived.Test.YtmkjpfjlohkdoaaWNums
import Derived.Test.YtmkjpfjlohkdoaaArgs
import Derived.Deep.RegionLaw
import Derived.Deep.RegionHeld3
namespace Go.Proofs.Ytmkjpfjlohkdoaa
open Go.RowKit

/-- 'append(out, ys...)' as one step of a region that draws its order, out the call's own, ys nil or not. -/
theorem step_append_rd {w : World} {ops : Array Oper} {o : Oper} {a : Act} {K : Act → World → Prop} {Q : Exit → Act → World → Prop} {E : Prop} (hgd : o.guard = none) (s x : Operand)
    (ho : o.op = .call { callee := .builtin .append, args := #[s, x], argTypes := #[22, 22] })
    (base g n cap : Nat) (xs : List Int) (hs : a.eval s = .slice (some ⟨g, 0, none⟩) n cap) (hown : w.ownsRow base 5 1 (.slice (some ⟨g, 0, none⟩) n cap) n (xs.map (Value.int .u8)))
    (ao : Option Addr) (m c : Nat) (ys : List Int) (hx : a.eval x = .slice ao m c) (hr : Rd w ao m c ys) (hlim : n + m ≤ 140737488355328) (hbase : base ≤ w.heap.size)
    (h : ∀ g' cap' w', w'.ownsRow base 5 1 (.slice (some ⟨g', 0, none⟩) (n + m) cap') (n + m) ((xs ++ ys).map (Value.int .u8)) → w.grownBy w' (some g) → K (a.put o.dst (.slice (some ⟨g', 0, none⟩) (n + m) cap')) w') :
    if Region.wanted o (yielded ops a.tmps) = true then Oper.wp Try.prog o a w K Q else E := by
  obtain ⟨i0, hi, hz0, hz1, hz2⟩ := info_parts Try.info5
  have hw : Region.wanted o (yielded ops a.tmps) = true := by simp [Region.wanted, hgd]
  rw [if_pos hw]
  cases ao with
  | none =>
    obtain ⟨rfl, rfl⟩ := hr.nul rfl
    have hy : ys = [] := List.eq_nil_of_length_eq_zero hr.len
    subst hy
    have hrun := run_append_owned_none (P := Try.prog) (w := w) base 22 o.type 5 i0 1 Try.underlying22 hi _ n _ hown
    unfold Oper.wp
    simp [execOp, ho, resolve, invoke, builtin, hs, hx, hrun, Result.andThen]
    exact h g cap w (by simpa using hown) (World.grownBy.refl _ _)
  | some ad =>
    refine wp_append_own w s x 22 ho base 5 i0 (.int .u8 0) 1 1 Try.underlying22 hi hz0 hz1 hz2 rfl (by decide) _ n _ hs hown ad m c (ys.map (Value.int .u8)) hx (by simpa using hr.len) (hr.cellsOf ad rfl) (ints_oneCell _ _)
      (by unfold maxLen; omega) (by omega) hbase ?_
    intro v' w' h1 h2 h3
    obtain ⟨g', cap', rfl⟩ : ∃ g' cap', v' = .slice (some ⟨g', 0, none⟩) (n + m) cap' := by
      rcases h1.2 with ⟨h', _⟩ | ⟨g', cap', cur, h', _⟩
      · rw [h3] at h'; cases h'.1
      · exact ⟨g', cap', h'⟩
    exact h g' cap' w' (by simpa using h1) h2

set_option maxHeartbeats 400000 in
theorem rleft_ok (R : Nat) (ao : Option Addr) (n c : Nat) (xs : List Int) (p : Nat) (w : World) (h : IsR w R ao n c xs p 0) :
    Calls Try.prog 17 #[.pointer (some ⟨R, 0, none⟩)] w fun e w' => e = .returned (.int .i64 ((n : Int) - p)) ∧ w' = w.drew := by
  have h1 := h.row
  have h2 := h.pos
  have h3 := h.err
  have h4 := h.le
  have h5 := h.lim
  clear h
  go_enter Try.func17, Try.ntmps17
  go_wp2
  go_region
  go_wp2
  go_ret
  exact ⟨rfl, rfl⟩

theorem rleft_bad (R : Nat) (ao : Option Addr) (n c : Nat) (xs : List Int) (p : Nat) (er : Int) (w : World) (h : IsR w R ao n c xs p er) (he : er ≠ 0) :
    Calls Try.prog 17 #[.pointer (some ⟨R, 0, none⟩)] w fun e w' => e = .returned (.int .i64 0) ∧ w' = w := by
  have h3 := h.err
  have he' : (er != 0) = true := by simp [he]
  clear h
  go_enter Try.func17, Try.ntmps17
  go_wp2
  go_ret
  exact ⟨rfl, rfl⟩

theorem rbytes_bad (R : Nat) (ao : Option Addr) (n c : Nat) (xs : List Int) (p : Nat) (er m : Int) (w : World) (h : IsR w R ao n c xs p er) (he : er ≠ 0) :
    Calls Try.prog 15 #[.pointer (some ⟨R, 0, none⟩), .int .i64 m] w fun e w' => e = .returned (.slice none 0 0) ∧ w' = w := by
  have h3 := h.err
  have he' : (er != 0) = true := by simp [he]
  clear h
  go_enter Try.func15, Try.ntmps15
  go_wp2
  go_ret
  exact ⟨rfl, rfl⟩

set_option maxHeartbeats 400000 in
theorem rbytes_neg (R : Nat) (ao : Option Addr) (n c : Nat) (xs : List Int) (p : Nat) (m : Int) (w : World) (h : IsR w R ao n c xs p 0) (hm : m < 0) :
    Calls Try.prog 15 #[.pointer (some ⟨R, 0, none⟩), .int .i64 m] w fun e w' => e = .returned (.slice none 0 0) ∧ w' = w.drew.setCell ⟨R, 2, none⟩ (.int .i64 3) := by
  have h3 := h.err
  have h2 := h.f2
  have hd : decide (m < 0) = true := by simp [hm]
  clear h
  go_enter Try.func15, Try.ntmps15
  go_wp2
  go_region
  go_wp2
  go_ret
  exact ⟨rfl, rfl⟩

set_option maxHeartbeats 400000 in
theorem rbytes_short (R : Nat) (ao : Option Addr) (n c : Nat) (xs : List Int) (p : Nat) (m : Int) (w : World) (h : IsR w R ao n c xs p 0) (hm : 0 ≤ m) (hs : (n : Int) - p < m) :
    Calls Try.prog 15 #[.pointer (some ⟨R, 0, none⟩), .int .i64 m] w fun e w' => e = .returned (.slice none 0 0) ∧ w' = w.drew.setCell ⟨R, 2, none⟩ (.int .i64 3) := by
  have h1 := h.row
  have h2 := h.pos
  have h3 := h.err
  have h4 := h.f2
  have h5 := h.le
  have h6 := h.lim
  have hd : decide (m < 0) = false := by simp; omega
  have hd2 : decide ((n : Int) - p < m) = true := by simp [hs]
  clear h
  go_enter Try.func15, Try.ntmps15
  go_wp2
  go_region
  go_wp2
  go_ret
  exact ⟨rfl, rfl⟩

theorem drew2_grown {w3 w5 : World} {O : Obj} (g : ((w3.alloc O).drew.drew).grownBy w5 (some w3.heap.size)) : Below w3.heap.size w3 w5 :=
  (((Below.refl _ _).alloc (Nat.le_refl _) _).drew.drew).grown g (by simp) (fun k hk => by cases hk; exact Nat.le_refl _)

set_option maxHeartbeats 1000000 in
theorem rbytes_yes (R : Nat) (ao : Option Addr) (n c : Nat) (xs : List Int) (p m : Nat) (w : World) (h : IsR w R ao n c xs p 0) (hs : p + m ≤ n) :
    Calls Try.prog 15 #[.pointer (some ⟨R, 0, none⟩), .int .i64 m] w fun e w' => ∃ ao' c', e = .returned (.slice ao' m c') ∧ Rd w' ao' m c' ((xs.drop p).take m) ∧ IsR w' R ao n c xs (p + m) 0 ∧ w.grownBy w' (some R) := by
  have h1 := h.row
  have h2 := h.pos
  have h3 := h.err
  have h4 := h.f1
  have h5 := h.lim
  have h6 := h.rd.le
  have hd : decide ((m : Int) < 0) = false := by simp
  have hd2 : decide ((n : Int) - p < m) = false := by simp; omega
  have hbA : Below w.heap.size w (w.alloc (Obj.cells #[] 5)) := (Below.refl _ _).alloc (Nat.le_refl _) _
  have hA := h.keep hbA
  have a1 := hA.row
  have a2 := hA.pos
  by_cases hc : c = p
  · obtain rfl : m = 0 := by omega
    obtain rfl : n = c := by omega
    subst hc
    have hsub := h.rd.sub n 0 hs
    rw [if_pos rfl, Nat.sub_self] at hsub
    have hwr : IntKind.i64.wrap (n : Int) = (n : Int) := by rw [IntKind.wrap_i64]; omega
    have own0 := (none_own w).drew.drew
    have sub0 : Rd (w.alloc (Obj.cells #[] 5)).drew.drew ao 0 0 ((xs.drop n).take 0) := hsub.keep hbA.drew.drew
    have hlt := h.lt
    have hn0 := World.new_ne w ⟨R, 0, none⟩ h1
    have hn1 := World.new_ne w ⟨R, 1, none⟩ h2
    clear hA hsub
    go_enter Try.func15, Try.ntmps15
    go_wp2
    go_region
    go_wp2
    go_region_held3 (fun w' => w'.cell? ⟨R, 0, none⟩ = some (.slice ao n n) ∧ w'.cell? ⟨R, 1, none⟩ = some (.int .i64 n)) (go_keep)
      ((refine step_append_rd (by rfl) (.tmp 30) (.tmp 45) (by rfl) w.heap.size w.heap.size 0 0 [] (by rfl) own0 _ 0 0 ((xs.drop n).take 0) (by rfl) sub0 (by omega) (by simp) ?_; intro g5 c5 w5 o5 gr5; have k1 := ((drew2_grown gr5).cell (p := ⟨R, 0, none⟩) hlt).trans h1; have k2 := ((drew2_grown gr5).cell (p := ⟨R, 1, none⟩) hlt).trans h2))
    have B5 := drew2_grown gr5
    have k3 := (B5.frozen (p := ⟨R, 1, none⟩) hlt).trans h4
    have R5 := h.keep B5
    have hg5 : w.heap.size ≤ g5 := (o5.lt g5 rfl).1
    have D5 := Rd.ofOwn o5 (fun x hx => absurd hx (by simp))
    have S5 := R5.setPos n (Nat.le_refl _)
    clear o5 gr5 sub0 own0 hwr
    go_wp2
    go_ret
    refine ⟨_, _, rfl, ?_, S5.1, grownBy_trans ⟨B5.os, B5.tape, B5.output, B5.size, fun k hk _ => B5.block k hk⟩ S5.2⟩
    exact D5.other S5.2 (fun ad had h0 => absurd h0 (by omega))
  · have hsub := h.rd.sub p m hs
    rw [if_neg hc] at hsub
    obtain ⟨q, hq⟩ : ∃ q, q = p + m := ⟨_, rfl⟩
    have hwr : IntKind.i64.wrap ((p : Int) + m) = (q : Int) := by rw [IntKind.wrap_i64]; omega
    have hqm : q - p = m := by omega
    have hqc : q ≤ c := by omega
    have hpq : p ≤ q := by omega
    have own0 := (none_own w).drew.drew
    have sub0 : Rd (w.alloc (Obj.cells #[] 5)).drew.drew (Option.map (fun x => x.add p) ao) m (c - p) ((xs.drop p).take m) := hsub.keep hbA.drew.drew
    have hlt := h.lt
    have hn0 := World.new_ne w ⟨R, 0, none⟩ h1
    have hn1 := World.new_ne w ⟨R, 1, none⟩ h2
    clear hA hq hsub
    go_enter Try.func15, Try.ntmps15
    go_wp2
    go_region
    go_wp2
    go_region_held3 (fun w' => w'.cell? ⟨R, 0, none⟩ = some (.slice ao n c) ∧ w'.cell? ⟨R, 1, none⟩ = some (.int .i64 p)) (go_keep)
      ((refine step_append_rd (by rfl) (.tmp 30) (.tmp 45) (by rfl) w.heap.size w.heap.size 0 0 [] (by rfl) own0 _ m (c - p) ((xs.drop p).take m) (by rfl) sub0 (by omega) (by simp) ?_; intro g5 c5 w5 o5 gr5; have k1 := ((drew2_grown gr5).cell (p := ⟨R, 0, none⟩) hlt).trans h1; have k2 := ((drew2_grown gr5).cell (p := ⟨R, 1, none⟩) hlt).trans h2))
    have B5 := drew2_grown gr5
    have k3 := (B5.frozen (p := ⟨R, 1, none⟩) hlt).trans h4
    have R5 := h.keep B5
    have hg5 : w.heap.size ≤ g5 := (o5.lt g5 rfl).1
    simp only [Nat.zero_add, List.nil_append] at o5
    have D5 := Rd.ofOwn o5 (fun x hx => h.rd.byt x (List.mem_of_mem_drop (List.mem_of_mem_take hx)))
    have S5 := R5.setPos (p + m) hs
    clear o5 gr5 sub0 own0 hwr hqm hqc hpq
    go_wp2
    go_ret
    refine ⟨_, _, rfl, ?_, S5.1, grownBy_trans ⟨B5.os, B5.tape, B5.output, B5.size, fun k hk _ => B5.block k hk⟩ S5.2⟩
    exact D5.other S5.2 (fun ad had _ => by cases had; simp; omega)

theorem rbytes_any (R : Nat) (ao : Option Addr) (n c : Nat) (xs : List Int) (p : Nat) (er m : Int) (w : World) (h : IsR w R ao n c xs p er) :
    Calls Try.prog 15 #[.pointer (some ⟨R, 0, none⟩), .int .i64 m] w fun e w' => ∃ ao' k c', e = .returned (.slice ao' k c') ∧ Rd w' ao' k c' (tk xs p er m).1 ∧
      IsR w' R ao n c xs (tk xs p er m).2.1 (tk xs p er m).2.2 ∧ w.grownBy w' (some R) := by
  have hl := h.rd.len
  by_cases he : er = 0
  · subst he
    have g : w.grownBy w.drew (some R) := ⟨rfl, rfl, rfl, Nat.le_refl _, fun _ _ _ => rfl⟩
    by_cases hm : m < 0
    · refine (rbytes_neg R ao n c xs p m w h hm).mono fun e w' ⟨h1, h2⟩ => ?_
      subst h2
      have e1 : tk xs p 0 m = ([], p, 3) := by simp [tk, hm]
      rw [e1]
      exact ⟨none, 0, 0, h1, Rd.nil _, (h.drew.setErr 3).1, grownBy_trans g (h.drew.setErr 3).2⟩
    · by_cases hs : (n : Int) - p < m
      · refine (rbytes_short R ao n c xs p m w h (by omega) hs).mono fun e w' ⟨h1, h2⟩ => ?_
        subst h2
        have e1 : tk xs p 0 m = ([], p, 3) := by simp [tk, hl, hs]
        rw [e1]
        exact ⟨none, 0, 0, h1, Rd.nil _, (h.drew.setErr 3).1, grownBy_trans g (h.drew.setErr 3).2⟩
      · obtain ⟨k, rfl⟩ := Int.eq_ofNat_of_zero_le (show 0 ≤ m by omega)
        refine (rbytes_yes R ao n c xs p k w h (by omega)).mono fun e w' ⟨ao', c', h1, h2, h3, h4⟩ => ?_
        have e1 : tk xs p 0 k = ((xs.drop p).take k, p + k, 0) := by simp [tk, hl, hs]
        rw [e1]
        exact ⟨_, _, _, h1, h2, h3, h4⟩
  · refine (rbytes_bad R ao n c xs p er m w h he).mono fun e w' ⟨h1, h2⟩ => ?_
    subst h2
    have e1 : tk xs p er m = ([], p, er) := by simp [tk, he]
    rw [e1]
    exact ⟨none, 0, 0, h1, Rd.nil _, h, World.grownBy.refl _ _⟩

end Go.Proofs.Ytmkjpfjlohkdoaa
