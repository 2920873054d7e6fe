/- room: may so many bytes be put behind a file? -/
import Derived.Test.YtmpfbemdljfamaaWUsed
namespace Go.Proofs.Ytmpfbemdljfamaa
open Go.RowKit Go.Maps

theorem room_off (d : Nat) (S : St) (s : ByteArray) (n : Int) (w : World) (hr : w.rowIs d 48 8 (dc S)) (ho : S.off = true) :
    Calls Try.prog 23 #[.pointer (some ⟨d, 0, none⟩), .string s, .int .i64 n] w fun e w' => e = .returned (.int .i64 8) ∧ w' = w := by
  have c4 := hr.cell (i := 4) (by omega)
  simp only [dc, ho] at c4
  go_enter Try.func23, Try.ntmps23
  go_wp2_with (go_at_call 52; refine (size_off d S s _ hr ho).mono ?_; rintro e w1 ⟨rfl, rfl⟩)
  go_ret
  exact ⟨rfl, rfl⟩

set_option maxRecDepth 100000 in
set_option maxHeartbeats 1000000 in
theorem room_new (d : Nat) (O : Nat → Prop) (S : St) (s a b : ByteArray) (n : Nat) (w : World) (h : Dk w O d S) (hN : Nm s a b) (ho : S.off = false) (hl : look S.now s = none) (hfit : Fits S.F S.now) (hlen : (n : Int) ≤ 262144) (hq : used S + n ≤ S.q) (hc : Maps.size S.now < 1024) (hlim : used S ≤ 1000000000) :
    Calls Try.prog 23 #[.pointer (some ⟨d, 0, none⟩), .string s, .int .i64 n] w fun e w' => e = .returned (.int .i64 0) ∧ Below w.heap.size w w' := by
  have un : 0 ≤ used S := usum_nn _ _ _
  have Hh : Hid (Dk w O d S) := h
  have hsz := size_none d S s _ h.row h.now hN.le ho hl
  have c4 := h.row.cell (i := 4) (by omega)
  simp only [dc, ho] at c4
  have hnm := fun w => name_yes s a b w hN
  have hus := fun w' (hk : Dk w' O d S) => used_any d O S w' hk ho hfit (by omega)
  have q1 : decide ((262144 : Int) < (n : Int)) = false := by simp; omega
  have q1' : ¬ (262144 : Int) < (n : Int) := by omega
  have q1'' : ¬ 262144 < n := by omega
  obtain ⟨U, hU⟩ : ∃ U, U = used S := ⟨_, rfl⟩
  rw [← hU] at hlim un hq hus
  have q2 : IntKind.i64.wrap (U + (n : Int)) = U + n := by rw [IntKind.wrap_i64]; omega
  have q2' : wrap64 (U + (n : Int)) = U + n := IntWalk.wrap64_in _ (by omega)
  have q3 : decide (S.q < U + (n : Int)) = false := by simp; omega
  clear hU hq
  have q4 : decide ((1024 : Int) ≤ (Maps.size S.now : Int)) = false := by simp; omega
  have q4' : ¬ 1024 ≤ Maps.size S.now := by omega
  have q4'' : ¬ (1024 : Int) ≤ (Maps.size S.now : Int) := by omega
  have c1 := h.row.cell (i := 1) (by omega)
  simp only [dc] at c1
  clear h
  go_enter Try.func23, Try.ntmps23
  go_wp2_with (first
    | (go_at_call 52; refine hsz.mono ?_; rintro e w1 ⟨rfl, rfl⟩)
    | (go_at_call 22; refine (hnm _).mono ?_; rintro e w2 ⟨rfl, hb2⟩; have h2 := Hh.out.keep hb2; have c0 := h2.row.cell (i := 0) (by omega); simp only [dc] at c0))
  go_region_with (go_at_call 18; refine (hus _ (h2.keep (drew_keep _))).mono ?_; rintro e w3 ⟨rfl, hb3⟩; have h3 := (h2.keep (drew_keep _)).keep hb3; have c3 := h3.row.cell (i := 0) (by omega); simp only [dc] at c3)
  all_goals (
    have hbb : Below w1.heap.size w1 w3 := (hb2.trans ((drew_keep w2).mono hb2.size)).trans (hb3.mono hb2.size)
    have c5 := h3.row.cell (i := 1) (by omega)
    simp only [dc] at c5
    have hln := fun ty => World.ownsMap.len (P := Try.prog) h3.now (t := 45) (e := 51) Try.underlying45 ty
    go_wp2
    go_ret
    exact ⟨rfl, hbb⟩)

set_option maxRecDepth 100000 in
set_option maxHeartbeats 1000000 in
theorem room_old (d : Nat) (O : Nat → Prop) (S : St) (s a b : ByteArray) (n : Nat) (f : Nat) (x : Fl) (w : World) (h : Dk w O d S) (hN : Nm s a b) (ho : S.off = false) (hl : look S.now s = some f) (hx : S.F f = some x) (hfit : Fits S.F S.now) (hlen : (x.xs.length : Int) + n ≤ 262144) (hq : used S + n ≤ S.q) (hlim : used S ≤ 1000000000) :
    Calls Try.prog 23 #[.pointer (some ⟨d, 0, none⟩), .string s, .int .i64 n] w fun e w' => e = .returned (.int .i64 0) ∧ Below w.heap.size w w' := by
  have un : 0 ≤ used S := usum_nn _ _ _
  have Hh : Hid (Dk w O d S) := h
  have hsz := size_yes d S s f x _ h.row h.now hN.le ho hl (h.fs.is f x hx).row (h.fs.is f x hx).dat
  have c4 := h.row.cell (i := 4) (by omega)
  simp only [dc, ho] at c4
  have hnm := fun w => name_yes s a b w hN
  have hus := fun w' (hk : Dk w' O d S) => used_any d O S w' hk ho hfit (by omega)
  obtain ⟨m, hm⟩ : ∃ m, m = x.xs.length := ⟨_, rfl⟩
  rw [← hm] at hsz hlen
  have q0 : IntKind.i64.wrap ((m : Int) + n) = m + n := by rw [IntKind.wrap_i64]; omega
  have q0' : wrap64 ((m : Int) + n) = m + n := IntWalk.wrap64_in _ (by omega)
  have q1 : decide ((262144 : Int) < (m : Int) + n) = false := by simp; omega
  have q1' : ¬ (262144 : Int) < (m : Int) + n := by omega
  have q1'' : ¬ 262144 < m + n := by omega
  obtain ⟨U, hU⟩ : ∃ U, U = used S := ⟨_, rfl⟩
  rw [← hU] at hlim un hq hus
  have q2 : IntKind.i64.wrap (U + (n : Int)) = U + n := by rw [IntKind.wrap_i64]; omega
  have q2' : wrap64 (U + (n : Int)) = U + n := IntWalk.wrap64_in _ (by omega)
  have q3 : decide (S.q < U + (n : Int)) = false := by simp; omega
  clear hU hq hm
  clear h
  go_enter Try.func23, Try.ntmps23
  go_wp2_with (first
    | (go_at_call 52; refine hsz.mono ?_; rintro e w1 ⟨rfl, rfl⟩)
    | (go_at_call 22; refine (hnm _).mono ?_; rintro e w2 ⟨rfl, hb2⟩; have h2 := Hh.out.keep hb2; have c0 := h2.row.cell (i := 0) (by omega); simp only [dc] at c0))
  go_region_with (go_at_call 18; refine (hus _ (h2.keep (drew_keep _))).mono ?_; rintro e w3 ⟨rfl, hb3⟩; have h3 := (h2.keep (drew_keep _)).keep hb3; have c3 := h3.row.cell (i := 0) (by omega); simp only [dc] at c3)
  all_goals (
    have hbb : Below w1.heap.size w1 w3 := (hb2.trans ((drew_keep w2).mono hb2.size)).trans (hb3.mono hb2.size)
    go_wp2
    go_ret
    exact ⟨rfl, hbb⟩)

set_option maxRecDepth 100000 in
set_option maxHeartbeats 1000000 in
theorem room_fullnew (d : Nat) (O : Nat → Prop) (S : St) (s a b : ByteArray) (n : Nat) (w : World) (h : Dk w O d S) (hN : Nm s a b) (ho : S.off = false) (hl : look S.now s = none) (hfit : Fits S.F S.now) (hlen : (n : Int) ≤ 262144) (hq : S.q < used S + n) (hlim : used S ≤ 1000000000) :
    Calls Try.prog 23 #[.pointer (some ⟨d, 0, none⟩), .string s, .int .i64 n] w fun e w' => e = .returned (.int .i64 7) ∧ Below w.heap.size w w' := by
  have un : 0 ≤ used S := usum_nn _ _ _
  have Hh : Hid (Dk w O d S) := h
  have hsz := size_none d S s _ h.row h.now hN.le ho hl
  have c4 := h.row.cell (i := 4) (by omega)
  simp only [dc, ho] at c4
  have hnm := fun w => name_yes s a b w hN
  have hus := fun w' (hk : Dk w' O d S) => used_any d O S w' hk ho hfit (by omega)
  have q1 : decide ((262144 : Int) < (n : Int)) = false := by simp; omega
  have q1' : ¬ (262144 : Int) < (n : Int) := by omega
  have q1'' : ¬ 262144 < n := by omega
  obtain ⟨U, hU⟩ : ∃ U, U = used S := ⟨_, rfl⟩
  rw [← hU] at hlim un hq hus
  have q2 : IntKind.i64.wrap (U + (n : Int)) = U + n := by rw [IntKind.wrap_i64]; omega
  have q2' : wrap64 (U + (n : Int)) = U + n := IntWalk.wrap64_in _ (by omega)
  have q3 : decide (S.q < U + (n : Int)) = true := by simp; omega
  clear hU hq
  clear h
  go_enter Try.func23, Try.ntmps23
  go_wp2_with (first
    | (go_at_call 52; refine hsz.mono ?_; rintro e w1 ⟨rfl, rfl⟩)
    | (go_at_call 22; refine (hnm _).mono ?_; rintro e w2 ⟨rfl, hb2⟩; have h2 := Hh.out.keep hb2; have c0 := h2.row.cell (i := 0) (by omega); simp only [dc] at c0))
  go_region_with (go_at_call 18; refine (hus _ (h2.keep (drew_keep _))).mono ?_; rintro e w3 ⟨rfl, hb3⟩; have h3 := (h2.keep (drew_keep _)).keep hb3; have c3 := h3.row.cell (i := 0) (by omega); simp only [dc] at c3)
  all_goals (
    have hbb : Below w1.heap.size w1 w3 := (hb2.trans ((drew_keep w2).mono hb2.size)).trans (hb3.mono hb2.size)
    go_wp2
    go_ret
    exact ⟨rfl, hbb⟩)

set_option maxRecDepth 100000 in
set_option maxHeartbeats 1000000 in
theorem room_fullold (d : Nat) (O : Nat → Prop) (S : St) (s a b : ByteArray) (n : Nat) (f : Nat) (x : Fl) (w : World) (h : Dk w O d S) (hN : Nm s a b) (ho : S.off = false) (hl : look S.now s = some f) (hx : S.F f = some x) (hfit : Fits S.F S.now) (hlen : (x.xs.length : Int) + n ≤ 262144) (hq : S.q < used S + n) (hlim : used S ≤ 1000000000) :
    Calls Try.prog 23 #[.pointer (some ⟨d, 0, none⟩), .string s, .int .i64 n] w fun e w' => e = .returned (.int .i64 7) ∧ Below w.heap.size w w' := by
  have un : 0 ≤ used S := usum_nn _ _ _
  have Hh : Hid (Dk w O d S) := h
  have hsz := size_yes d S s f x _ h.row h.now hN.le ho hl (h.fs.is f x hx).row (h.fs.is f x hx).dat
  have c4 := h.row.cell (i := 4) (by omega)
  simp only [dc, ho] at c4
  have hnm := fun w => name_yes s a b w hN
  have hus := fun w' (hk : Dk w' O d S) => used_any d O S w' hk ho hfit (by omega)
  obtain ⟨m, hm⟩ : ∃ m, m = x.xs.length := ⟨_, rfl⟩
  rw [← hm] at hsz hlen
  have q0 : IntKind.i64.wrap ((m : Int) + n) = m + n := by rw [IntKind.wrap_i64]; omega
  have q0' : wrap64 ((m : Int) + n) = m + n := IntWalk.wrap64_in _ (by omega)
  have q1 : decide ((262144 : Int) < (m : Int) + n) = false := by simp; omega
  have q1' : ¬ (262144 : Int) < (m : Int) + n := by omega
  have q1'' : ¬ 262144 < m + n := by omega
  obtain ⟨U, hU⟩ : ∃ U, U = used S := ⟨_, rfl⟩
  rw [← hU] at hlim un hq hus
  have q2 : IntKind.i64.wrap (U + (n : Int)) = U + n := by rw [IntKind.wrap_i64]; omega
  have q2' : wrap64 (U + (n : Int)) = U + n := IntWalk.wrap64_in _ (by omega)
  have q3 : decide (S.q < U + (n : Int)) = true := by simp; omega
  clear hU hq hm
  clear h
  go_enter Try.func23, Try.ntmps23
  go_wp2_with (first
    | (go_at_call 52; refine hsz.mono ?_; rintro e w1 ⟨rfl, rfl⟩)
    | (go_at_call 22; refine (hnm _).mono ?_; rintro e w2 ⟨rfl, hb2⟩; have h2 := Hh.out.keep hb2; have c0 := h2.row.cell (i := 0) (by omega); simp only [dc] at c0))
  go_region_with (go_at_call 18; refine (hus _ (h2.keep (drew_keep _))).mono ?_; rintro e w3 ⟨rfl, hb3⟩; have h3 := (h2.keep (drew_keep _)).keep hb3; have c3 := h3.row.cell (i := 0) (by omega); simp only [dc] at c3)
  all_goals (
    have hbb : Below w1.heap.size w1 w3 := (hb2.trans ((drew_keep w2).mono hb2.size)).trans (hb3.mono hb2.size)
    go_wp2
    go_ret
    exact ⟨rfl, hbb⟩)

end Go.Proofs.Ytmpfbemdljfamaa
