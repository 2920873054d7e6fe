/- Appends of all kinds; a file: put, sync, loose, cut. -/
import Derived.Test.YtmpfbemdljfamaaWArm
namespace Go.Proofs.Ytmpfbemdljfamaa
open Go.RowKit Go.Maps

theorem run_app_zero {P : Program} {w : World} (base : Nat) (t ty e : TypeId) (i : TypeInfo) (size : Nat) (ht : P.underlying t = some (.slice e)) (hi : P.info? e = some i)
    (v : Value) (n : Nat) (xs : List Value) (hown : w.ownsRow base e size v n xs) (ad : Addr) (c : Nat) :
    (Builtin.append_ #[t, t] ty #[v, .slice (some ad) 0 c]).run P w = .ok v w := by
  rcases hown.2 with ⟨rfl, rfl⟩ | ⟨g, cap, cur, rfl, _, _, hnc, _⟩
  · simp [Builtin.append_, run_underlying ht, sizeOf, typeInfo, hi, Builtin.lenOf, Builtin.firstCells, loadCells, loadCellsFrom]
  · simp [Builtin.append_, run_underlying ht, sizeOf, typeInfo, hi, Builtin.lenOf, Builtin.firstCells, hnc, storeCells, loadCells, loadCellsFrom]

/-- Whatever is put behind a row of one's own. -/
theorem wpList_app {P : Program} {w : World} {ops : Array Oper} {rest : List Oper} {o : Oper} {a : Act} {Q : Exit → Act → World → Prop} (hgd : o.guard = none) (s x : Operand) (t : TypeId)
    (ho : o.op = .call { callee := .builtin .append, args := #[s, x], argTypes := #[t, t] })
    (e : TypeId) (z : Value) (bytes : Nat) (ht : P.underlying t = some (.slice e)) (hinfo : (P.info? e).map (fun i => (i.zero, i.size, i.bytes)) = some (some z, 1, bytes)) (hzs : z.cells.size = 1)
    (v : Value) (n : Nat) (xs : List Value) (hs : a.eval s = v) (hown : w.ownsRow 0 e 1 v n xs)
    (ao : Option Addr) (m c : Nat) (news : List Value) (hx : a.eval x = .slice ao m c) (hl : news.length = m) (hnul : ao = none → m = 0 ∧ c = 0)
    (hnews : ∀ ad, ao = some ad → ∀ j u, news[j]? = some u → w.cell? (ad.add j) = some u) (h1 : ∀ u ∈ news, u.oneCell' = true)
    (h63 : n + m ≤ maxLen) (hbytes : (n + m) * bytes ≤ 140737488355328)
    (h : ∀ av cv w', w'.ownsRow 0 e 1 (.slice av (n + m) cv) (n + m) (xs ++ news) → w.grownBy w' v.ownBlock → (∀ g, (Value.slice av (n + m) cv).ownBlock = some g → v.ownBlock = some g ∨ g = w.heap.size) →
      wpList P ops Q rest (a.put o.dst (.slice av (n + m) cv)) w') : wpList P ops Q (o :: rest) a w := by
  obtain ⟨i0, hi, hz0, hz1, hz2⟩ := info_parts hinfo
  cases ao with
  | none =>
    obtain ⟨rfl, rfl⟩ := hnul rfl
    have hn : news = [] := List.eq_nil_of_length_eq_zero hl
    subst hn
    obtain ⟨av, cv, rfl⟩ := own_shape hown
    exact wpList_append_own_none hgd s x t ho 0 e i0 1 ht hi _ n xs hs hown hx (h av cv w (by simpa using hown) (World.grownBy.refl _ _) (fun g hg => .inl hg))
  | some ad =>
    by_cases hm : m = 0
    · subst hm
      have hn : news = [] := List.eq_nil_of_length_eq_zero hl
      subst hn
      obtain ⟨av, cv, rfl⟩ := own_shape hown
      refine wpList_plain hgd fun K hK => ?_
      have hrun := run_app_zero (P := P) (w := w) 0 t o.type e i0 1 ht hi _ n xs hown ad c
      unfold Oper.wp
      simp [execOp, ho, resolve, invoke, builtin, hs, hx, hrun, Result.andThen]
      exact hK _ _ (h av cv w (by simpa using hown) (World.grownBy.refl _ _) (fun g hg => .inl hg))
    · exact wpList_append_lies w hgd s x t ho 0 e i0 z 1 bytes ht hi hz0 hz1 hz2 hzs (by decide) v n xs hs hown ad m c news hx (by omega) (hnews ad rfl) h1 (by omega) h63 hbytes (Nat.zero_le _) w.heap.size rfl
        (fun g cap w' h2 h3 h4 _ => h _ cap w' h2 h3 (fun g' hg' => by cases hg'; exact h4))

theorem Fr.weak {P P' : Nat → Prop} {w w' : World} (h : Fr P w w') (hP : ∀ i, P i → P' i) : Fr P' w w' := ⟨h.os, h.tape, h.output, h.size, fun k hk hn => h.block k hk (fun hp => hn (hP k hp))⟩

theorem fr_grown {w w' : World} {r : Option Nat} (h : w.grownBy w' r) : Fr (fun k => r = some k) w w' := ⟨h.os, h.tape, h.output, h.size, fun i hi hn => h.block i hi (fun e => hn e.symm)⟩

set_option maxRecDepth 100000 in
theorem put_any (f : Nat) (O : Nat → Prop) (x : Fl) (ao : Option Addr) (m c : Nat) (ys : List Int) (w : World) (h : IsF w O f x) (hy : Rd w ao m c ys) (hlim : x.xs.length + m ≤ 140737488351232) :
    Calls Try.prog 30 #[.pointer (some ⟨f, 0, none⟩), .slice ao m c] w fun e w' => e = .returned (.tuple #[]) ∧
      ∃ v', w'.rowIs f 79 2 (fc ⟨v', x.xs ++ ys, x.s⟩) ∧ w'.ownsRow 0 5 1 v' (x.xs ++ ys).length ((x.xs ++ ys).map (Value.int .u8)) ∧ Fr (fun k => k = f ∨ x.v.ownBlock = some k) w w' ∧ (∀ g, v'.ownBlock = some g → x.v.ownBlock = some g ∨ g = w.heap.size) := by
  have c0 := h.row.cell (i := 0) (by omega)
  simp only [fc] at c0
  have hown := h.dat
  have kf := kd_row h.row
  have hr := h.row
  have hne : ∀ k, x.v.ownBlock = some k → k ≠ f := fun k e hk => by
    have := kd_own hown e
    rw [hk, kf] at this
    cases this
  obtain ⟨av, cv, hv⟩ := own_shape hown
  have hyl := hy.len
  obtain ⟨n, hn⟩ : ∃ n, n = x.xs.length := ⟨_, rfl⟩
  rw [hv] at c0 hown hne
  have HV : Hid (x.v = Value.slice av x.xs.length cv) := hv
  rw [← hn] at c0 hown hne hlim
  have HN : Hid (n = x.xs.length) := hn
  clear hv hn h
  go_enter Try.func30, Try.ntmps30
  go_wp2_with (at_builtin; refine wpList_app rfl _ _ 22 rfl 5 (.int .u8 0) 1 Try.underlying22 Try.info5 rfl (.slice av n cv) n _ rfl hown ao m c (ys.map (Value.int .u8)) rfl (by simpa using hyl) hy.nul (fun ad e => hy.cellsOf ad e) (ints_oneCell _ _) (by unfold maxLen; omega) (by omega) ?_; intro av' cv' w1 ho1 hg1 hl1; have hr1 := rowIs_fr hr (fr_grown hg1) (fun e => hne _ e rfl); have c1 := hr1.cell (i := 0) (by omega); have f1 := hr1.frozen 0; simp only [fc] at c1)
  have HNo := HN.out
  have hr2 := set_row (g := fc ⟨.slice av' (n + m) cv', x.xs ++ ys, x.s⟩) hr1 0 (.slice av' (n + m) cv') (by
    intro j hj
    match j, hj with
    | 0, _ | 1, _ => rfl)
  go_end0
  refine ⟨rfl, _, hr2, ?_, ?_, ?_⟩
  · have hl : (x.xs ++ ys).length = n + m := by rw [List.length_append, HNo, hyl]
    rw [hl, List.map_append]
    exact ownsRow_fr ho1 (set_fr w1 f 0 _) (fun k e hk => by
      have k1 := kd_own ho1 e
      rw [hk, kd_row hr1] at k1
      cases k1)
  · rw [HV.out, ← HNo]
    exact (((fr_grown hg1).weak (fun i e => .inr e)).trans (P := fun k => k = f ∨ (Value.slice av n cv).ownBlock = some k) (P' := fun k => k = f) (set_fr w1 f 0 _) (fun i _ e => .inl e))
  · rw [HV.out, ← HNo]
    exact hl1

end Go.Proofs.Ytmpfbemdljfamaa
