/- Crash: what is settled, what is cut. -/
import Derived.Test.YtmpfbemdljfamaaWPick
import Derived.Test.YtmpfbemdljfamaaIter
namespace Go.Proofs.Ytmpfbemdljfamaa
open Go.RowKit Go.Maps Go.Sort

/-- A key, as a text. -/
def key (l : List UInt8) : ByteArray := ⟨l.toArray⟩

/-- The names of a map, rising. -/
def sk (D : DataW Unit) : List (List UInt8) := (strKeys D).mergeSort (fun x y => decide (x ≤ y))

/-- Directories settled, one behind the other. -/
inductive Sets : List (List UInt8) → St → List Int → St → List Int → Prop
  | nil (S : St) (ps : List Int) : Sets [] S ps S ps
  | snoc {l : List (List UInt8)} {S S1 : St} {ps ps1 : List Int} (a : List UInt8) (r : Nat) (x : Rw) : Sets l S ps S1 ps1 → look S1.rws (key a) = some r → S1.R r = some x →
      Sets (l ++ [a]) S ps (settled S1 (key a) x (pick1 ps1 x.cs.length).1) (pick1 ps1 x.cs.length).2

/-- Files cut, one behind the other. -/
inductive Cuts : List (List UInt8) → St → List Int → St → List Int → Prop
  | nil (S : St) (ps : List Int) : Cuts [] S ps S ps
  | skip {l : List (List UInt8)} {S S1 : St} {ps ps1 : List Int} (a : List UInt8) (f : Nat) (x : Fl) : Cuts l S ps S1 ps1 → look S1.now (key a) = some f → S1.F f = some x → (x.xs.length : Int) = x.s → Cuts (l ++ [a]) S ps S1 ps1
  | cut {l : List (List UInt8)} {S S1 : St} {ps ps1 : List Int} (a : List UInt8) (f : Nat) (x : Fl) (v : Value) : Cuts l S ps S1 ps1 → look S1.now (key a) = some f → S1.F f = some x → x.s < x.xs.length →
      Cuts (l ++ [a]) S ps (filed S1 f ⟨v, x.xs.take (x.s.toNat + (pick1 ps1 (x.xs.length - x.s.toNat)).1), (x.xs.take (x.s.toNat + (pick1 ps1 (x.xs.length - x.s.toNat)).1)).length⟩) (pick1 ps1 (x.xs.length - x.s.toNat)).2

/-- The disk without power. -/
def offed (S : St) : St := { unarmed S with off := true }

theorem sk_perm {D : DataW Unit} {ss : List (List UInt8)} (h : ss.Perm (strKeys D)) : ss.mergeSort (fun x y => decide (x ≤ y)) = sk D := mergeSort_of_perm h

theorem sk_len (D : DataW Unit) : (sk D).length = (strKeys D).length := by simp [sk]

/-- A slice of texts. -/
structure Tx (w : World) (Q : Nat → Prop) (v : Value) (l : List (List UInt8)) : Prop where
  own : w.ownsRow 0 9 1 v l.length (l.map encStr)
  nq : ∀ g, v.ownBlock = some g → ¬ Q g

theorem Tx.fr {w w' : World} {Q : Nat → Prop} {v : Value} {l : List (List UInt8)} (h : Tx w Q v l) (hf : Fr Q w w') : Tx w' Q v l :=
  ⟨ownsRow_fr h.own hf h.nq, h.nq⟩

theorem tx_cell {w : World} {Q : Nat → Prop} {v : Value} {l : List (List UInt8)} (h : Tx w Q v l) (i : Nat) (hi : i < l.length) : ∃ g c, v = .slice (some ⟨g, 0, none⟩) l.length c ∧ w.cell? ⟨g, i, none⟩ = some (.string (key (l[i]))) := by
  have ho := h.own
  obtain ⟨g, c, hv⟩ := own_some ho (by omega)
  rw [hv] at ho
  exact ⟨g, c, hv, own_cell ho i _ (by simp [hi]; rfl)⟩

theorem sets_same {l : List (List UInt8)} {S S1 : St} {ps ps1 : List Int} (h : Sets l S ps S1 ps1) : S1.F = S.F ∧ S1.R = S.R ∧ S1.now = S.now ∧ S1.nb = S.nb ∧ S1.lb = S.lb ∧ S1.rb = S.rb := by
  induction h with
  | nil => exact ⟨rfl, rfl, rfl, rfl, rfl, rfl⟩
  | snoc a r x h1 h2 h3 ih => exact ih

theorem cuts_same {l : List (List UInt8)} {S S1 : St} {ps ps1 : List Int} (h : Cuts l S ps S1 ps1) : S1.now = S.now ∧ S1.nb = S.nb ∧ S1.last = S.last ∧ S1.off = S.off ∧ S1.calls = S.calls ∧ S1.rws = S.rws := by
  induction h with
  | nil => exact ⟨rfl, rfl, rfl, rfl, rfl, rfl⟩
  | skip a f x h1 h2 h3 h4 ih => exact ih
  | cut a f x v h1 h2 h3 h4 ih => exact ih

/-- What is cut of a file is behind what was synced. -/
theorem cuts_F {l : List (List UInt8)} {S S1 : St} {ps ps1 : List Int} (h : Cuts l S ps S1 ps1) (hw : ∀ f x, S.F f = some x → 0 ≤ x.s ∧ x.s ≤ x.xs.length) :
    ∀ f x, S.F f = some x → ∃ x', S1.F f = some x' ∧ (x' = x ∨ ∃ k : Nat, x.s ≤ k ∧ k ≤ x.xs.length ∧ x'.xs = x.xs.take k ∧ x'.s = k) := by
  induction h with
  | nil => exact fun f x hx => ⟨x, hx, .inl rfl⟩
  | skip a f x h1 h2 h3 h4 ih => exact ih hw
  | cut a g y v h1 h2 h3 h4 ih =>
    rename_i l S S1 ps ps1
    intro f x hx
    obtain ⟨x', hx', hc⟩ := ih hw f x hx
    by_cases hfg : f = g
    · subst hfg
      rw [h3] at hx'
      cases hx'
      have hle := pick1_le ps1 (y.xs.length - y.s.toNat)
      refine ⟨_, upd_same _ _ _, .inr ?_⟩
      rcases hc with rfl | ⟨k, k1, k2, k3, k4⟩
      · have := hw f y hx
        exact ⟨y.s.toNat + (pick1 ps1 (y.xs.length - y.s.toNat)).1, by omega, by omega, rfl, by simp; omega⟩
      · have e : y.xs.length = k := by rw [k3]; simp; omega
        omega
    · exact ⟨x', by show upd _ _ _ f = _; rw [upd_other _ _ hfg]; exact hx', hc⟩

theorem cuts_len {l : List (List UInt8)} {S S1 : St} {ps ps1 : List Int} (B : Nat) (h : Cuts l S ps S1 ps1) (hw : ∀ f x, S.F f = some x → x.xs.length ≤ B) : ∀ f x, S1.F f = some x → x.xs.length ≤ B := by
  induction h with
  | nil => exact hw
  | skip a f x h1 h2 h3 h4 ih => exact ih hw
  | cut a g y v h1 h2 h3 h4 ih =>
    intro f x hx
    rcases upd_cases hx with ⟨rfl, rfl⟩ | ⟨_, hx⟩
    · have := ih hw f y h3
      simp
      omega
    · exact ih hw f x hx

/-- A file of which just what was synced is left. -/
def Only (x x' : Fl) : Prop := x'.xs = x.xs.take x.s.toNat ∧ x'.s = x.s

/-- Without picks all that was not synced is gone. -/
theorem cuts_none {l : List (List UInt8)} {S S1 : St} {ps ps1 : List Int} (h : Cuts l S ps S1 ps1) (hp : ps = []) (hw : ∀ f x, S.F f = some x → 0 ≤ x.s ∧ x.s ≤ x.xs.length) :
    ps1 = [] ∧ (∀ f x, S.F f = some x → ∃ x', S1.F f = some x' ∧ (x' = x ∨ Only x x')) ∧ ∀ a ∈ l, ∀ f x, look S.now (key a) = some f → S.F f = some x → ∃ x', S1.F f = some x' ∧ Only x x' := by
  induction h with
  | nil => exact ⟨hp, fun f x hx => ⟨x, hx, .inl rfl⟩, fun a ha => by cases ha⟩
  | skip a g y h1 h2 h3 h4 ih =>
    obtain ⟨i1, i0, i2⟩ := ih hp hw
    refine ⟨i1, i0, fun b hb f x hl hx => ?_⟩
    rcases List.mem_append.1 hb with hb | hb
    · exact i2 b hb f x hl hx
    · obtain rfl := List.mem_singleton.1 hb
      rw [(cuts_same h1).1] at h2
      rw [h2] at hl
      cases hl
      obtain ⟨x', hx', hc⟩ := i0 g x hx
      rw [h3] at hx'
      cases hx'
      rcases hc with rfl | hc
      · exact ⟨y, h3, by rw [List.take_of_length_le (by omega)], rfl⟩
      · exact ⟨y, h3, hc⟩
  | cut a g y v h1 h2 h3 h4 ih =>
    obtain ⟨i1, i0, i2⟩ := ih hp hw
    subst i1
    have key1 : ∀ x, (∃ x', x' = y ∧ (x' = x ∨ Only x x')) → 0 ≤ x.s ∧ x.s ≤ x.xs.length → Only x ⟨v, y.xs.take (y.s.toNat + (pick1 [] (y.xs.length - y.s.toNat)).1), (y.xs.take (y.s.toNat + (pick1 [] (y.xs.length - y.s.toNat)).1)).length⟩ := by
      rintro x ⟨x', rfl, hc⟩ hh
      rcases hc with rfl | ⟨c1, c2⟩
      · refine ⟨rfl, ?_⟩
        show ((x'.xs.take (x'.s.toNat + 0)).length : Int) = x'.s
        simp
        omega
      · have : x'.xs.length = x.s.toNat := by rw [c1]; simp; omega
        omega
    refine ⟨rfl, fun f x hx => ?_, fun b hb f x hl hx => ?_⟩
    · obtain ⟨x', hx', hc⟩ := i0 f x hx
      by_cases hfg : f = g
      · subst hfg
        rw [h3] at hx'
        cases hx'
        exact ⟨_, upd_same _ _ _, .inr (key1 x ⟨y, rfl, hc⟩ (hw f x hx))⟩
      · exact ⟨x', by show upd _ _ _ f = _; rw [upd_other _ _ hfg]; exact hx', hc⟩
    · obtain ⟨x', hx', hc⟩ := i0 f x hx
      by_cases hfg : f = g
      · subst hfg
        rw [h3] at hx'
        cases hx'
        exact ⟨_, upd_same _ _ _, key1 x ⟨y, rfl, hc⟩ (hw f x hx)⟩
      · rcases List.mem_append.1 hb with hb | hb
        · obtain ⟨x2, hx2, hc2⟩ := i2 b hb f x hl hx
          exact ⟨x2, by show upd _ _ _ f = _; rw [upd_other _ _ hfg]; exact hx2, hc2⟩
        · obtain rfl := List.mem_singleton.1 hb
          rw [(cuts_same h1).1, hl] at h2
          cases h2
          exact absurd rfl hfg

theorem sets_none {l : List (List UInt8)} {S S1 : St} {ps ps1 : List Int} (h : Sets l S ps S1 ps1) (hp : ps = []) : ps1 = [] ∧ S1.last = S.last := by
  induction h with
  | nil => exact ⟨hp, rfl⟩
  | snoc a r x h1 h2 h3 ih =>
    obtain ⟨i1, i2⟩ := ih hp
    subst i1
    exact ⟨rfl, i2⟩

/-- Another map of what there is. -/
theorem Dk.newNow {w w1 w2 : World} {O : Nat → Prop} {d : Nat} {S : St} {nb : Nat} {D : DataW Unit} (h : Dk w O d S) (hb : RowKit.Below w.heap.size w w1) (hm : Mp w1 nb D) (hn : w.heap.size ≤ nb) (hr : w2.rowIs d 48 8 (dc { S with now := D, nb := nb })) (hf : Fr (fun k => k = d) w1 w2) :
    Dk w2 (fun b => O b ∨ b = nb) d { S with now := D, nb := nb } := by
  have h1 := (h.keep hb).mono (O' := fun b => O b ∨ b = nb) (fun b e => .inl e) (fun b e => e.elim (fun e => Nat.lt_of_lt_of_le (h.lim b e) hb.size) (fun e => by rw [e]; exact hm.lt))
  have kd0 := kd_row h1.row
  have nm : ∀ b D, Mp w1 b D → b ≠ d := fun b D hm e => by rw [← e, kd_map hm] at kd0; cases kd0
  have l1 := h.last.lt
  have l2 := h.rws.lt
  refine ⟨hr, hm.fr hf (nm _ _ hm), h1.last.fr hf (nm _ _ h1.last), h1.rws.fr hf (nm _ _ h1.rws), ⟨?_, ?_, h.ne.2.2⟩, h1.fs.fr hf (fun b _ hb => by subst hb; rw [kd0]; decide), h1.rs.fr hf (fun b _ hb => by subst hb; rw [kd0]; decide), ownsRow_fr h1.pic hf (fun g e hg => by have := kd_own h1.pic e; rw [hg, kd0] at this; cases this), ⟨h1.own.1, .inr rfl, h1.own.2.2.1, h1.own.2.2.2.1, h1.own.2.2.2.2⟩, fun b e => Nat.lt_of_lt_of_le (h1.lim b e) hf.size⟩
  · show nb ≠ S.lb
    omega
  · show nb ≠ S.rb
    omega

theorem cuts_dom {l : List (List UInt8)} {S S1 : St} {ps ps1 : List Int} (h : Cuts l S ps S1 ps1) : ∀ f x, S1.F f = some x → ∃ y, S.F f = some y := by
  induction h with
  | nil => exact fun f x hx => ⟨x, hx⟩
  | skip a f x h1 h2 h3 h4 ih => exact ih
  | cut a g y v h1 h2 h3 h4 ih =>
    intro f x hx
    rcases upd_cases hx with ⟨rfl, rfl⟩ | ⟨_, hx⟩
    · exact ih f y h3
    · exact ih f x hx

theorem cuts_some {l : List (List UInt8)} {S S1 : St} {ps ps1 : List Int} (h : Cuts l S ps S1 ps1) : ∀ f x, S.F f = some x → ∃ y, S1.F f = some y := by
  induction h with
  | nil => exact fun f x hx => ⟨x, hx⟩
  | skip a f x h1 h2 h3 h4 ih => exact ih
  | cut a g y v h1 h2 h3 h4 ih =>
    intro f x hx
    by_cases hfg : f = g
    · subst hfg
      exact ⟨_, upd_same _ _ _⟩
    · obtain ⟨z, hz⟩ := ih f x hx
      exact ⟨z, by show upd _ _ _ f = _; rw [upd_other _ _ hfg]; exact hz⟩

/-- A file is cut. -/
theorem cut_dk {w w' : World} {O : Nat → Prop} {d : Nat} {S : St} {f : Nat} {x : Fl} {v' : Value} {k : Nat} (h : Dk w O d S) (hx : S.F f = some x) (hr : w'.rowIs f 79 2 (fc ⟨v', x.xs.take k, (x.xs.take k).length⟩))
    (hd : w'.ownsRow 0 5 1 v' (x.xs.take k).length ((x.xs.take k).map (Value.int .u8))) (hf : Fr (fun i => i = f) w w') (hv : ∀ g, v'.ownBlock = some g → w.heap.size ≤ g) :
    Dk w' (fun b => O b ∨ v'.ownBlock = some b) d (filed S f ⟨v', x.xs.take k, (x.xs.take k).length⟩) := by
  have hF := h.fs.is f x hx
  refine h.setF ⟨fun b e => .inl e, fun b e => e.elim .inl fun e => .inr (hv b e), fun b e => e.elim (fun e => Nat.lt_of_lt_of_le (h.lim b e) hf.size) fun e => own_lt hd e⟩ hx ⟨hr, hd, fun b hb => hF.byt b (List.mem_of_mem_take hb), ⟨Int.natCast_nonneg _, Int.le_refl _⟩, .inl hF.own.1, fun g e => .inr e⟩ (hf.weak (fun i e => .inl e)) (fun g e => .inr (hv g e))

theorem Pik.to {w : World} {O Q : Nat → Prop} {pb : Nat} {ps : List Int} (h : Pik w O pb ps) (hQ : ∀ b, b < w.heap.size → ¬ O b → ¬ Q b) : Pik w Q pb ps := by
  obtain ⟨ao, n, c, h1, h2, h3, h4⟩ := h.ex
  exact ⟨⟨ao, n, c, h1, h2, h3, fun ad e hn => ⟨hQ _ (h2.blk ad e hn) (h4 ad e hn).1, (h4 ad e hn).2⟩⟩, hQ _ h1.lt h.nb⟩

theorem meas {k N : Nat} (h : k < N) : N - (Lib.intOf (.int .i64 ((k + 1 : Nat) : Int))).toNat < N - (Lib.intOf (.int .i64 (k : Int))).toNat := by
  simp [Lib.intOf]
  omega

/-- One directory more. -/
theorem settle_pik {w w' : World} {O : Nat → Prop} {d : Nat} {S : St} {pb : Nat} (h : Dk w O d S) (hf : Fr (fun k => k = pb) w w') (hn : ¬ O pb) : Dk w' O d S := h.fr hf (fun _ hb e => hn (e ▸ hb))

end Go.Proofs.Ytmpfbemdljfamaa
