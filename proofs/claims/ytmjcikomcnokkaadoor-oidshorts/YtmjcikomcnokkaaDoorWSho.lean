/- oid.Short. -/
import Derived.Test.YtmjcikomcnokkaaDoorWAli
namespace Go.Proofs.YtmjcikomcnokkaaDoor
open Go.RowKit

theorem str_size (xs : List Int) : (strOfNums xs).size = xs.length := by
  simp [strOfNums, ByteArray.size]

theorem str_take (xs : List Int) (m : Nat) : (strOfNums xs).extract 0 m = strOfNums (xs.take m) := by
  apply ByteArray.ext
  rw [ByteArray.data_extract]
  simp [strOfNums, List.map_take]

theorem run_strsl (s : ByteArray) (m : Nat) (hm : m ≤ s.size) (w : World) : (Instr.sliceAt 9 (.string s) none (some (.int .i64 m)) none).run Tryd.prog w = .ok (.string (s.extract 0 m)) w := by
  have e2 : 0 ≤ (m : Int) ∧ (m : Int) ≤ (s.size : Int) := by omega
  unfold Instr.sliceAt Instr.slice Instr.sliceBounds
  simp [go_sem, Instr.sliceBound, asIntOf, e2]
  intro h
  omega

theorem wpList_strsl {ops : Array Oper} {rest : List Oper} {op : Oper} {a : Act} {w : World} {Q : Exit → Act → World → Prop} (hgd : op.guard = none) (x y : Operand) (ho : op.op = .slice 9 x none (some y) none) (xs : List Int) (m : Nat) (hm : m ≤ xs.length) (hx : a.eval x = .string (strOfNums xs)) (hy : a.eval y = .int .i64 m)
    (hk : wpList Tryd.prog ops Q rest (a.put op.dst (.string (strOfNums (xs.take m)))) w) : wpList Tryd.prog ops Q (op :: rest) a w := by
  refine wpList_plain hgd fun K hK => ?_
  have h := run_strsl (strOfNums xs) m (by rw [str_size]; exact hm) w
  rw [str_take] at h
  unfold Oper.wp
  simp only [execOp, ho, hx, hy, Option.map_none, Option.map_some, Sem.run_bind, h, Result.andThen_ok, Sem.run_pure]
  exact hK _ _ hk

/-- The fronts of a rising row stand side by side. -/
theorem iv_ex {r : Array (List Int)} (hu : Up r) (hids : ∀ i, i < r.size → IsId r[i]!) (p : List Int) (hp : p.length ≤ 40) (hs : ∀ c ∈ p, isS c) : ∃ x y, Iv r p x y := by
  have ex : ∀ (F : Nat → Bool) (n : Nat), (∀ i j, i ≤ j → j < n → F i = true → F j = true) → ∃ k, Fst n F k := by
    intro F n
    induction n with
    | zero => exact fun _ => ⟨0, Nat.le_refl _, fun q hq => by omega, fun q _ hq => by omega⟩
    | succ n ih =>
      intro hm
      obtain ⟨k, h1, h2, h3⟩ := ih (fun i j hij hj => hm i j hij (by omega))
      cases hF : F n with
      | true =>
        refine ⟨k, by omega, h2, fun q hq1 hq2 => ?_⟩
        by_cases e : q = n
        · subst e; exact hF
        · exact h3 q hq1 (by omega)
      | false =>
        refine ⟨n + 1, Nat.le_refl _, fun q hq => ?_, fun q h1 h2 => by omega⟩
        cases hq' : F q with
        | false => rfl
        | true => rw [hm q n (by omega) (by omega) hq'] at hF; cases hF
  obtain ⟨x, hx⟩ := ex _ r.size (up_mono rfl hu (pr (full p 48)))
  obtain ⟨y, hy⟩ := ex _ r.size (up_mono2 rfl hu (pr (full p 102)))
  exact ⟨x, y, iv_of hp hs hids hx hy⟩

theorem wh_at {r : Array (List Int)} {k j : Nat} (hu : Up r) (hk : k < r.size) (h : wh r r[k]! j) : j = k := by
  by_cases h1 : k < j
  · have : (!ltl r[k]! r[k]!) = false := h.2.1 k h1
    rw [ltl_irr] at this
    cases this
  · by_cases h2 : j < k
    · have h3 : (!ltl r[j]! r[k]!) = true := h.2.2 j (Nat.le_refl _) (by omega)
      rw [hu j k h2 hk] at h3
      cases h3
    · omega

set_option maxRecDepth 100000 in
set_option maxHeartbeats 2000000 in
/-- Short of a name of the row. -/
theorem short_yes (B : Nat) (v : Value) (r : Array (List Int)) (k : Nat) (w : World) (h : Nw B w v r) (hu : Up r) (hk : k < r.size) (hsz : r.size < 100000) :
    Calls Tryd.prog 22 #[v, idv r[k]!] w fun e w' => ∃ n : Nat, e = .returned (.tuple #[.string (strOfNums ((hx r[k]!).take n)), .int .i64 0]) ∧ Sh r k n ∧ Below w.heap.size w w' := by
  rcases h with ⟨h0, _⟩ | ⟨h0, b, c, rfl, hc, hB, hr⟩
  · omega
  have hidk := hr.ids k hk
  have HB0 : Hid (Below w.heap.size w (w.alloc (.cells (vals (cl r[k]!) 20).toArray 23))) := new_below _ _
  have hfd := find_row b (c * 20) c r.size r r[k]! _ (hr.keep HB0.out) rfl hu hidk hsz
  have HBox : Hid (∀ W, Below (w.alloc (.cells (vals (cl r[k]!) 20).toArray 23)).heap.size (w.alloc (.cells (vals (cl r[k]!) 20).toArray 23)) W → (loadVar 23 ⟨w.heap.size, 0, none⟩).run Tryd.prog W = .ok (idv r[k]!) W) := fun W hW => box_load w W r[k]! hidk hW
  have HAl : Hid (∀ W, Below w.heap.size w W → Calls Tryd.prog 36 #[.slice (some ⟨b, 0, none⟩) r.size c, .int .i64 k] W fun e w' => ∃ a : Nat, e = .returned (.int .i64 a) ∧ Al r k a ∧ Below W.heap.size W w') := fun W hW => alike_any b (c * 20) c r.size r W (hr.keep hW) rfl k hk hsz
  have HSh : Hid (∀ a, Al r k a → Sh r k (min (max 4 (1 + a)) 40)) := fun a ha => sh_of hu hr.ids hk ha (iv_ex hu hr.ids)
  have HWh : Hid (∀ j, wh r r[k]! j → j = k) := fun j hj => wh_at hu hk hj
  have HK : Hid (k < r.size) := hk
  have hx40k := hx40 hidk
  have HHex : Hid (∀ W, Calls Tryd.prog 11 #[idv r[k]!] W fun e w' => e = .returned (.string (strOfNums (hx r[k]!))) ∧ Below W.heap.size W w') := fun W => hex_any r[k]! hidk W
  have HAb : Hid (∀ a, Al r k a → a ≤ 40) := fun a ha => by
    rcases ha.is with e | ⟨q, _, _, hc⟩
    · omega
    · exact hc.le
  obtain ⟨w0, hw0⟩ : ∃ w0, w.alloc (.cells (vals (cl r[k]!) 20).toArray 23) = w0 := ⟨_, rfl⟩
  have HW0 : Hid (w.alloc (.cells (vals (cl r[k]!) 20).toArray 23) = w0) := hw0
  rw [hw0] at HB0 hfd HBox
  have hl0 := HBox.out w0 (Below.refl _ _)
  clear hr hu hidk h0 hB hc hw0 hk
  obtain ⟨z, hz⟩ : ∃ z, r[k]! = z := ⟨_, rfl⟩
  have HZ : Hid (r[k]! = z) := hz
  rw [hz] at hfd HBox HWh HHex hx40k HW0 hl0 ⊢
  clear hz
  have HX40 : Hid ((hx z).length = 40) := hx40k
  clear hx40k
  rw [← HW0.out] at hl0 hfd
  go_enter Tryd.func22, Tryd.ntmps22
  go_wp2_with (refine wpList_ldv rfl 23 _ rfl ⟨w.heap.size, 0, none⟩ rfl (idv z) hl0 ?_; clear hl0)
  refine hfd.mono ?_
  rintro e w1 ⟨j, rfl, hj, b1⟩
  rw [HW0.out] at b1
  obtain rfl := HWh.out j hj
  have hdd : (decide (j < r.size) && decide (r[j]! = z)) = true := by rw [HZ.out]; simp [HK.out]
  rw [hdd]
  have B1 : Hid (Below w0.heap.size w0 w1) := b1
  have hal := HAl.out w1 (HB0.out.trans (B1.out.mono HB0.out.size))
  clear hfd hj hdd b1
  go_wp2_with fail
  refine hal.mono ?_
  rintro e w2 ⟨a, rfl, ha, b2⟩
  have hab := HAb.out a ha
  have HS := HSh.out a ha
  have HS' : Hid (Sh r j (min (max 4 (1 + a)) 40)) := HS
  have B2 : Hid (Below w0.heap.size w0 w2) := B1.out.trans (b2.mono B1.out.size)
  have hl2 := HBox.out w2 B2.out
  have hex := HHex.out w2
  have hwa : IntKind.i64.wrap (1 + (a : Int)) = 1 + (a : Int) := by rw [IntKind.wrap_i64]; omega
  obtain ⟨m1, hm1⟩ : ∃ m1, max 4 (1 + a) = m1 := ⟨_, rfl⟩
  obtain ⟨m2, hm2⟩ : ∃ m2, min m1 40 = m2 := ⟨_, rfl⟩
  rw [hm1, hm2] at HS'
  have e1 : ((m1 : Nat) : Int) = max 4 (1 + (a : Int)) := by omega
  have e2 : ((m2 : Nat) : Int) = min (m1 : Int) 40 := by omega
  have E1 : Hid _ := e1
  have E2 : Hid _ := e2
  have HM2 : Hid (m2 ≤ (hx z).length) := by rw [HX40.out]; show m2 ≤ 40; omega
  clear hal ha hab HS b2 hm1 hm2 e1 e2 HAl HSh HAb
  go_wp2_with (first
    | (refine wpList_max rfl _ _ rfl 4 (1 + (a : Int)) rfl rfl rfl (m1 : Int) E1.out ?_)
    | (refine wpList_ldv rfl 23 _ rfl ⟨w.heap.size, 0, none⟩ rfl (idv z) hl2 ?_; clear hl2)
    | (go_at_call 11; refine hex.mono ?_; rintro e w3 ⟨rfl, b3⟩; have B3 : Hid (Below w0.heap.size w0 w3) := B2.out.trans (b3.mono B2.out.size); clear b3 hex)
    | (refine wpList_min rfl _ _ rfl (m1 : Int) 40 rfl rfl rfl (m2 : Int) E2.out ?_)
    | (refine wpList_strsl rfl _ _ rfl (hx z) m2 HM2.out rfl rfl ?_))
  go_ret2
  exact ⟨m2, rfl, HS'.out, HB0.out.trans (B3.out.mono HB0.out.size)⟩

end Go.Proofs.YtmjcikomcnokkaaDoor
