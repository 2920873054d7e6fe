/- The law's own front: does b begin with a? -/
import Derived.Test.YtmkjpfjlohkdoaaWRoom
namespace Go.Proofs.Ytmkjpfjlohkdoaa
open Go.RowKit

theorem Rd.str {w : World} {ao : Option Addr} {n c : Nat} {xs : List Int} (h : Rd w ao n c xs) : (convert 22 9 (.slice ao n c)).run Try.prog w = .ok (.string (strOfNums xs)) w := by
  cases ao with
  | none =>
    obtain ⟨rfl, rfl⟩ := h.nul rfl
    have hx : xs = [] := List.eq_nil_of_length_eq_zero h.len
    subst hx
    rw [run_convert_bytes_nil w 22 5 Try.underlying22 Try.underlying5 0 0 9 Try.underlying9]
    rfl
  | some ad =>
    have hl : (loadCells ad n).run Try.prog w = .ok (xs.map (Value.int .u8)).toArray w := by
      have := run_loadCells_list (P := Try.prog) w ad (xs.map (Value.int .u8)) (h.cellsOf ad rfl)
      simpa [h.len] using this
    rw [run_convert_bytes_string w 22 9 5 _ n c Try.underlying22 Try.underlying5 Try.underlying9, run_bytesToString w _ n c xs hl, foldl_push_bytes]
    simp [strOfNums, ByteArray.empty, ByteArray.emptyWithCapacity]
    rfl

theorem ofNat_inj (x y : Int) (hx : 0 ≤ x ∧ x < 256) (hy : 0 ≤ y ∧ y < 256) (h : UInt8.ofNat x.toNat = UInt8.ofNat y.toNat) : x = y := by
  have h' := congrArg UInt8.toNat h
  simp only [UInt8.toNat_ofNat'] at h'
  omega

theorem strEq (xs : List Int) : ∀ (ys : List Int), (∀ x ∈ xs, 0 ≤ x ∧ x < 256) → (∀ x ∈ ys, 0 ≤ x ∧ x < 256) → ((strOfNums xs).toList == (strOfNums ys).toList) = decide (xs = ys) := by
  intro ys hx hy
  rw [ByteArray.toList_eq, ByteArray.toList_eq, strOfNums_data, strOfNums_data]
  have key : ∀ (xs ys : List Int), (∀ x ∈ xs, 0 ≤ x ∧ x < 256) → (∀ x ∈ ys, 0 ≤ x ∧ x < 256) → (xs.map fun n => UInt8.ofNat n.toNat) = (ys.map fun n => UInt8.ofNat n.toNat) → xs = ys := by
    intro xs
    induction xs with
    | nil => intro ys _ _ h; cases ys with
      | nil => rfl
      | cons y ys => cases h
    | cons x xs ih =>
      intro ys hx hy h
      cases ys with
      | nil => cases h
      | cons y ys =>
        simp only [List.map_cons, List.cons.injEq] at h
        rw [ofNat_inj x y (hx x (by simp)) (hy y (by simp)) h.1, ih ys (fun z hz => hx z (by simp [hz])) (fun z hz => hy z (by simp [hz])) h.2]
  by_cases e : xs = ys
  · subst e; simp
  · rw [decide_eq_false e]
    simp only [beq_eq_false_iff_ne, ne_eq]
    exact fun h => e (key xs ys hx hy h)

theorem Rd.pre {w : World} {ao : Option Addr} {n c : Nat} {xs : List Int} (h : Rd w ao n c xs) (k : Nat) (hk : k ≤ n) : Rd w ao k c (xs.take k) := by
  have hl := h.len
  have hle := h.le
  refine ⟨by simp; omega, by omega, fun e => ?_, fun ad had j hj => ?_, fun x hx => h.byt x (List.mem_of_mem_take hx)⟩
  · have := h.nul e; omega
  · rw [h.cells ad had j (by omega)]
    simp [List.getD, hj]

set_option maxHeartbeats 400000 in
theorem pre_no (ao bo : Option Addr) (n c m d : Nat) (w : World) (hn : m < n) :
    Calls Try.prog 22 #[.slice ao n c, .slice bo m d] w fun e w' => e = .returned (.bool false) ∧ Below w.heap.size w w' := by
  have hd : decide (n ≤ m) = false := by simp; omega
  go_enter Try.func22, Try.ntmps22
  go_wp2
  go_region
  go_wp2
  go_ret
  exact ⟨rfl, (Below.refl _ _).drew⟩

set_option maxHeartbeats 400000 in
theorem pre_yes (ao bo : Option Addr) (n c m d : Nat) (xs ys : List Int) (w : World) (ha : Rd w ao n c xs) (hb : Rd w bo m d ys) (hn : n ≤ m) :
    Calls Try.prog 22 #[.slice ao n c, .slice bo m d] w fun e w' => e = .returned (.bool (decide (ys.take n = xs))) ∧ Below w.heap.size w w' := by
  have hd : decide (n ≤ m) = true := by simp; omega
  have s1 := (ha.keep (Below.refl _ _).drew).str
  have s2 := ((hb.pre n hn).keep (Below.refl _ _).drew).str
  have hle : n ≤ d := Nat.le_trans hn hb.le
  have he := strEq (ys.take n) xs (fun x hx => hb.byt x (List.mem_of_mem_take hx)) ha.byt
  have HE : Hid (((strOfNums (ys.take n)).toList == (strOfNums xs).toList) = decide (ys.take n = xs)) := he
  clear he
  clear ha hb
  go_enter Try.func22, Try.ntmps22
  go_wp2
  go_region
  go_wp2
  go_ret
  exact ⟨by rw [← HE.out]; rfl, (Below.refl _ _).drew⟩

theorem pre_any (ao bo : Option Addr) (n c m d : Nat) (xs ys : List Int) (w : World) (ha : Rd w ao n c xs) (hb : Rd w bo m d ys) :
    Calls Try.prog 22 #[.slice ao n c, .slice bo m d] w fun e w' => e = .returned (.bool (decide (xs <+: ys))) ∧ Below w.heap.size w w' := by
  have h1 := ha.len
  have h2 := hb.len
  by_cases hn : n ≤ m
  · refine (pre_yes ao bo n c m d xs ys w ha hb hn).mono fun e w' ⟨h, k⟩ => ⟨?_, k⟩
    rw [h]
    have : ys.take n = xs ↔ xs <+: ys := by rw [List.prefix_iff_eq_take, h1]; exact eq_comm
    rw [decide_eq_decide.2 this]
  · refine (pre_no ao bo n c m d w (by omega)).mono fun e w' ⟨h, k⟩ => ⟨?_, k⟩
    rw [h, decide_eq_false]
    intro hp
    have := hp.length_le
    omega

end Go.Proofs.Ytmkjpfjlohkdoaa
