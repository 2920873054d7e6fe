/- Write. -/
import Derived.Test.YtebkgmjmjmaleaaWMixed
import Derived.Laws.CopyRow
import Derived.Deep.RegionLaw
namespace Go.Proofs.Ytebkgmjmjmaleaa
open Go.RowKit

theorem Rd.sub {w : World} {ao : Option Addr} {n c : Nat} {xs : List Int} (h : Rd w ao n c xs) (p m : Nat) (hs : p + m ≤ n) :
    Rd w (if c = p then ao else Option.map (fun x => x.add p) ao) m (c - p) ((xs.drop p).take m) := by
  have hl := h.len
  have hle := h.le
  refine ⟨by simp; omega, by omega, ?_, ?_, fun x hx => h.byt x (List.mem_of_mem_drop (List.mem_of_mem_take hx))⟩
  · intro e
    cases ao with
    | none => have := h.nul rfl; omega
    | some ad => by_cases hc : c = p <;> simp [hc] at e
  · intro ad had j hj
    rw [if_neg (by omega)] at had
    obtain ⟨b, off, rfl, hcell⟩ := h.plain (by omega)
    simp only [Option.map_some, Option.some.injEq] at had
    subst had
    rw [Addr.add_lit, Addr.add_lit, Nat.add_assoc, hcell (p + j) (by omega)]
    simp [List.getD, show j < m from by omega]

/-- Block R is a hash of the bytes xs, that long. -/
def IsHL (w : World) (R : Nat) (xs : List Int) (q k : Nat) : Prop :=
  xs.length = 64 * q + k ∧ k < 64 ∧ (∀ x ∈ xs, 0 ≤ x ∧ x < 256) ∧ ∃ l : Nat → Int, HRaw w R (absb xs q) l (xs.length : Int) ∧ ∀ j, j < k → l j = xs.getD (64 * q + j) 0

def IsH (w : World) (R : Nat) (xs : List Int) : Prop := ∃ q k, IsHL w R xs q k

theorem IsH.fr {P : Nat → Prop} {w w' : World} {R : Nat} {xs : List Int} (h : IsH w R xs) (hf : Fr P w w') (hb : ¬ P R) : IsH w' R xs := by
  obtain ⟨q, k, h1, h2, h3, l, h4, h5⟩ := h
  exact ⟨q, k, h1, h2, h3, l, h4.fr hf hb, h5⟩

theorem IsH.lt {w : World} {R : Nat} {xs : List Int} (h : IsH w R xs) : R < w.heap.size := by
  obtain ⟨q, k, h1, h2, h3, l, h4, h5⟩ := h
  exact World.rowIs.lt h4

theorem IsH.keep {w w' : World} {R : Nat} {xs : List Int} (h : IsH w R xs) (hb : Below w.heap.size w w') : IsH w' R xs :=
  h.fr (P := fun _ => False) (Fr.ofBelow hb) (fun h => h)

theorem IsH.byt {w : World} {R : Nat} {xs : List Int} (h : IsH w R xs) : ∀ x ∈ xs, 0 ≤ x ∧ x < 256 := by
  obtain ⟨q, k, h1, h2, h3, l, h4, h5⟩ := h
  exact h3

/-- What a copy lays. -/
def lay (l : Nat → Int) (k cnt : Nat) (zs : List Int) (j : Nat) : Int := if k ≤ j ∧ j < k + cnt then zs.getD (j - k) 0 else l j

theorem lay_get (xs zs : List Int) (l : Nat → Int) (q k cnt : Nat) (hx : xs.length = 64 * q + k) (hl : ∀ j, j < k → l j = xs.getD (64 * q + j) 0) (j : Nat) (hj : j < k + cnt) :
    lay l k cnt zs j = (xs ++ zs.take cnt).getD (64 * q + j) 0 := by
  unfold lay
  by_cases h : k ≤ j
  · rw [if_pos ⟨h, hj⟩]
    simp only [List.getD]
    rw [List.getElem?_append_right (by omega), List.getElem?_take, if_pos (by omega)]
    congr 2
    omega
  · rw [if_neg (by omega), hl j (by omega)]
    simp only [List.getD]
    rw [List.getElem?_append_left (by omega)]

theorem blk_eq (X : List Int) (q : Nat) (f : Nat → Int) (h : ∀ j, j < 64 → f j = X.getD (64 * q + j) 0) : row (fun j => .int .u8 (f j)) 64 = blkv (blk X q) :=
  row_congr _ _ _ (fun j hj => by
    rw [h j hj]
    simp only [List.getD, blk, List.getElem?_take, List.getElem?_drop, if_pos hj])

theorem blk_byt (X : List Int) (q : Nat) (h : ∀ x ∈ X, 0 ≤ x ∧ x < 256) : ∀ x ∈ blk X q, 0 ≤ x ∧ x < 256 :=
  fun x hx => h x (List.mem_of_mem_drop (List.mem_of_mem_take hx))

theorem take_byt {xs zs : List Int} (cnt : Nat) (h : ∀ x ∈ xs, 0 ≤ x ∧ x < 256) (h2 : ∀ x ∈ zs, 0 ≤ x ∧ x < 256) : ∀ x ∈ xs ++ zs.take cnt, 0 ≤ x ∧ x < 256 := by
  intro x hx
  rcases List.mem_append.1 hx with h' | h'
  · exact h x h'
  · exact h2 x (List.mem_of_mem_take h')

/-- A block that is not full yet. -/
theorem next_part {w : World} {R : Nat} {xs zs : List Int} {l : Nat → Int} {q k cnt : Nat} (hx : xs.length = 64 * q + k) (hc : cnt ≤ zs.length) (hb : ∀ x ∈ xs, 0 ≤ x ∧ x < 256) (hb2 : ∀ x ∈ zs, 0 ≤ x ∧ x < 256) (hl : ∀ j, j < k → l j = xs.getD (64 * q + j) 0)
    (h64 : k + cnt < 64) (h : HRaw w R (absb xs q) (lay l k cnt zs) ((xs.length : Int) + cnt)) : IsH w R (xs ++ zs.take cnt) := by
  have hlen : (xs ++ zs.take cnt).length = xs.length + cnt := by simp; omega
  refine ⟨q, k + cnt, by omega, h64, take_byt cnt hb hb2, lay l k cnt zs, ?_, fun j hj => lay_get xs zs l q k cnt hx hl j hj⟩
  rw [absb_app _ _ _ (by omega), hlen]
  push_cast
  exact h

/-- A block that is full. -/
theorem next_full {w : World} {R : Nat} {xs zs : List Int} {l' : Nat → Int} {q k cnt : Nat} (hx : xs.length = 64 * q + k) (hc : cnt ≤ zs.length) (hb : ∀ x ∈ xs, 0 ≤ x ∧ x < 256) (hb2 : ∀ x ∈ zs, 0 ≤ x ∧ x < 256)
    (h64 : k + cnt = 64) (h : HRaw w R (mix (absb xs q) (blk (xs ++ zs.take cnt) q)) l' ((xs.length : Int) + cnt)) : IsH w R (xs ++ zs.take cnt) := by
  have hlen : (xs ++ zs.take cnt).length = xs.length + cnt := by simp; omega
  refine ⟨q + 1, 0, by omega, by omega, take_byt cnt hb hb2, l', ?_, fun j hj => by omega⟩
  rw [absb, absb_app _ _ q (by omega), hlen]
  push_cast
  exact h

theorem lay_row {s : St} {l : Nat → Int} {n : Int} {k cnt : Nat} {zs : List Int} (h64 : k + cnt ≤ 64) (j : Nat) : (if 5 + k ≤ j ∧ j < 5 + k + cnt then Value.int .u8 (zs.getD (j - (5 + k)) 0) else hcells s l n j) = hcells s (lay l k cnt zs) n j := by
  unfold hcells lay
  by_cases h : 5 + k ≤ j ∧ j < 5 + k + cnt
  · rw [if_pos h, if_neg (by omega), if_pos (by omega), if_pos (by omega)]
    congr 2
    omega
  · rw [if_neg h]
    by_cases h5 : j < 5
    · rw [if_pos h5, if_pos h5]
    · rw [if_neg h5, if_neg h5]
      by_cases h69 : j < 69
      · rw [if_pos h69, if_pos h69, if_neg (by omega)]
      · rw [if_neg h69, if_neg h69]

theorem size5 : (Try.prog.info? 5).map (·.size) = some 1 := by
  obtain ⟨i0, hi, hz0, hz1, hz2⟩ := info_parts Try.info5
  simp [hi, hz1]

theorem step_copy {ops : Array Oper} {o : Oper} {a : Act} {w : World} {K : Act → World → Prop} {Q : Exit → Act → World → Prop} {E : Prop} (hgd : o.guard = none) (d s : Operand)
    (ho : o.op = .call { callee := .builtin .copy, args := #[d, s], argTypes := #[22, 22] }) (R k n c cnt : Nat) (ad : Addr) (dl dc : Nat) (hd : a.eval d = .slice (some ⟨R, 5 + k, none⟩) dl dc) (hs : a.eval s = .slice (some ad) n c)
    (hdl : dl = 64 - k) (hcnt : cnt = min n (64 - k)) (hk : k < 64) {st : St} {l : Nat → Int} {sz : Int} (hrow : HRaw w R st l sz) {zs : List Int} (hr : Rd w (some ad) n c zs)
    (h : ∀ w', HRaw w' R st (lay l k cnt zs) sz → Fr (fun b => b = R) w w' → K (a.put o.dst (.int .i64 cnt)) w') :
    if Region.wanted o (yielded ops a.tmps) = true then Oper.wp Try.prog o a w K Q else E := by
  have hw : Region.wanted o (yielded ops a.tmps) = true := by simp [Region.wanted, hgd]
  rw [if_pos hw]
  have hzl := hr.len
  obtain ⟨cur, hg, hn, hc⟩ := hrow
  have hcs : ((zs.take cnt).map (Value.int .u8)).length = cnt := by simp; omega
  have hsrc : ∀ j v, ((zs.take cnt).map (Value.int .u8))[j]? = some v → w.cell? (ad.add j) = some v := fun j v hv => by
    have hj : j < cnt := by
      have := (List.getElem?_eq_some_iff.1 hv).1
      omega
    refine hr.cellsOf ad rfl j v ?_
    rw [← hv, List.getElem?_map, List.getElem?_map, List.getElem?_take, if_pos hj]
  have hrun := run_copy_row (P := Try.prog) w 22 22 o.type 5 R (5 + k) dl dc ad n c cur 45 ((zs.take cnt).map (Value.int .u8)) Try.underlying22 size5 hg (by rw [hcs, hcnt, hdl]) hsrc (by rw [hcs]; omega) (ints_oneCell _ _)
  unfold Oper.wp
  simp only [execOp, ho, resolve, invoke, builtin]
  simp [hd, hs, hrun, Result.andThen]
  rw [show min cnt zs.length = cnt by omega]
  refine h _ ?_ ((Fr.refl (fun b => b = R) w).setRow rfl _)
  refine World.rowIs.congr (f := fun j => if 5 + k ≤ j ∧ j < 5 + k + cnt then Value.int .u8 (zs.getD (j - (5 + k)) 0) else hcells st l sz j) ?_ (fun j _ => lay_row (by omega) j)
  refine ⟨_, setRow_heap w R cur _ 45 _ hg, ?_, fun i hi => ?_⟩
  · simp; omega
  · have hl0 : cur.toList.length = 70 := by simpa using hn
    have hlt : (List.take cnt (List.map (Value.int .u8) zs)).length = cnt := by simp; omega
    have hl1 : (List.take (5 + k) cur.toList).length = 5 + k := by simp; omega
    simp only [List.getElem?_toArray]
    by_cases h1 : i < 5 + k
    · rw [if_neg (by omega), List.getElem?_append_left (by omega), List.getElem?_take, if_pos h1]
      simpa using hc i hi
    · by_cases h2 : i < 5 + k + cnt
      · rw [if_pos (by omega), List.getElem?_append_right (by omega), List.getElem?_append_left (by omega), hl1, List.getElem?_take, if_pos (by omega), List.getElem?_map, List.getElem?_eq_getElem (by omega)]
        simp [List.getD, List.getElem?_eq_getElem (show i - (5 + k) < zs.length by omega)]
      · rw [if_neg (by omega), List.getElem?_append_right (by omega), List.getElem?_append_right (by omega), hl1, hlt, List.getElem?_drop, show 5 + k + cnt + (i - (5 + k) - cnt) = i by omega]
        simpa using hc i hi

end Go.Proofs.Ytebkgmjmjmaleaa
