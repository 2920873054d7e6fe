/- The walk of SumFlips. -/
import Derived.Test.YtlollkkhogofoaaWSums
import Derived.Test.YtlollkkhogofoaaFlip
import Derived.Laws.OwnMore
import Derived.Deep.Onto
namespace Go.Proofs.Ytlollkkhogofoaa
open Go.RowKit

/-- Bytes by their places. -/
def lst (n : Nat) (G : Nat → Nat) : List Int := (List.range n).map (fun j => ((G j : Nat) : Int))

theorem lst_len (n : Nat) (G : Nat → Nat) : (lst n G).length = n := by simp [lst]

theorem lst_nat (n : Nat) (G : Nat → Nat) : nat (lst n G) = (List.range n).map G := by
  unfold nat lst
  rw [List.map_map]
  exact List.map_congr_left (fun j _ => by simp)

theorem lst_get (n : Nat) (G : Nat → Nat) (j : Nat) (hj : j < n) : (lst n G).getD j 0 = (G j : Int) := by simp [lst, List.getD, hj]

theorem lst_byt (n : Nat) (G : Nat → Nat) (h : ∀ j, G j < 256) : ∀ x ∈ lst n G, 0 ≤ x ∧ x < 256 := by
  intro x hx
  obtain ⟨j, _, rfl⟩ := List.mem_map.1 hx
  have := h j
  omega

theorem lst_of (ys : List Int) (n : Nat) (hl : ys.length = n) (hb : ∀ x ∈ ys, 0 ≤ x ∧ x < 256) : ys = lst n (fun j => (ys.getD j 0).toNat) := by
  apply List.ext_getElem?
  intro j
  by_cases hj : j < n
  · have h1 := getD_byt ys hb j
    have h2 : j < ys.length := by omega
    simp only [List.getD, List.getElem?_eq_getElem h2, Option.getD_some] at h1
    simp [lst, hj, List.getD, h2]
    omega
  · simp [lst, hj]
    omega

theorem lst_set (n : Nat) (G : Nat → Nat) (k v : Nat) : ((lst n G).map (Value.int .u8)).set k (.int .u8 (v : Int)) = (lst n (fun j => if j = k then v else G j)).map (Value.int .u8) := by
  apply List.ext_getElem?
  intro j
  rw [List.getElem?_set]
  by_cases hj : j < n
  · by_cases e : k = j
    · subst e; simp [lst, hj]
    · have e' : ¬ j = k := fun h => e h.symm
      simp [lst, hj, e, e']
  · by_cases e : k = j
    · subst e; simp [lst, hj]
    · simp [lst, hj, e]

/-- The two rows of the call's own. -/
structure FS (w wr : World) (g1 c1 g2 c2 n : Nat) (X Y : Nat → Nat) : Prop where
  x : wr.ownsRow w.heap.size 5 1 (.slice (some ⟨g1, 0, none⟩) n c1) n ((lst n X).map (Value.int .u8))
  y : wr.ownsRow w.heap.size 5 1 (.slice (some ⟨g2, 0, none⟩) n c2) n ((lst n Y).map (Value.int .u8))
  ne : g1 ≠ g2
  bx : ∀ j, X j < 256
  hy : ∀ j, Y j < 256
  bel : Below w.heap.size w wr

section
variable {w wr w' : World} {g1 c1 g2 c2 n : Nat} {X Y : Nat → Nat}

theorem FS.keep (h : FS w wr g1 c1 g2 c2 n X Y) (hb : Below wr.heap.size wr w') : FS w w' g1 c1 g2 c2 n X Y :=
  ⟨own_keep h.x hb, own_keep h.y hb, h.ne, h.bx, h.hy, h.bel.trans (hb.mono h.bel.size)⟩

theorem FS.cx (h : FS w wr g1 c1 g2 c2 n X Y) (k : Nat) (hk : k < n) : wr.cell? ⟨g1, k, none⟩ = some (.int .u8 (X k : Int)) ∧ wr.frozen? ⟨g1, k, none⟩ = false :=
  ⟨by rw [h.x.cellAt k (by omega)]; simp [lst, hk], h.x.frozenAt k⟩

theorem FS.cy (h : FS w wr g1 c1 g2 c2 n X Y) (k : Nat) (hk : k < n) : wr.cell? ⟨g2, k, none⟩ = some (.int .u8 (Y k : Int)) ∧ wr.frozen? ⟨g2, k, none⟩ = false :=
  ⟨by rw [h.y.cellAt k (by omega)]; simp [lst, hk], h.y.frozenAt k⟩

theorem FS.setX (h : FS w wr g1 c1 g2 c2 n X Y) (k v : Nat) (hv : v < 256) : FS w (wr.setCell ⟨g1, k, none⟩ (.int .u8 (v : Int))) g1 c1 g2 c2 n (fun j => if j = k then v else X j) Y := by
  obtain ⟨s1, s2⟩ := h.x.stored k (.int .u8 (v : Int))
  rw [lst_set] at s1
  refine ⟨s1, h.y.kept s2 (.inr (fun e => h.ne (by cases e; rfl))), h.ne, fun j => ?_, h.hy, h.bel.grown s2 h.bel.size (fun k hk => by cases hk; exact own_base h.x)⟩
  by_cases e : j = k
  · rw [if_pos e]; exact hv
  · rw [if_neg e]; exact h.bx j

theorem FS.setY (h : FS w wr g1 c1 g2 c2 n X Y) (k v : Nat) (hv : v < 256) : FS w (wr.setCell ⟨g2, k, none⟩ (.int .u8 (v : Int))) g1 c1 g2 c2 n X (fun j => if j = k then v else Y j) := by
  obtain ⟨s1, s2⟩ := h.y.stored k (.int .u8 (v : Int))
  rw [lst_set] at s1
  refine ⟨h.x.kept s2 (.inr (fun e => h.ne (by cases e; rfl))), s1, h.ne, h.bx, fun j => ?_, h.bel.grown s2 h.bel.size (fun k hk => by cases hk; exact own_base h.y)⟩
  by_cases e : j = k
  · rw [if_pos e]; exact hv
  · rw [if_neg e]; exact h.hy j

theorem FS.rx (h : FS w wr g1 c1 g2 c2 n X Y) : Rd wr (some ⟨g1, 0, none⟩) n c1 (lst n X) := Rd.ofOwn h.x (lst_byt n X h.bx)
theorem FS.ry (h : FS w wr g1 c1 g2 c2 n X Y) : Rd wr (some ⟨g2, 0, none⟩) n c2 (lst n Y) := Rd.ofOwn h.y (lst_byt n Y h.hy)

theorem FS.congrY {Y' : Nat → Nat} (h : FS w wr g1 c1 g2 c2 n X Y) (e : ∀ j, Y j = Y' j) : FS w wr g1 c1 g2 c2 n X Y' := by
  rw [show Y' = Y from funext fun j => (e j).symm]
  exact h
end

theorem flips_skip (ao co : Option Addr) (n c m d : Nat) (bit pat : Int) (w : World) (h : 8000 < n ∨ bit < 0 ∨ 8 * (n : Int) ≤ bit ∨ m < n) :
    Calls Try.prog 4 #[.slice ao n c, .int .i64 bit, .int .u32 pat, .slice co m d] w fun e w' => e = .returned (.bool true) ∧ Below w.heap.size w w' := by
  by_cases h1 : 8000 < n
  · have d1 : decide ((8000 : Int) < (n : Int)) = true := by simp; omega
    clear h
    go_enter Try.func4, Try.ntmps4
    go_wp2_with (go_at_call 8; refine (known_any _).mono ?_; rintro e w1 ⟨rfl, hb⟩)
    go_ret
    exact ⟨rfl, hb⟩
  have d1 : decide ((8000 : Int) < (n : Int)) = false := by simp; omega
  by_cases h2 : bit < 0
  · have d2 : decide (bit < 0) = true := by simp; omega
    clear h
    go_enter Try.func4, Try.ntmps4
    go_wp2_with (go_at_call 8; refine (known_any _).mono ?_; rintro e w1 ⟨rfl, hb⟩)
    go_ret
    exact ⟨rfl, hb⟩
  have d2 : decide (bit < 0) = false := by simp; omega
  by_cases h3 : 8 * (n : Int) ≤ bit
  · have d3 : decide (8 * (n : Int) ≤ bit) = true := by simp; omega
    clear h
    go_enter Try.func4, Try.ntmps4
    go_wp2_with (go_at_call 8; refine (known_any _).mono ?_; rintro e w1 ⟨rfl, hb⟩)
    go_ret
    exact ⟨rfl, hb⟩
  · have d3 : decide (8 * (n : Int) ≤ bit) = false := by simp; omega
    have d4 : decide (m < n) = true := by simp; omega
    clear h
    go_enter Try.func4, Try.ntmps4
    go_wp2_with (go_at_call 8; refine (known_any _).mono ?_; rintro e w1 ⟨rfl, hb⟩)
    go_ret
    exact ⟨rfl, hb⟩

end Go.Proofs.Ytlollkkhogofoaa
