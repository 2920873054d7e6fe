/- ShaWPut, ShaWLow, ShaWHash, ShaWSpread. -/
import Derived.Test.YtojgablpjdlegaaGreatDoorM14
import Derived.Test.YtojgablpjdlegaaGreatDoorM02
/- put, Put16, Put32, Put64. -/
namespace Go.Proofs.YtojgablpjdlegaaGreatDoor.Sha
open Go.RowKit

theorem be_length (v : Int) (n : Nat) : (be v n).length = n := by induction n <;> simp [be, *]

theorem be_byt (v : Int) (n : Nat) : ∀ x ∈ be v n, 0 ≤ x ∧ x < 256 := by
  induction n with
  | zero => intro x hx; cases hx
  | succ n ih =>
    intro x hx
    rcases List.mem_cons.1 hx with rfl | hx
    · exact ⟨Int.emod_nonneg _ (by decide), Int.emod_lt_of_pos _ (by decide)⟩
    · exact ih x hx

theorem be_pred (v : Int) (j : Nat) (hj : 1 ≤ j) : be v j = v / 2 ^ (8 * (j - 1)) % 256 :: be v (j - 1) := by
  obtain ⟨i, rfl⟩ : ∃ i, j = i + 1 := ⟨j - 1, by omega⟩
  rfl

set_option maxRecDepth 100000 in
set_option maxHeartbeats 400000 in
theorem put_any (ao : Option Addr) (n c s : Nat) (v : Int) (xs : List Int) (w : World) (h : Rd w ao n c xs) (hn : n ≤ 140737488351232) (hs : s ≤ 8) (hs1 : 1 ≤ s) :
    Calls Tryz.prog 173 #[.slice ao n c, .int .i64 v, .int .i64 s] w fun e w' => e = .returned (.slice (some ⟨w.heap.size, 0, none⟩) (n + s) (n + s)) ∧
      w'.ownsRow w.heap.size 5 1 (.slice (some ⟨w.heap.size, 0, none⟩) (n + s) (n + s)) (n + s) ((xs ++ be v s).map (Value.int .u8)) ∧ Below w.heap.size w w' := by
  obtain ⟨i0, hi, hz0, hz1, hz2⟩ := info_parts Tryz.info5
  go_enter Tryz.func173, Tryz.ntmps173
  go_wp2_with (first | (go_at_call 200; refine (withRoom_any ao n c s xs w h hn (by omega)).mono ?_; rintro e w1 ⟨rfl, hown, hbel⟩))
  go_loopw [7, 8] (fun o sh wr => ∃ j k : Nat, j + k = s ∧ sh = .int .i64 (8 * ((j : Int) - 1)) ∧ o = .slice (some ⟨w.heap.size, 0, none⟩) (n + k) (n + s) ∧
      ∃ ys : List Int, ys ++ be v j = be v s ∧ wr.ownsRow w.heap.size 5 1 (.slice (some ⟨w.heap.size, 0, none⟩) (n + k) (n + s)) (n + k) ((xs ++ ys).map (Value.int .u8)) ∧ Below w.heap.size w wr)
    (fun _ sh _ => (intOf sh + 8).toNat)
  case atStart => exact ⟨s, 0, by omega, rfl, rfl, [], by simp, by simpa using hown, hbel⟩
  case round =>
    obtain ⟨j, k, hjk, rfl, rfl, ys, hys, hown', hbel'⟩ := hrel
    have Hys : Hid (ys ++ be v j = be v s) := hys
    clear hys
    by_cases hj : 1 ≤ j
    · go_wp2_with (first | (at_builtin; refine wpList_append_fits _ rfl _ _ 22 rfl w.heap.size 5 i0 1 Tryz.underlying22 hi hz1 w.heap.size (n + k) (n + s) _ rfl (hown'.alloc _) ⟨wr.heap.size, 0, none⟩ 1 1 [_] rfl rfl (cell_one_new _ _ _) ?_ ?_ ?_))
      · intro u hu; simp at hu; subst hu; rfl
      · omega
      · intro w2 hown2 hgrow2
        have hb2 : Below w.heap.size w w2 := (hbel'.alloc hbel'.size _).grown hgrow2 (by have := hbel'.size; simp; omega) (fun q hq => by cases hq; exact Nat.le_refl _)
        have hown3 : w2.ownsRow w.heap.size 5 1 (.slice (some ⟨w.heap.size, 0, none⟩) (n + (k + 1)) (n + s)) (n + (k + 1)) ((xs ++ (ys ++ [v / 2 ^ (8 * (j - 1)) % 256])).map (Value.int .u8)) := by
          simpa [Nat.add_assoc] using hown2
        clear hown2 hgrow2 hown' hbel' hown hbel
        go_wp2
        go_roundw
        case rel => exact ⟨j - 1, k + 1, by omega, by go_num, by simp [Nat.add_assoc], ys ++ [v / 2 ^ (8 * (j - 1)) % 256], by rw [← Hys.out, be_pred v j hj]; simp, hown3, hb2⟩
        case measure => simp [intOf]; omega
    · obtain rfl : j = 0 := by omega
      obtain rfl : k = s := by omega
      go_wp2
      go_ret
      have e : ys = be v k := by simpa [be] using Hys.out
      subst e
      exact ⟨rfl, hown', hbel'⟩

theorem put64_any (ao : Option Addr) (n c : Nat) (v : Int) (xs : List Int) (w : World) (h : Rd w ao n c xs) (hn : n ≤ 140737488351232) :
    Calls Tryz.prog 143 #[.slice ao n c, .int .i64 v] w fun e w' => e = .returned (.slice (some ⟨w.heap.size, 0, none⟩) (n + 8) (n + 8)) ∧
      w'.ownsRow w.heap.size 5 1 (.slice (some ⟨w.heap.size, 0, none⟩) (n + 8) (n + 8)) (n + 8) ((xs ++ be v 8).map (Value.int .u8)) ∧ Below w.heap.size w w' := by
  go_enter Tryz.func143, Tryz.ntmps143
  go_wp2_with (first | (go_at_call 173; refine (put_any ao n c 8 v xs w h hn (by omega) (by omega)).mono ?_; rintro e w1 ⟨rfl, hown, hbel⟩))
  go_ret
  exact ⟨rfl, hown, hbel⟩

end Go.Proofs.YtojgablpjdlegaaGreatDoor.Sha

/- turned, left, part, word. -/
namespace Go.Proofs.YtojgablpjdlegaaGreatDoor.Sha
open Go.RowKit

theorem turned_any (v : Int) (n : Nat) (w : World) (h : n ≤ 31) : Calls Tryz.prog 142 #[.int .u32 v, .int .i64 n] w fun e w' => e = .returned (.int .u32 (rotl v n)) ∧ w' = w.drew := by
  go_enter Tryz.func142, Tryz.ntmps142
  go_wp2
  go_region
  go_wp2
  go_ret
  exact ⟨rfl, rfl⟩

theorem left_any (v : Int) (n : Nat) (w : World) (h : n ≤ 31) : Calls Tryz.prog 110 #[.int .u32 v, .int .u64 n] w fun e w' => e = .returned (.int .u32 (rotl v n)) ∧ w' = w := by
  go_enter Tryz.func110, Tryz.ntmps110
  go_wp2
  go_ret
  exact ⟨rfl, rfl⟩

theorem part_any (t : Nat) (b c d : Int) (w : World) (h : t < 80) : Calls Tryz.prog 141 #[.int .i64 t, .int .u32 b, .int .u32 c, .int .u32 d] w fun e w' => e = .returned (.tuple #[.int .u32 (fF t b c d), .int .u32 (kK t)]) ∧ w' = w := by
  by_cases h1 : t < 20
  · go_enter Tryz.func141, Tryz.ntmps141
    go_wp2
    go_ret2
    exact ⟨by simp [fF, kK, h1], rfl⟩
  by_cases h2 : t < 40
  · go_enter Tryz.func141, Tryz.ntmps141
    go_wp2
    go_ret2
    exact ⟨by simp [fF, kK, h1, h2, x3], rfl⟩
  by_cases h3 : t < 60
  · go_enter Tryz.func141, Tryz.ntmps141
    go_wp2
    go_ret2
    exact ⟨by simp [fF, kK, h1, h2, h3], rfl⟩
  · go_enter Tryz.func141, Tryz.ntmps141
    go_wp2
    go_ret2
    exact ⟨by simp [fF, kK, h1, h2, h3, x3], rfl⟩

theorem word_num (a b c d : Int) (a0 : 0 ≤ a) (a1 : a < 256) (b0 : 0 ≤ b) (b1 : b < 256) (c0 : 0 ≤ c) (c1 : c < 256) (d0 : 0 ≤ d) (d1 : d < 256) :
    bits .or .u32 (bits .or .u32 (bits .or .u32 (a * 16777216) (b * 65536)) (c * 256)) d = a * 16777216 + b * 65536 + c * 256 + d := by
  have hw : ∀ n : Int, 0 ≤ n → n < 2 ^ 32 → IntKind.u32.wrap n = n := fun n h0 h1 => by
    have e : IntKind.u32.wrap n = n % 4294967296 := by simp [IntKind.wrap, IntKind.bits, IntKind.signed]
    rw [e]; omega
  rw [bits_join .u32 32 (by decide) hw 24 (a * 16777216) (b * 65536) (by omega) (by omega) (by omega) (by omega) (by omega) (by omega)]
  rw [bits_join .u32 32 (by decide) hw 16 (a * 16777216 + b * 65536) (c * 256) (by omega) (by omega) (by omega) (by omega) (by omega) (by omega)]
  rw [bits_join .u32 32 (by decide) hw 8 (a * 16777216 + b * 65536 + c * 256) d (by omega) (by omega) (by omega) (by omega) (by omega) (by omega)]

theorem word_any (B o n c : Nat) (w : World) (x0 x1 x2 x3 : Int) (hn : 4 ≤ n) (h0 : w.cell? ⟨B, o, none⟩ = some (.int .u8 x0)) (h1 : w.cell? ⟨B, o + 1, none⟩ = some (.int .u8 x1)) (h2 : w.cell? ⟨B, o + 2, none⟩ = some (.int .u8 x2)) (h3 : w.cell? ⟨B, o + 3, none⟩ = some (.int .u8 x3))
    (b0 : 0 ≤ x0 ∧ x0 < 256) (b1 : 0 ≤ x1 ∧ x1 < 256) (b2 : 0 ≤ x2 ∧ x2 < 256) (b3 : 0 ≤ x3 ∧ x3 < 256) :
    Calls Tryz.prog 109 #[.slice (some ⟨B, o, none⟩) n c] w fun e w' => e = .returned (.int .u32 (x0 * 16777216 + x1 * 65536 + x2 * 256 + x3)) ∧ w' = w.drew := by
  have HE : Hid _ := word_num x0 x1 x2 x3 b0.1 b0.2 b1.1 b1.2 b2.1 b2.2 b3.1 b3.2
  obtain ⟨p0, q0⟩ := b0
  obtain ⟨p1, q1⟩ := b1
  obtain ⟨p2, q2⟩ := b2
  obtain ⟨p3, q3⟩ := b3
  go_enter Tryz.func109, Tryz.ntmps109
  go_wp2
  go_region
  go_wp2
  go_ret
  exact ⟨by rw [← HE.out]; rfl, rfl⟩

end Go.Proofs.YtojgablpjdlegaaGreatDoor.Sha

/- A hash in memory: New, Len, Twin, id. -/
namespace Go.Proofs.YtojgablpjdlegaaGreatDoor.Sha
open Go.RowKit

/-- A hash's cells. -/
def hcells (s : St) (l : Nat → Int) (n : Int) (j : Nat) : Value := if j < 5 then .int .u32 (s.nth j) else if j < 69 then .int .u8 (l (j - 5)) else .int .i64 n

/-- Block R is a hash of these words, these bytes of a block, and this size. -/
def HRaw (w : World) (R : Nat) (s : St) (l : Nat → Int) (n : Int) : Prop := w.rowIs R 175 70 (hcells s l n)

theorem HRaw.size {w : World} {R : Nat} {s : St} {l : Nat → Int} {n : Int} (h : HRaw w R s l n) : w.cell? ⟨R, 69, none⟩ = some (.int .i64 n) := World.rowIs.cell h (i := 69) (by omega)

theorem HRaw.word {w : World} {R : Nat} {s : St} {l : Nat → Int} {n : Int} (h : HRaw w R s l n) (j : Nat) (hj : j < 5) : w.cell? ⟨R, j, none⟩ = some (.int .u32 (s.nth j)) := by
  have := World.rowIs.cell h (i := j) (by omega)
  simpa [hcells, hj] using this

theorem HRaw.fr {P : Nat → Prop} {w w' : World} {R : Nat} {s : St} {l : Nat → Int} {n : Int} (h : HRaw w R s l n) (hf : Fr P w w') (hb : ¬ P R) : HRaw w' R s l n := rowIs_fr h hf hb

theorem HRaw.keep {w w' : World} {R : Nat} {s : St} {l : Nat → Int} {n : Int} (h : HRaw w R s l n) (hb : Below w.heap.size w w') : HRaw w' R s l n := h.of_block (hb.block R (World.rowIs.lt h))

theorem zinfo51 : (Tryz.prog.info? 201).map (fun i => (i.zero, i.size)) = some (some (.agg (Array.replicate 80 (Value.int .u32 0))), 80) := by kernel_rfl
theorem zinfo45 : (Tryz.prog.info? 175).map (fun i => (i.zero, i.size)) = some (some (.agg (Array.replicate 5 (Value.int .u32 0) ++ Array.replicate 64 (Value.int .u8 0) ++ #[Value.int .i64 0])), 70) := by kernel_rfl
theorem zinfo43 : (Tryz.prog.info? 173).map (fun i => (i.zero, i.size)) = some (some (.agg (Array.replicate 64 (Value.int .u8 0))), 64) := by kernel_rfl
theorem zinfo25 : (Tryz.prog.info? 27).map (fun i => (i.zero, i.size)) = some (some (.agg (Array.replicate 20 (Value.int .u8 0))), 20) := by kernel_rfl
theorem zinfo24 : (Tryz.prog.info? 26).map (fun i => (i.zero, i.size)) = some (some (.agg (Array.replicate 20 (Value.int .u8 0))), 20) := by kernel_rfl
theorem zinfo40 : (Tryz.prog.info? 145).map (fun i => (i.zero, i.size)) = some (some (.agg (Array.replicate 5 (Value.int .u32 0))), 5) := by kernel_rfl

theorem size51 : (Tryz.prog.info? 201).map (·.size) = some 80 := (zero_of_info zinfo51).2
theorem size45 : (Tryz.prog.info? 175).map (·.size) = some 70 := (zero_of_info zinfo45).2
theorem size43 : (Tryz.prog.info? 173).map (·.size) = some 64 := (zero_of_info zinfo43).2
theorem size25 : (Tryz.prog.info? 27).map (·.size) = some 20 := (zero_of_info zinfo25).2
theorem size24 : (Tryz.prog.info? 26).map (·.size) = some 20 := (zero_of_info zinfo24).2
theorem size40 : (Tryz.prog.info? 145).map (·.size) = some 5 := (zero_of_info zinfo40).2

theorem rowIs_rep (w : World) (v : Value) (n : Nat) (t : TypeId) : (w.alloc (.cells (Array.replicate n v) t)).rowIs w.heap.size t n (fun _ => v) := by
  have h := World.rowIs_alloc w (Array.replicate n v) t (fun _ => v) (fun i hi => by simp at hi; simp [hi])
  simpa using h

theorem rowIs_rep2 (w : World) (v : Value) (n : Nat) (t t' : TypeId) : ((w.alloc (.cells (Array.replicate n v) t')).alloc (.cells (Array.replicate n v) t)).rowIs (w.heap.size + 1) t n (fun _ => v) := by
  have h := rowIs_rep (w.alloc (.cells (Array.replicate n v) t')) v n t
  simpa using h

def h0cells : Array Value := #[.int .u32 1732584193, .int .u32 4023233417, .int .u32 2562383102, .int .u32 271733878, .int .u32 3285377520] ++ (Array.replicate 64 (Value.int IntKind.u8 0)).push (Value.int IntKind.i64 0)

theorem h0_get (i : Nat) (hi : i < 70) : h0cells[i]? = some (hcells H0 (fun _ => 0) 0 i) := by
  unfold h0cells hcells
  by_cases h5 : i < 5
  · rcases i with _ | _ | _ | _ | _ | i <;> first | rfl | omega
  · rw [Array.getElem?_append_right (by simp; omega)]
    simp only [List.size_toArray, List.length_cons, List.length_nil]
    rw [Array.getElem?_push]
    by_cases h69 : i < 69
    · simp [h5, h69, Array.getElem?_replicate]
      rw [if_neg (by omega), if_pos (by omega)]
    · obtain rfl : i = 69 := by omega
      rfl

theorem new_any (w : World) : Calls Tryz.prog 86 #[] w fun e w' => e = .returned (.pointer (some ⟨w.heap.size, 0, none⟩)) ∧ HRaw w' w.heap.size H0 (fun _ => 0) 0 ∧ Below w.heap.size w w' := by
  have z45 := (zero_of_info zinfo45).1
  go_enter Tryz.func86, Tryz.ntmps86
  go_wp2
  go_ret
  refine ⟨rfl, ?_, (Below.refl _ _).alloc (Nat.le_refl _) _⟩
  exact World.rowIs_alloc w h0cells 175 _ h0_get

theorem len_any (R : Nat) (s : St) (l : Nat → Int) (n : Int) (w : World) (h : HRaw w R s l n) : Calls Tryz.prog 233 #[.pointer (some ⟨R, 0, none⟩)] w fun e w' => e = .returned (.int .i64 n) ∧ w' = w := by
  have c := h.size
  clear h
  go_enter Tryz.func233, Tryz.ntmps233
  go_wp2
  go_ret
  exact ⟨rfl, rfl⟩

theorem hcells_one (s : St) (l : Nat → Int) (n : Int) (j : Nat) : (hcells s l n j).oneCell' = true := by
  unfold hcells
  split
  · rfl
  · split <;> rfl

def z45c : Array Value := Array.replicate 5 (Value.int .u32 0) ++ Array.replicate 64 (Value.int .u8 0) ++ #[Value.int .i64 0]

theorem zero45 (w : World) : (zeroValue 175).run Tryz.prog w = .ok (.agg z45c) w := (zero_of_info zinfo45).1 w

theorem z45_row (w : World) : (w.alloc (.cells z45c 175)).rowIs w.heap.size 175 70 (fun i => z45c.getD i undef) :=
  World.rowIs_alloc w z45c 175 _ (fun i hi => by simp [Array.getD, hi])

theorem twin_any (R : Nat) (s : St) (l : Nat → Int) (n : Int) (w : World) (h : HRaw w R s l n) : Calls Tryz.prog 106 #[.pointer (some ⟨R, 0, none⟩)] w fun e w' => e = .returned (.pointer (some ⟨w.heap.size, 0, none⟩)) ∧ HRaw w' w.heap.size s l n ∧ Below w.heap.size w w' := by
  have z45 := zero45
  have hz := z45_row w
  go_enter Tryz.func106, Tryz.ntmps106
  go_wp2_with (first
    | (refine wpList_ld0 rfl 175 _ rfl R rfl _ h 70 (by omega) Tryz.underlying175 rfl size45 ?_; clear h)
    | (refine wpList_st rfl 175 _ _ rfl w.heap.size rfl (hcells s l n) rfl hz size45 (fun j => hcells_one _ _ _ _) ?_; intro w2 h2 f2))
  go_ret
  refine ⟨rfl, h2, ?_⟩
  exact ((Fr.refl (fun k => k = w.heap.size) w).alloc _ |>.trans f2 (fun _ _ e => e)).below _ (Nat.le_refl _) (fun i hi e => by omega)

theorem byt_row (s : St) (k : Nat) (f : Nat → Value) {w : World} {b : Nat} (h : w.rowIs b 27 20 (fun j => if j < k then .int .u8 (byt s j) else f j)) : (w.setCell ⟨b, k, none⟩ (.int .u8 (byt s k))).rowIs b 27 20 (fun j => if j < k + 1 then .int .u8 (byt s j) else f j) :=
  (h.set k _).congr (fun i _ => by
    by_cases e : i = k
    · subst e; simp
    · simp only [e, if_false]
      by_cases h : i < k
      · simp [h, show i < k + 1 by omega]
      · simp [h, show ¬ i < k + 1 by omega])

def sumv (s : St) : Value := row (fun j => .int .u8 (byt s j)) 20

set_option maxHeartbeats 400000 in
theorem id_any (R : Nat) (s : St) (l : Nat → Int) (n : Int) (w : World) (h : HRaw w R s l n) : Calls Tryz.prog 108 #[.pointer (some ⟨R, 0, none⟩)] w fun e w' => e = .returned (sumv s) ∧ Below w.heap.size w w' := by
  go_enter Tryz.func108, Tryz.ntmps108
  go_wp2
  go_loopw [5] (fun i wr => ∃ k : Nat, k ≤ 20 ∧ i = .int .i64 k ∧ wr.rowIs (w.heap.size + 1) 27 20 (fun j => if j < k then .int .u8 (byt s j) else .int .u8 0) ∧ wr.rowIs w.heap.size 27 20 (fun j => .int .u8 0) ∧ Below w.heap.size w wr)
    (fun i _ => (20 - intOf i).toNat)
  case atStart =>
    refine ⟨0, by omega, rfl, ?_, ?_, ((Below.refl _ _).alloc (Nat.le_refl _) _).alloc (by simp) _⟩
    · exact rowIs_rep2 w (Value.int .u8 0) 20 27 27
    · exact (rowIs_rep w (Value.int .u8 0) 20 27).alloc _
  case round =>
    obtain ⟨k, hk, rfl, h1, h2, hb⟩ := hrel
    by_cases hlt : k < 20
    · have hR := h.keep hb
      have cw := hR.word (k / 4) (by omega)
      have ct := h1.cell hlt
      have ft := h1.frozen k
      have h3 := byt_row s k _ h1
      have hb' : Below w.heap.size w (wr.setCell ⟨w.heap.size + 1, k, none⟩ (.int .u8 (byt s k))) := hb.setCell (by simp) _
      have h4 : (wr.setCell ⟨w.heap.size + 1, k, none⟩ (.int .u8 (byt s k))).rowIs w.heap.size 27 20 (fun j => .int .u8 0) := h2.setOther (by simp) _
      clear h hR h1 h2 hb
      go_wp2
      go_roundw
      case rel => exact ⟨k + 1, by omega, by go_num, h3, h4, hb'⟩
      case measure => simp [intOf]; omega
    · obtain rfl : k = 20 := by omega
      clear h
      go_wp2_with (first
        | (refine wpList_ld0 rfl 27 _ rfl (w.heap.size + 1) rfl _ h1 20 (by omega) Tryz.underlying27 rfl size25 ?_; clear h1)
        | (refine wpList_st rfl 27 _ _ rfl w.heap.size rfl (fun j => if j < 20 then .int .u8 (byt s j) else .int .u8 0) rfl h2 size25 (fun j => by split <;> rfl) ?_; intro w3 h3 f3))
      refine bodyPost_ret (results_row rfl _ rfl h3 Tryz.underlying27 rfl size25) rfl ⟨?_, ?_⟩
      · rw [sumv, row_congr _ (fun j => .int .u8 (byt s j)) 20 (fun i hi => by simp [hi])]
      · exact hb.trans (f3.below _ hb.size (fun i hi e => by omega))

end Go.Proofs.YtojgablpjdlegaaGreatDoor.Sha

/- spread. -/
namespace Go.Proofs.YtojgablpjdlegaaGreatDoor.Sha
open Go.RowKit

/-- Word j behind the first i bytes. -/
def pw (bs : List Int) (i j : Nat) : Int :=
  match min 4 (i - 4 * j) with
  | 0 => 0
  | 1 => bs.getD (4 * j) 0
  | 2 => bs.getD (4 * j) 0 * 256 + bs.getD (4 * j + 1) 0
  | 3 => bs.getD (4 * j) 0 * 65536 + bs.getD (4 * j + 1) 0 * 256 + bs.getD (4 * j + 2) 0
  | _ => wd bs j

theorem pw_other (bs : List Int) (i j : Nat) (h : j ≠ i / 4) : pw bs (i + 1) j = pw bs i j := by
  unfold pw
  rw [show min 4 (i + 1 - 4 * j) = min 4 (i - 4 * j) by omega]

theorem getD_byt (bs : List Int) (hb : ∀ x ∈ bs, 0 ≤ x ∧ x < 256) (i : Nat) : 0 ≤ bs.getD i 0 ∧ bs.getD i 0 < 256 := by
  by_cases h : i < bs.length
  · simp only [List.getD, List.getElem?_eq_getElem h, Option.getD_some]
    exact hb _ (List.getElem_mem h)
  · simp [List.getD, List.getElem?_eq_none (Nat.not_lt.1 h)]

theorem or8 (x y : Int) (x0 : 0 ≤ x) (x1 : x < 16777216) (y0 : 0 ≤ y) (y1 : y < 256) : bits .or .u32 (x * 256 % 4294967296) y = x * 256 + y := by
  have hw : ∀ n : Int, 0 ≤ n → n < 2 ^ 32 → IntKind.u32.wrap n = n := fun n h0 h1 => by
    have e : IntKind.u32.wrap n = n % 4294967296 := by simp [IntKind.wrap, IntKind.bits, IntKind.signed]
    rw [e]; omega
  rw [show x * 256 % 4294967296 = x * 256 by omega]
  exact bits_join .u32 32 (by decide) hw 8 (x * 256) y (by omega) (by omega) (by omega) (by omega) (by omega) (by omega)

theorem pw_step (bs : List Int) (hb : ∀ x ∈ bs, 0 ≤ x ∧ x < 256) (i : Nat) : pw bs (i + 1) (i / 4) = bits .or .u32 (pw bs i (i / 4) * 256 % 4294967296) (bs.getD i 0) := by
  have b0 := getD_byt bs hb (4 * (i / 4))
  have b1 := getD_byt bs hb (4 * (i / 4) + 1)
  have b2 := getD_byt bs hb (4 * (i / 4) + 2)
  have b3 := getD_byt bs hb (4 * (i / 4) + 3)
  obtain ⟨q, hq⟩ : ∃ q, q = i / 4 := ⟨_, rfl⟩
  rw [← hq] at b0 b1 b2 b3 ⊢
  have hr : i = 4 * q ∨ i = 4 * q + 1 ∨ i = 4 * q + 2 ∨ i = 4 * q + 3 := by omega
  rcases hr with h | h | h | h
  · have e1 : pw bs (i + 1) q = bs.getD (4 * q) 0 := by unfold pw; rw [show min 4 (i + 1 - 4 * q) = 1 by omega]; rfl
    have e0 : pw bs i q = 0 := by unfold pw; rw [show min 4 (i - 4 * q) = 0 by omega]; rfl
    rw [e0, e1, h, or8 _ _ (by omega) (by omega) b0.1 b0.2]
    omega
  · have e1 : pw bs (i + 1) q = bs.getD (4 * q) 0 * 256 + bs.getD (4 * q + 1) 0 := by unfold pw; rw [show min 4 (i + 1 - 4 * q) = 2 by omega]; rfl
    have e0 : pw bs i q = bs.getD (4 * q) 0 := by unfold pw; rw [show min 4 (i - 4 * q) = 1 by omega]; rfl
    rw [e0, e1, h, or8 _ _ b0.1 (by omega) b1.1 b1.2]
  · have e1 : pw bs (i + 1) q = bs.getD (4 * q) 0 * 65536 + bs.getD (4 * q + 1) 0 * 256 + bs.getD (4 * q + 2) 0 := by unfold pw; rw [show min 4 (i + 1 - 4 * q) = 3 by omega]; rfl
    have e0 : pw bs i q = bs.getD (4 * q) 0 * 256 + bs.getD (4 * q + 1) 0 := by unfold pw; rw [show min 4 (i - 4 * q) = 2 by omega]; rfl
    rw [e0, e1, h, or8 _ _ (by omega) (by omega) b2.1 b2.2]
    omega
  · have e1 : pw bs (i + 1) q = wd bs q := by unfold pw; rw [show min 4 (i + 1 - 4 * q) = 4 by omega]; rfl
    have e0 : pw bs i q = bs.getD (4 * q) 0 * 65536 + bs.getD (4 * q + 1) 0 * 256 + bs.getD (4 * q + 2) 0 := by unfold pw; rw [show min 4 (i - 4 * q) = 3 by omega]; rfl
    rw [e0, e1, h, or8 _ _ (by omega) (by omega) b3.1 b3.2]
    simp only [wd]
    omega

theorem pw_end (bs : List Int) (j : Nat) : pw bs 64 j = if j < 16 then sw bs j else 0 := by
  by_cases h : j < 16
  · rw [if_pos h, sw_low bs j h]
    unfold pw
    rw [show min 4 (64 - 4 * j) = 4 by omega]; rfl
  · rw [if_neg h]
    unfold pw
    rw [show min 4 (64 - 4 * j) = 0 by omega]; rfl

theorem pw_zero (bs : List Int) (j : Nat) : pw bs 0 j = 0 := by
  unfold pw
  rw [show min 4 (0 - 4 * j) = 0 by omega]; rfl

/-- A block's bytes, by value. -/
def blkv (bs : List Int) : Value := row (fun j => .int .u8 (bs.getD j 0)) 64

/-- The eighty words, by value. -/
def schv (bs : List Int) : Value := row (fun j => .int .u32 (sw bs j)) 80

theorem cell_ne {w : World} {b i j : Nat} (v : Value) (h : i ≠ j) : (w.setCell ⟨b, i, none⟩ v).cell? ⟨b, j, none⟩ = w.cell? ⟨b, j, none⟩ := by
  unfold World.setCell World.cell?
  simp only [Array.getElem?_modify]
  by_cases hb : (w.heap[b]?).isSome
  · obtain ⟨o, ho⟩ := Option.isSome_iff_exists.1 hb
    cases o <;> simp [ho, h]
  · simp at hb
    simp [hb]

theorem zero51 (w : World) : (zeroValue 201).run Tryz.prog w = .ok (.agg (Array.replicate 80 (Value.int .u32 0))) w := (zero_of_info zinfo51).1 w

theorem pw_row {w : World} {b : Nat} (bs : List Int) (g : Nat → Int) (hg : ∀ j, g j = bs.getD j 0) (hb : ∀ x ∈ bs, 0 ≤ x ∧ x < 256) (i : Nat) (h : w.rowIs b 201 80 (fun j => .int .u32 (pw bs i j))) : (w.setCell ⟨b, i / 4, none⟩ (.int .u32 (bits .or .u32 (pw bs i (i / 4) * 256 % 4294967296) (g i)))).rowIs b 201 80 (fun j => .int .u32 (pw bs (i + 1) j)) :=
  (h.set (i / 4) _).congr (fun j _ => by
    by_cases e : j = i / 4
    · rw [if_pos e, e, pw_step bs hb, hg]
    · rw [if_neg e, pw_other bs i j e])

theorem sw_row {w : World} {b : Nat} (bs : List Int) (t : Nat) (h : w.rowIs b 201 80 (fun j => .int .u32 (if j < t then sw bs j else 0))) : (w.setCell ⟨b, t, none⟩ (.int .u32 (sw bs t))).rowIs b 201 80 (fun j => .int .u32 (if j < t + 1 then sw bs j else 0)) :=
  (h.set t _).congr (fun j _ => by
    by_cases e : j = t
    · subst e; simp
    · simp only [e, if_false]
      by_cases h : j < t
      · simp [h, show j < t + 1 by omega]
      · simp [h, show ¬ j < t + 1 by omega])

set_option maxRecDepth 100000 in
set_option maxHeartbeats 1000000 in
theorem spread_any (bs : List Int) (w : World) (hb : ∀ x ∈ bs, 0 ≤ x ∧ x < 256) : Calls Tryz.prog 140 #[blkv bs] w fun e w' => e = .returned (schv bs) ∧ Below w.heap.size w w' := by
  have z51 := zero51
  obtain ⟨g, hg⟩ : ∃ g : Nat → Int, ∀ j, g j = bs.getD j 0 := ⟨fun j => bs.getD j 0, fun _ => rfl⟩
  have hgb : ∀ j, 0 ≤ g j ∧ g j < 256 := fun j => by rw [hg]; exact getD_byt bs hb j
  have hv : blkv bs = row (fun j => .int .u8 (g j)) 64 := row_congr _ _ _ (fun j _ => by rw [hg])
  have HG : Hid (∀ j, g j = bs.getD j 0) := hg
  have HB : Hid (∀ x ∈ bs, 0 ≤ x ∧ x < 256) := hb
  rw [hv]
  clear hv hg hb
  have r43 := rowIs_vals w (fun j => .int .u8 (g j)) 64 173
  go_enter Tryz.func140, Tryz.ntmps140
  have hA := r43.alloc (Obj.cells (Array.replicate 80 (Value.int .u32 0)) 201) |>.alloc (Obj.cells (Array.replicate 80 (Value.int .u32 0)) 201)
  go_wp2_with (first
    | (refine wpList_ld0 rfl 173 _ rfl w.heap.size rfl _ hA 64 (by omega) Tryz.underlying173 rfl size43 ?_; clear hA))
  go_loopw [8] (fun i wr => ∃ k : Nat, k ≤ 64 ∧ i = .int .i64 k ∧ wr.rowIs (w.heap.size + 2) 201 80 (fun j => .int .u32 (pw bs k j)) ∧ wr.rowIs (w.heap.size + 1) 201 80 (fun _ => .int .u32 0) ∧ Below w.heap.size w wr)
    (fun i _ => (64 - intOf i).toNat)
  case atStart =>
    refine ⟨0, by omega, rfl, ?_, ?_, (((Below.refl _ _).alloc (Nat.le_refl _) _).alloc (by simp) _).alloc (by simp; omega) _⟩
    · refine World.rowIs.congr (f := fun _ => .int .u32 0) ?_ (fun j _ => by rw [pw_zero])
      have hq := rowIs_rep2 (w.alloc (Obj.cells (vals (fun j => Value.int .u8 (g j)) 64).toArray 173)) (Value.int .u32 0) 80 201 201
      simpa using hq
    · have hq := (rowIs_rep (w.alloc (Obj.cells (vals (fun j => Value.int .u8 (g j)) 64).toArray 173)) (Value.int .u32 0) 80 201).alloc (Obj.cells (Array.replicate 80 (Value.int .u32 0)) 201)
      simpa using hq
  case round =>
    obtain ⟨k, hk, rfl, h1, h2, hbl⟩ := hrel
    clear z51 r43
    by_cases hlt : k < 64
    · have hix : ∀ w, (Instr.index 173 (row (fun j => Value.int .u8 (g j)) 64) (.int .i64 (k : Int))).run Tryz.prog w = .ok (.int .u8 (g k)) w := run_index_row 173 5 64 .i64 _ k hlt Tryz.underlying173 (fun w => by simp [go_sem]) (fun w => by simp [go_sem])
      obtain ⟨hk0, hk1⟩ := hgb k
      have ct := h1.cell (i := k / 4) (by omega)
      have ft := h1.frozen (k / 4)
      have h3 := pw_row bs g HG.out HB.out k h1
      have hb' : Below w.heap.size w (wr.setCell ⟨w.heap.size + 2, k / 4, none⟩ (.int .u32 (bits .or .u32 (pw bs k (k / 4) * 256 % 4294967296) (g k)))) := hbl.setCell (by simp) _
      have h4 : (wr.setCell ⟨w.heap.size + 2, k / 4, none⟩ (.int .u32 (bits .or .u32 (pw bs k (k / 4) * 256 % 4294967296) (g k)))).rowIs (w.heap.size + 1) 201 80 (fun _ => .int .u32 0) := h2.setOther (by simp) _
      clear h1 h2 hbl
      go_wp2
      go_roundw
      case rel => exact ⟨k + 1, by omega, by go_num, h3, h4, hb'⟩
      case measure => simp [intOf]; omega
    · have h64 : k = 64 := by omega
      have h1' : wr.rowIs (w.heap.size + 2) 201 80 (fun j => .int .u32 (if j < 16 then sw bs j else 0)) := h1.congr (fun j _ => by rw [h64, pw_end])
      clear h1 h64 hk
      go_wp2
      clear hlt
      obtain ⟨z, hz⟩ : ∃ z : Int, z = (k : Int) := ⟨_, rfl⟩
      rw [← hz]
      clear hz
      go_loopw [6] (fun t wx => ∃ k : Nat, 16 ≤ k ∧ k ≤ 80 ∧ t = .int .i64 (k : Int) ∧ wx.rowIs (w.heap.size + 2) 201 80 (fun j => .int .u32 (if j < k then sw bs j else 0)) ∧ wx.rowIs (w.heap.size + 1) 201 80 (fun _ => .int .u32 0) ∧ Below w.heap.size w wx)
        (fun t _ => (80 - intOf t).toNat)
      case atStart => exact ⟨16, by omega, by omega, rfl, h1', h2, hbl⟩
      case round =>
        clear h1' h2 hbl
        obtain ⟨k, hk16, hk80, rfl, h1, h2, hbl⟩ := hrel
        by_cases hlt : k < 80
        · obtain ⟨a, ha⟩ : ∃ a, a = k - 16 := ⟨_, rfl⟩
          obtain ⟨b, hb⟩ : ∃ b, b = k - 14 := ⟨_, rfl⟩
          obtain ⟨c, hc⟩ : ∃ c, c = k - 8 := ⟨_, rfl⟩
          obtain ⟨d, hd⟩ : ∃ d, d = k - 3 := ⟨_, rfl⟩
          have c0 := h1.cell (i := a) (by omega)
          have c2 := h1.cell (i := b) (by omega)
          have c8 := h1.cell (i := c) (by omega)
          have c13 := h1.cell (i := d) (by omega)
          have c16 := h1.cell (i := k) (by omega)
          have ft := h1.frozen k
          simp only [show a < k by omega, show b < k by omega, show c < k by omega, show d < k by omega, Nat.lt_irrefl, if_true, if_false] at c0 c2 c8 c13 c16
          have hs := sw_high bs k hk16 hlt
          rw [← ha, ← hb, ← hc, ← hd] at hs
          have h3 := sw_row bs k h1
          have h4 : (wr.setCell ⟨w.heap.size + 2, k, none⟩ (.int .u32 (sw bs k))).rowIs (w.heap.size + 1) 201 80 (fun _ => .int .u32 0) := h2.setOther (by simp) _
          have hb' : Below w.heap.size w (wr.setCell ⟨w.heap.size + 2, k, none⟩ (.int .u32 (sw bs k))) := hbl.setCell (by simp) _
          have HS : Hid (rotl (x4 (sw bs d) (sw bs c) (sw bs b) (sw bs a)) 1 = sw bs k) := hs.symm
          have e0 : IntKind.i64.wrap ((k : Int) - 16) = (a : Int) := by rw [IntKind.wrap_i64]; omega
          have e2 : IntKind.i64.wrap ((k : Int) - 14) = (b : Int) := by rw [IntKind.wrap_i64]; omega
          have e8 : IntKind.i64.wrap ((k : Int) - 8) = (c : Int) := by rw [IntKind.wrap_i64]; omega
          have e13 : IntKind.i64.wrap ((k : Int) - 3) = (d : Int) := by rw [IntKind.wrap_i64]; omega
          have la : (a : Int) < 80 := by omega
          have lb : (b : Int) < 80 := by omega
          have lc : (c : Int) < 80 := by omega
          have ld : (d : Int) < 80 := by omega
          have lk : (k : Int) < 80 := by omega
          have HK : Hid (16 ≤ k ∧ k < 80) := ⟨hk16, hlt⟩
          have na : k ≠ a := by omega
          have nb : k ≠ b := by omega
          have nc : k ≠ c := by omega
          have nd : k ≠ d := by omega
          obtain ⟨v, hv⟩ : ∃ v, v = sw bs k := ⟨_, rfl⟩
          rw [← hv] at h3 h4 hb' HS
          obtain ⟨y0, hy0⟩ : ∃ v, v = sw bs a := ⟨_, rfl⟩
          obtain ⟨y2, hy2⟩ : ∃ v, v = sw bs b := ⟨_, rfl⟩
          obtain ⟨y8, hy8⟩ : ∃ v, v = sw bs c := ⟨_, rfl⟩
          obtain ⟨y13, hy13⟩ : ∃ v, v = sw bs d := ⟨_, rfl⟩
          rw [← hy0] at c0 HS
          rw [← hy2] at c2 HS
          rw [← hy8] at c8 HS
          rw [← hy13] at c13 HS
          clear h1 h2 hbl hs hv hy0 hy2 hy8 hy13 ha hb hc hd hk16 hk80 hlt
          go_wp2_with fail
          go_region_held3 (fun w' => w'.cell? ⟨w.heap.size + 2, a, none⟩ = some (.int .u32 y0) ∧ w'.cell? ⟨w.heap.size + 2, b, none⟩ = some (.int .u32 y2) ∧ w'.cell? ⟨w.heap.size + 2, c, none⟩ = some (.int .u32 y8) ∧ w'.cell? ⟨w.heap.size + 2, d, none⟩ = some (.int .u32 y13)) (simp [*, cell_ne])
              ((go_at_call 142; refine (turned_any _ 1 _ (by omega)).mono ?_; rintro e w1 ⟨rfl, hw⟩; subst w1))
          clear c0 c2 c8 c13 c16 ft e0 e2 e8 e13 na nb nc nd
          go_wp2_with fail
          go_roundw
          case rel =>
            obtain ⟨p1, p2⟩ := HK.out
            exact ⟨k + 1, by omega, by omega, by go_num, by rw [← HS.out] at h3; exact h3, by rw [← HS.out] at h4; exact h4, by rw [← HS.out] at hb'; exact hb'.drew.drew⟩
          case measure => simp [intOf]; omega
        · obtain rfl : k = 80 := by omega
          go_wp2_with (first
            | (refine wpList_ld0 rfl 201 _ rfl (w.heap.size + 2) rfl _ h1 80 (by omega) Tryz.underlying201 rfl size51 ?_; clear h1)
            | (refine wpList_st rfl 201 _ _ rfl (w.heap.size + 1) rfl (fun j => .int .u32 (if j < 80 then sw bs j else 0)) rfl h2 size51 (fun j => rfl) ?_; intro w3 h3 f3))
          refine bodyPost_ret (results_row rfl _ rfl h3 Tryz.underlying201 rfl size51) rfl ⟨?_, ?_⟩
          · rw [schv, row_congr _ (fun j => .int .u32 (sw bs j)) 80 (fun i hi => by simp [hi])]
          · exact hbl.trans (f3.below _ hbl.size (fun i hi e => by omega))

end Go.Proofs.YtojgablpjdlegaaGreatDoor.Sha
