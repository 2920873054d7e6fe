/- PutOffset. -/
import Derived.Test.YtmkjpfjlohkdoaaWRev
import Derived.Test.YtmkjpfjlohkdoaaBits
namespace Go.Proofs.Ytmkjpfjlohkdoaa
open Go.RowKit

/-- The bytes ahead of an offset's last one, from the last on (f: the most of them). -/
def ob : Nat → Int → List Int
  | 0, _ => []
  | f + 1, x => if x ≤ 0 then [] else ((x - 1) % 128 + 128) :: ob f ((x - 1) / 128)

/-- An offset's bytes, from the last on. -/
def ofsBack (v : Int) : List Int := (v % 128) :: ob 8 (v / 128)

theorem ob_step (f : Nat) (x : Int) (h : 0 < x) (hf : x < 128 ^ f) : 1 ≤ f ∧ (x - 1) / 128 < 128 ^ (f - 1) ∧ ob f x = ((x - 1) % 128 + 128) :: ob (f - 1) ((x - 1) / 128) := by
  have hf1 : 1 ≤ f := by
    rcases Nat.eq_zero_or_pos f with rfl | h'
    · simp at hf; omega
    · exact h'
  obtain ⟨g, rfl⟩ : ∃ g, f = g + 1 := ⟨f - 1, by omega⟩
  refine ⟨hf1, ?_, ?_⟩
  · simp only [Nat.add_sub_cancel]
    rw [Int.pow_succ] at hf
    omega
  · simp [ob, show ¬ x ≤ 0 by omega]

theorem ob_last (f : Nat) (x : Int) (h : x ≤ 0) : ob f x = [] := by
  cases f <;> simp [ob, h]

theorem ob_length (f : Nat) : ∀ x, (ob f x).length ≤ f := by
  induction f with
  | zero => intro x; simp [ob]
  | succ f ih =>
    intro x
    by_cases h : x ≤ 0
    · simp [ob, h]
    · simp [ob, h]; exact ih _

theorem ofsBack_length (v : Int) : 1 ≤ (ofsBack v).length ∧ (ofsBack v).length ≤ 9 := by
  have := ob_length 8 (v / 128)
  simp [ofsBack]; omega

theorem ob_byt (f : Nat) : ∀ x, ∀ y ∈ ob f x, 0 ≤ y ∧ y < 256 := by
  induction f with
  | zero => intro x y hy; cases hy
  | succ f ih =>
    intro x y hy
    by_cases h : x ≤ 0
    · simp [ob, h] at hy
    · simp only [ob, if_neg h, List.mem_cons] at hy
      rcases hy with rfl | hy
      · omega
      · exact ih _ y hy

theorem ofsBack_byt (v : Int) : ∀ y ∈ ofsBack v, 0 ≤ y ∧ y < 256 := by
  intro y hy
  simp only [ofsBack, List.mem_cons] at hy
  rcases hy with rfl | hy
  · omega
  · exact ob_byt _ _ y hy

theorem own_form {w : World} {base n : Nat} {v : Value} {xs : List Value} (h : w.ownsRow base 5 1 v n xs) (hn : 1 ≤ n) :
    ∃ g cap, v = .slice (some ⟨g, 0, none⟩) n cap ∧ base ≤ g ∧ g < w.heap.size := by
  rcases h.2 with ⟨_, h0⟩ | ⟨g, cap, cur, rfl, hb, hg, _⟩
  · omega
  · exact ⟨g, cap, rfl, hb, (Array.getElem?_eq_some_iff.1 hg).1⟩

theorem own_mono {w : World} {base base' n : Nat} {v : Value} {xs : List Value} (h : w.ownsRow base 5 1 v n xs) (hb : base' ≤ base) : w.ownsRow base' 5 1 v n xs := by
  refine ⟨h.1, ?_⟩
  rcases h.2 with h' | ⟨g, cap, cur, hv, hg, r⟩
  · exact .inl h'
  · exact .inr ⟨g, cap, cur, hv, Nat.le_trans hb hg, r⟩

set_option maxHeartbeats 800000 in
theorem putOffset_any (ao : Option Addr) (n c : Nat) (v : Int) (xs : List Int) (w : World) (h : Rd w ao n c xs) (hn : n ≤ 140737488351232) (h0 : 0 ≤ v) (hv : v ≤ 9223372036854775807) :
    Calls Try.prog 20 #[.slice ao n c, .int .i64 v] w fun e w' => ∃ g, e = .returned (.slice (some ⟨g, 0, none⟩) (n + (ofsBack v).length) (n + (ofsBack v).length)) ∧
      w'.ownsRow w.heap.size 5 1 (.slice (some ⟨g, 0, none⟩) (n + (ofsBack v).length) (n + (ofsBack v).length)) (n + (ofsBack v).length) ((xs ++ (ofsBack v).reverse).map (Value.int .u8)) ∧ Below w.heap.size w w' := by
  obtain ⟨i0, hi, hz0, hz1, hz2⟩ := info_parts Try.info5
  go_enter Try.func20, Try.ntmps20
  go_wp2_with fail
  go_loopw [1, 5] (fun u o wr => ∃ (x : Int) (f k : Nat), 0 ≤ x ∧ x ≤ 9223372036854775807 ∧ x < 128 ^ f ∧ f + k = 9 ∧ 1 ≤ k ∧ u = .int .i64 x ∧
      ∃ ys : List Int, ys.length = k ∧ ys ++ ob f x = ofsBack v ∧ wr.ownsRow w.heap.size 5 1 o k (ys.map (Value.int .u8)) ∧ Below w.heap.size w wr)
    (fun u _ _ => (intOf u).toNat)
  case atStart =>
    refine ⟨v / 128, 8, 1, by omega, by omega, by simp; omega, by omega, by omega, rfl, [v % 128], rfl, rfl, ?_, (Below.refl _ _).alloc (Nat.le_refl _) _⟩
    have := World.ownsRow_lit (base := w.heap.size) (e := 5) (size := 1) w #[Value.int .u8 (v % 128)] 1 (Nat.le_refl _) (by unfold maxLen; omega) rfl
    rw [i64_and127, show v % 128 % 256 = v % 128 from by omega]
    simpa using this
  case round =>
    obtain ⟨x, f, k, hx0, hx1, hxf, hfk, hk1, rfl, ys, hyl, hys, hown', hbel'⟩ := hrel
    have Hys : Hid (ys ++ ob f x = ofsBack v) := hys
    clear hys
    obtain ⟨g, cap, rfl, hg, hgl⟩ := own_form hown' hk1
    by_cases hj : 0 < x
    · have ⟨hf2, hx2, hst⟩ := ob_step f x hj hxf
      have HX2 : Hid ((x - 1) / 128 < 128 ^ (f - 1)) := hx2
      have HS : Hid (ob f x = ((x - 1) % 128 + 128) :: ob (f - 1) ((x - 1) / 128)) := hst
      clear hxf hx2 hst
      go_wp2_with (first | (at_builtin; refine wpList_append_own _ rfl _ _ 22 rfl w.heap.size 5 i0 (.int .u8 0) 1 1 Try.underlying22 hi hz0 hz1 hz2 rfl (by decide) _ _ _ rfl (hown'.alloc _) ⟨wr.heap.size, 0, none⟩ 1 1 [_] rfl rfl (cell_one_new _ _ _) ?_ ?_ ?_ ?_ ?_))
      · intro u hu; simp at hu; subst hu; rfl
      · unfold maxLen; omega
      · omega
      · have := hbel'.size; simp; omega
      · intro v' w2 hown2 hgrow2 _
        have hb2 : Below w.heap.size w w2 := (hbel'.alloc hbel'.size _).grown hgrow2 (by have := hbel'.size; simp; omega) (fun q hq => by cases hq; exact hg)
        have hown3 : w2.ownsRow w.heap.size 5 1 v' (k + 1) ((ys ++ [(x - 1) % 128 + 128]).map (Value.int .u8)) := by
          rw [enc7] at hown2
          simpa using hown2
        clear hown2 hgrow2 hown' hbel'
        go_wp2
        go_roundw
        case rel => exact ⟨(x - 1) / 128, f - 1, k + 1, by omega, by omega, HX2.out, by omega, by omega, by go_num, ys ++ [(x - 1) % 128 + 128], by simp [hyl], by rw [← Hys.out, HS.out]; simp, hown3, hb2⟩
        case measure => simp [intOf]; omega
    · go_wp2_with fail
      refine (reverse_any w.heap.size g k cap ys wr hown' (by omega)).mono ?_
      rintro e w2 ⟨rfl, hown2, hgrow2⟩
      have hb2 : Below w.heap.size w w2 := hbel'.grown hgrow2 hbel'.size (fun q hq => by cases hq; exact hg)
      have hfin : ofsBack v = ys := by rw [← Hys.out, ob_last f x (by omega)]; simp
      have HF : Hid (ofsBack v = ys) := hfin
      have hbyt : ∀ y ∈ ys.reverse, 0 ≤ y ∧ y < 256 := by
        intro y hy
        have := ofsBack_byt v
        rw [hfin] at this
        exact this y (by simpa using hy)
      have hr2 : Rd w2 ao n c xs := h.keep hb2
      have hrb : Rd w2 (some ⟨g, 0, none⟩) k cap ys.reverse := Rd.ofOwn hown2 hbyt
      clear hfin hgrow2 hown' hbel' hbyt hown2
      go_wp2_with fail
      refine (withRoom_any ao n c k xs w2 hr2 hn (by omega)).mono ?_
      rintro e w3 ⟨rfl, hown3, hbel3⟩
      have hrb3 := hrb.keep hbel3
      have hcells := hrb3.cellsOf
      have hrl := hrb3.len
      go_wp2_with (at_builtin; refine wpList_append_fits_any _ rfl _ _ 22 rfl w2.heap.size 5 i0 1 Try.underlying22 hi hz1 w2.heap.size n (n + k) _ rfl hown3 (some ⟨g, 0, none⟩) k cap (ys.reverse.map (Value.int .u8)) rfl (by simpa using hrl) (fun h => by cases h) hcells (ints_oneCell _ _) (by omega) ?_)
      intro w4 hown4 hgrow4
      have hb4 : Below w.heap.size w w4 := (hb2.trans (hbel3.mono hb2.size)).grown hgrow4 (Nat.le_trans hb2.size hbel3.size) (fun q hq => by cases hq; exact hb2.size)
      have hown5 := own_mono hown4 hb2.size
      rw [← List.map_reverse, ← List.map_append] at hown5
      clear hown4 hgrow4 hown3 hcells hrb3 hrb hr2
      go_wp2
      go_ret
      rw [HF.out, hyl]
      exact ⟨_, rfl, hown5, hb4⟩

end Go.Proofs.Ytmkjpfjlohkdoaa
