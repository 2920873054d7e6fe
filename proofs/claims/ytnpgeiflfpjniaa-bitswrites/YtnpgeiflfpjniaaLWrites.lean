/- The walk of BitsWrites. -/
import Derived.Test.YtnpgeiflfpjniaaHelp
import Derived.Test.YtnpgeiflfpjniaaXDone
import Derived.Deep.QuietTactic
import Derived.BigQuiet
import Derived.Deep.RegionWith
import Derived.Deep.DeepCutAuto
namespace Go.Proofs.Ytnpgeiflfpjniaa
open Go.RowKit

/-- The program's writer and the document's, of the same bits, apart from each other, both new since w0. -/
structure Both (w0 w : World) (R : Nat) (v : Value) (X : Nat) (u : Value) (N : Int) (len : Nat) : Prop where
  hw : IsW w R v N len
  hx : IsX w X u N len
  ow : ∀ k, Of R v k → w0.heap.size ≤ k
  ox : ∀ k, Of X u k → w0.heap.size ≤ k
  ap : ∀ k, Of R v k → ¬ Of X u k
  bel : Below w0.heap.size w0 w

theorem Both.keep {w0 w w' : World} {R X : Nat} {v u : Value} {N : Int} {len : Nat} (b : Both w0 w R v X u N len) (h : Below w.heap.size w w') : Both w0 w' R v X u N len :=
  ⟨b.hw.keep h, b.hx.fr (P := fun _ => False) (Fr.ofBelow h) (fun _ _ h => h), b.ow, b.ox, b.ap, b.bel.trans (h.mono b.bel.size)⟩

/-- Behind a step of the first: the second is as it was. -/
theorem Both.one {w0 w w' : World} {R X : Nat} {v v' u : Value} {N : Int} {len : Nat} (b : Both w0 w R v X u N len) (s : Step R v v' w w') : IsX w' X u N len :=
  b.hx.fr s.fr (fun k h1 h2 => b.ap k h2 h1)

/-- Behind a step of each. -/
theorem Both.two {w0 w w1 w2 : World} {R X : Nat} {v v' u u' : Value} {N M : Int} {len m : Nat} (b : Both w0 w R v X u N len) (h1 : IsW w1 R v' M m) (s1 : Step R v v' w w1) (h2 : IsX w2 X u' M m) (s2 : Step X u u' w1 w2) : Both w0 w2 R v' X u' M m := by
  have hx1 := b.one s1
  have ap1 := s1.apart _ b.hx.inside b.ap
  have ow1 := s1.from w0.heap.size b.bel.size b.ow
  have b1 := b.bel.trans (s1.below w0.heap.size b.bel.size b.ow)
  exact ⟨h1.fr s2.fr (fun k k1 k2 => ap1 k k1 k2), h2, ow1, s2.from w0.heap.size b1.size b.ox, fun k k1 k2 => s2.apart _ h1.inside (fun k q1 q2 => ap1 k q2 q1) k k2 k1, b1.trans (s2.below w0.heap.size b1.size b.ox)⟩

theorem drewN_keep (w : World) (q : Nat) : Below w.heap.size w (w.drewN q) := ⟨rfl, rfl, rfl, Nat.le_refl _, fun _ _ => rfl⟩

theorem len_q {w : World} {R : Nat} {v : Value} {N : Int} {len : Nat} (h : IsW w R v N len) (hl : len ≤ 1000000000) (q : Nat) :
    Calls Try.prog 17 #[.pointer (some ⟨R, 0, none⟩)] (w.drewN q) fun e w' => e = .returned (.int .i64 len) ∧ ∃ m, w' = w.drewN m :=
  (len_any R v N len _ (h.keep (drewN_keep w q)) hl).mono fun e w' ⟨h1, h2⟩ => ⟨h1, q + 1, by rw [h2]; rfl⟩

/-- An act's cells. -/
def acells (o x n : Int) : Nat → Value
  | 0 => .int .i64 o
  | 1 => .int .i64 x
  | _ => .int .i64 n

theorem ptL_le (len : Nat) (n : Int) : ptL len n ≤ len + 24 := by
  unfold ptL
  split <;> omega

theorem al_le (len : Nat) : al len ≤ len + 7 := by unfold al; omega

theorem writes_skip (lo : Option Addr) (k d : Nat) (w : World) (h : 400 < k) :
    Calls Try.prog 3 #[.slice lo k d] w fun e w' => e = .returned (.bool true) ∧ Below w.heap.size w w' := by
  go_enter Try.func3, Try.ntmps3
  go_wp2_with (go_at_call 7; refine (known_any _).mono ?_; rintro e w1 ⟨rfl, hb⟩)
  go_ret
  exact ⟨rfl, hb⟩

set_option maxRecDepth 100000 in
set_option maxHeartbeats 8000000 in
theorem writes_go (lo : Option Addr) (k d : Nat) (O V M : Nat → Int) (w : World) (hk : k ≤ 400)
    (hcell : ∀ j, j < k → ∃ b off, lo = some ⟨b, off, none⟩ ∧ w.cell? ⟨b, off + j * 3, none⟩ = some (.int .i64 (O j)) ∧ w.cell? ⟨b, off + j * 3 + 1, none⟩ = some (.int .i64 (V j)) ∧ w.cell? ⟨b, off + j * 3 + 2, none⟩ = some (.int .i64 (M j))) :
    Calls Try.prog 3 #[.slice lo k d] w fun e w' => e = .returned (.bool true) ∧ Below w.heap.size w w' := by
  have hd2 : decide ((400 : Int) < (k : Int)) = false := by simp; omega
  go_enter Try.func3, Try.ntmps3
  go_wp2_with (go_at_call 7; refine (known_any _).mono ?_; rintro e w1 ⟨rfl, hb⟩)
  refine (newW_any w1).mono ?_
  rintro e w2 ⟨R, rfl, hW, hRe, b2⟩
  have B2 := hb.trans (b2.mono hb.size)
  have hRw : w.heap.size ≤ R := by have := hb.size; omega
  have hRl := hW.raw.row.lt
  have hbA : Below w2.heap.size w2 (w2.alloc (Obj.cells #[Value.slice none 0 0] 29)) := (Below.refl _ _).alloc (Nat.le_refl _) _
  have b3 : Both w (w2.alloc (Obj.cells #[Value.slice none 0 0] 29)) R (.slice none 0 0) w2.heap.size (.slice none 0 0) 0 0 := by
    refine ⟨hW.keep hbA, ⟨World.rowIs_alloc w2 _ 29 _ (fun i hi => by simp at hi; subst hi; rfl), World.ownsRow_nil _ _ _ _, by simp [Value.ownBlock], by omega, by simp⟩, of_nil hRw, of_nil B2.size, ?_, B2.trans (hbA.mono B2.size)⟩
    rintro k (rfl | hk) (h2 | h2)
    · omega
    · cases h2
    · cases hk
    · cases h2
  clear hb b2 hRe hRw hRl hbA B2 hW
  go_wp2_with fail
  generalize w2.heap.size = X at *
  go_loopw [5, 6] (fun i _ wr => ∃ (t : Nat) (v u : Value) (N : Int) (len : Nat), t ≤ k ∧ i = .int .i64 t ∧ len ≤ 24 * t ∧ Both w wr R v X u N len)
    (fun i _ _ => k - (intOf i).toNat)
  case atStart => exact ⟨0, _, _, 0, 0, by omega, rfl, by omega, b3⟩
  case round =>
    obtain ⟨t, v, u, N, len, ht, rfl, hlen, hb⟩ := hrel
    clear b3
    by_cases htk : t < k
    · obtain ⟨b, off, rfl, hc0, hc1, hc2⟩ := hcell t htk
      have hO : wr.cell? ⟨b, off + t * 3, none⟩ = some (.int .i64 (O t)) := by rw [hb.bel.cell (World.block_lt_of_cell? w _ hc0)]; exact hc0
      have hV : wr.cell? ⟨b, off + t * 3 + 1, none⟩ = some (.int .i64 (V t)) := by rw [hb.bel.cell (World.block_lt_of_cell? w _ hc1)]; exact hc1
      have hM : wr.cell? ⟨b, off + t * 3 + 2, none⟩ = some (.int .i64 (M t)) := by rw [hb.bel.cell (World.block_lt_of_cell? w _ hc2)]; exact hc2
      clear hcell hc0 hc1 hc2
      generalize O t = op at *
      generalize V t = x at *
      generalize M t = nn at *
      by_cases e1 : op = 1
      · subst e1
        have hbA : Below wr.heap.size wr (wr.alloc (Obj.cells #[Value.int .i64 1, Value.int .i64 x, Value.int .i64 nn] 31)) := (Below.refl _ _).alloc (Nat.le_refl _) _
        have b4 := hb.keep hbA
        have rA : (wr.alloc (Obj.cells #[Value.int .i64 1, Value.int .i64 x, Value.int .i64 nn] 31)).rowIs wr.heap.size 31 3 (acells 1 x nn) := World.rowIs_alloc wr _ 31 _ (fun i hi => by simp at hi; rcases i with _ | _ | _ | i <;> first | rfl | omega)
        have hin := hb.hw.inside
        clear hb hbA
        go_wp2_with fail
        refine (put_any R v N x nn len _ b4.hw (by omega)).mono ?_
        rintro e w3 ⟨rfl, v3, h3, s3⟩
        have rA3 := rowIs_fr rA s3.fr (fun h => by have := hin _ h; omega)
        have a1 := rA3.cell (i := 1) (by omega)
        have a2 := rA3.cell (i := 2) (by omega)
        simp only [acells] at a1 a2
        have x3 := b4.one s3
        clear rA hin hO hV hM
        go_wp2_with fail
        refine (xput_any X u N x nn len _ x3 (by omega)).mono ?_
        rintro e w4 ⟨rfl, u4, h4, s4⟩
        have b5 := b4.two h3 s3 h4 s4
        obtain ⟨uo, uc, rfl⟩ := own_len b5.hx.own
        have d0 := b5.hx.row.cell (i := 0) (by omega)
        have hl : ptL len nn ≤ len + 24 := by have := ptL_le len nn; omega
        clear b4 rA3 a1 a2 x3 h3 s3 h4 s4
        generalize ptL len nn = len' at *
        generalize ptN N len x nn = N' at *
        have hl9 : len' ≤ 1000000000 := by omega
        go_wp2_with fail
        go_quiet (first | (go_at_call 17; exact len_q b5.hw hl9 _))
        have b6 := b5.keep (drewN_keep w4 nq)
        clear b5 d0
        go_wp2
        go_roundw
        case rel => exact ⟨t + 1, _, _, _, len', by omega, by go_num, by omega, b6⟩
        case measure => simp [intOf]; omega
      have q1 : (op == 1) = false := by simp [e1]
      by_cases e2 : op = 2
      · subst e2
        have hbA : Below wr.heap.size wr (wr.alloc (Obj.cells #[Value.int .i64 2, Value.int .i64 x, Value.int .i64 nn] 31)) := (Below.refl _ _).alloc (Nat.le_refl _) _
        have b4 := hb.keep hbA
        have rA : (wr.alloc (Obj.cells #[Value.int .i64 2, Value.int .i64 x, Value.int .i64 nn] 31)).rowIs wr.heap.size 31 3 (acells 2 x nn) := World.rowIs_alloc wr _ 31 _ (fun i hi => by simp at hi; rcases i with _ | _ | _ | i <;> first | rfl | omega)
        have hin := hb.hw.inside
        clear hb hbA
        go_wp2_with fail
        refine (code_any R v N x nn len _ b4.hw (by omega)).mono ?_
        rintro e w3 ⟨rfl, v3, h3, s3⟩
        have rA3 := rowIs_fr rA s3.fr (fun h => by have := hin _ h; omega)
        have a1 := rA3.cell (i := 1) (by omega)
        have a2 := rA3.cell (i := 2) (by omega)
        simp only [acells] at a1 a2
        have x3 := b4.one s3
        clear rA hin hO hV hM
        go_wp2_with fail
        refine (xcode_any X u N x nn len _ x3 (by omega)).mono ?_
        rintro e w4 ⟨rfl, u4, h4, s4⟩
        have b5 := b4.two h3 s3 h4 s4
        obtain ⟨uo, uc, rfl⟩ := own_len b5.hx.own
        have d0 := b5.hx.row.cell (i := 0) (by omega)
        have hl : ptL len nn ≤ len + 24 := by have := ptL_le len nn; omega
        clear b4 rA3 a1 a2 x3 h3 s3 h4 s4
        generalize ptL len nn = len' at *
        generalize cdN N len x nn = N' at *
        have hl9 : len' ≤ 1000000000 := by omega
        go_wp2_with fail
        go_quiet (first | (go_at_call 17; exact len_q b5.hw hl9 _))
        have b6 := b5.keep (drewN_keep w4 nq)
        clear b5 d0
        go_wp2
        go_roundw
        case rel => exact ⟨t + 1, _, _, _, len', by omega, by go_num, by omega, b6⟩
        case measure => simp [intOf]; omega
      have q2 : (op == 2) = false := by simp [e2]
      by_cases e3 : op = 3
      · subst e3
        have hbA : Below wr.heap.size wr (wr.alloc (Obj.cells #[Value.int .i64 3, Value.int .i64 x, Value.int .i64 nn] 31)) := (Below.refl _ _).alloc (Nat.le_refl _) _
        have b4 := hb.keep hbA
        have rA : (wr.alloc (Obj.cells #[Value.int .i64 3, Value.int .i64 x, Value.int .i64 nn] 31)).rowIs wr.heap.size 31 3 (acells 3 x nn) := World.rowIs_alloc wr _ 31 _ (fun i hi => by simp at hi; rcases i with _ | _ | _ | i <;> first | rfl | omega)
        have hin := hb.hw.inside
        clear hb hbA
        go_wp2_with fail
        refine (byte_any R v N _ len _ b4.hw (by omega)).mono ?_
        rintro e w3 ⟨rfl, v3, h3, s3⟩
        have rA3 := rowIs_fr rA s3.fr (fun h => by have := hin _ h; omega)
        have a1 := rA3.cell (i := 1) (by omega)
        have a2 := rA3.cell (i := 2) (by omega)
        simp only [acells] at a1 a2
        have x3 := b4.one s3
        clear rA hin hO hV hM
        go_wp2_with fail
        refine (xbyte_any X u N _ len _ x3 (by omega)).mono ?_
        rintro e w4 ⟨rfl, u4, h4, s4⟩
        have b5 := b4.two h3 s3 h4 s4
        obtain ⟨uo, uc, rfl⟩ := own_len b5.hx.own
        have d0 := b5.hx.row.cell (i := 0) (by omega)
        have hl : al len + 8 ≤ len + 24 := by have := al_le len; omega
        clear b4 rA3 a1 a2 x3 h3 s3 h4 s4
        generalize al len + 8 = len' at *
        generalize btN N len _ = N' at *
        have hl9 : len' ≤ 1000000000 := by omega
        go_wp2_with fail
        go_quiet (first | (go_at_call 17; exact len_q b5.hw hl9 _))
        have b6 := b5.keep (drewN_keep w4 nq)
        clear b5 d0
        go_wp2
        go_roundw
        case rel => exact ⟨t + 1, _, _, _, len', by omega, by go_num, by omega, b6⟩
        case measure => simp [intOf]; omega
      · have q3 : (op == 3) = false := by simp [e3]
        clear e1 e2 e3
        have hbA : Below wr.heap.size wr (wr.alloc (Obj.cells #[Value.int .i64 op, Value.int .i64 x, Value.int .i64 nn] 31)) := (Below.refl _ _).alloc (Nat.le_refl _) _
        have b4 := hb.keep hbA
        have rA : (wr.alloc (Obj.cells #[Value.int .i64 op, Value.int .i64 x, Value.int .i64 nn] 31)).rowIs wr.heap.size 31 3 (acells op x nn) := World.rowIs_alloc wr _ 31 _ (fun i hi => by simp at hi; rcases i with _ | _ | _ | i <;> first | rfl | omega)
        have hin := hb.hw.inside
        clear hb hbA
        go_wp2_with fail
        refine (align_any R v N  len _ b4.hw (by omega)).mono ?_
        rintro e w3 ⟨rfl, v3, h3, s3⟩
        have rA3 := rowIs_fr rA s3.fr (fun h => by have := hin _ h; omega)
        have a1 := rA3.cell (i := 1) (by omega)
        have a2 := rA3.cell (i := 2) (by omega)
        simp only [acells] at a1 a2
        have x3 := b4.one s3
        clear rA hin hO hV hM
        go_wp2_with fail
        refine (xalign_any X u N  len _ x3 (by omega)).mono ?_
        rintro e w4 ⟨rfl, u4, h4, s4⟩
        have b5 := b4.two h3 s3 h4 s4
        obtain ⟨uo, uc, rfl⟩ := own_len b5.hx.own
        have d0 := b5.hx.row.cell (i := 0) (by omega)
        have hl : al len ≤ len + 24 := by have := al_le len; omega
        clear b4 rA3 a1 a2 x3 h3 s3 h4 s4
        generalize al len = len' at *
        have hl9 : len' ≤ 1000000000 := by omega
        go_wp2_with fail
        go_quiet (first | (go_at_call 17; exact len_q b5.hw hl9 _))
        have b6 := b5.keep (drewN_keep w4 nq)
        clear b5 d0
        go_wp2
        go_roundw
        case rel => exact ⟨t + 1, _, _, _, len', by omega, by go_num, by omega, b6⟩
        case measure => simp [intOf]; omega
    · have hw := hb.hw
      have hx := hb.hx
      have hbel := hb.bel
      have hl9 : len ≤ 1000000000 := by omega
      obtain ⟨S, hS⟩ : ∃ S, S = strOfNums (by8 N ((len + 7) / 8)) := ⟨_, rfl⟩
      have HS : Hid (S = strOfNums (by8 N ((len + 7) / 8))) := hS
      have dW := hw.drew
      have dX := hx.fr (Fr.refl (fun _ => False) wr).drew (fun _ _ h => h)
      clear hS hcell
      go_upto_region 25 with fail
      go_region_with (first
        | (go_at_call 19; refine (xdone_any X u N len w9 hx9 hl9).mono ?_; rintro e w10 ⟨ao10, c10, rfl, r10, b10⟩; have s10 := r10.str; have s9' := (r9.keep b10).str; rw [← HS.out] at s10 s9'; have B10 := B9.trans (b10.mono B9.size))
        | (go_at_call 18; refine (done_any R v N len wr.drew dW hl9).mono ?_; rintro e w9 ⟨v9, rfl, o9, b9⟩; obtain ⟨ao9, c9, rfl, r9, _⟩ := own_rd o9 (by8_byt _ _); have hx9 := dX.fr (P := fun _ => False) (Fr.ofBelow b9) (fun _ _ h => h); have B9 := hbel.drew.trans (b9.mono hbel.size); have s9 := r9.str; rw [← HS.out] at s9; clear o9))
      all_goals
        go_wp2_with fail
        go_ret
        exact ⟨rfl, B10⟩

end Go.Proofs.Ytnpgeiflfpjniaa
