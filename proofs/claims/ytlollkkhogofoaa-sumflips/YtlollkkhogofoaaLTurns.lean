/- The walk of SumFlips, where it plays. -/
import Derived.Test.YtlollkkhogofoaaLFlips
namespace Go.Proofs.Ytlollkkhogofoaa
open Go.RowKit

/-- A row of zeros of the call's own. -/
def HZ (w w' : World) (g n : Nat) : Prop := w.heap.size ≤ g ∧ w'.rowIs g 5 n (fun _ => .int .u8 0)

theorem HZ.mk' {w wr w6 : World} {n : Nat} (hb : Below w.heap.size w wr) (hown : w6.ownsRow 0 5 1 (.slice (some ⟨wr.heap.size, 0, none⟩) n n) n (madeCells (Value.int .u8 0).cells (n * 1)).toList) (_ : wr.grownBy w6 none) : HZ w w6 wr.heap.size n := ⟨hb.size, made_rowIs rfl hown⟩

theorem HZ.keep {w w' w'' : World} {g n : Nat} (h : HZ w w' g n) (hb : Below w'.heap.size w' w'') : HZ w w'' g n := ⟨h.1, h.2.of_block (hb.block _ h.2.lt)⟩

theorem HZ.rd {w w' : World} {g n : Nat} (h : HZ w w' g n) : Rd w' (some ⟨g, 0, none⟩) n n (lst n (fun _ => 0)) :=
  Rd.ofRow (h.2.congr (fun i hi => by rw [lst_get n _ i hi]; rfl)) (lst_len _ _) (lst_byt _ _ (fun _ => by omega))

section
variable (w : World) (g1 c1 g2 c2 g3 n : Nat) (X Y : Nat → Nat)

theorem kx (hn : n ≤ 1000000000) : ∀ wq, (FS w wq g1 c1 g2 c2 n X Y ∧ HZ w wq g3 n) → Calls Try.prog 9 #[.slice (some ⟨g1, 0, none⟩) n c1] wq (fun e w' => e = .returned (.int .u32 (CR (lst n X))) ∧ FS w w' g1 c1 g2 c2 n X Y ∧ HZ w w' g3 n) :=
  fun wq h => (crcR _ n c1 _ wq h.1.rx hn).mono (fun _ _ hh => ⟨hh.1, h.1.keep hh.2, h.2.keep hh.2⟩)

theorem ky (hn : n ≤ 1000000000) : ∀ wq, (FS w wq g1 c1 g2 c2 n X Y ∧ HZ w wq g3 n) → Calls Try.prog 9 #[.slice (some ⟨g2, 0, none⟩) n c2] wq (fun e w' => e = .returned (.int .u32 (CR (lst n Y))) ∧ FS w w' g1 c1 g2 c2 n X Y ∧ HZ w w' g3 n) :=
  fun wq h => (crcR _ n c2 _ wq h.1.ry hn).mono (fun _ _ hh => ⟨hh.1, h.1.keep hh.2, h.2.keep hh.2⟩)

theorem kz (hn : n ≤ 1000000000) : ∀ wq, (FS w wq g1 c1 g2 c2 n X Y ∧ HZ w wq g3 n) → Calls Try.prog 9 #[.slice (some ⟨g3, 0, none⟩) n n] wq (fun e w' => e = .returned (.int .u32 (CR (lst n (fun _ => 0)))) ∧ FS w w' g1 c1 g2 c2 n X Y ∧ HZ w w' g3 n) :=
  fun wq h => (crcR _ n n _ wq h.2.rd hn).mono (fun _ _ hh => ⟨hh.1, h.1.keep hh.2, h.2.keep hh.2⟩)

theorem kb (ao : Option Addr) (m c : Nat) (ys : List Int) (hn : m ≤ 1000000000) (hr : Rd w ao m c ys) : ∀ wq, (FS w wq g1 c1 g2 c2 n X Y ∧ HZ w wq g3 n) → Calls Try.prog 9 #[.slice ao m c] wq (fun e w' => e = .returned (.int .u32 (CR ys)) ∧ FS w w' g1 c1 g2 c2 n X Y ∧ HZ w w' g3 n) :=
  fun wq h => (crcR ao m c ys wq (hr.keep h.1.bel) hn).mono (fun _ _ hh => ⟨hh.1, h.1.keep hh.2, h.2.keep hh.2⟩)
end

theorem burst_eq (n M p : Nat) (X B : Nat → Nat) (hM : M ≤ 8 * n) (hp : p < 4294967296) (h : numf n X = numf n B ^^^ (2 ^ M * p)) : (CR (lst n X) == CR (lst n B)) = !(decide (¬ p = 0)) := by
  have hb := burst n M p X B hM hp h
  unfold CR
  rw [lst_nat, lst_nat]
  by_cases e : p = 0
  · rw [hb.2 e]; simp [e]
  · have hne : ¬ cmore 0 ((List.range n).map X) = cmore 0 ((List.range n).map B) := fun h => e (hb.1 h)
    have hne2 : ¬ ((cmore 0 ((List.range n).map X) : Nat) : Int) = ((cmore 0 ((List.range n).map B) : Nat) : Int) := fun h => hne (by omega)
    simp [e]
    exact hne2

theorem three_eq (n : Nat) (B C : Nat → Nat) (hB : ∀ j, B j < 256) (hC : ∀ j, C j < 256) : ∃ Q, bits .xor .u32 (CR (lst n B)) (CR (lst n C)) = Q ∧ bits .xor .u32 Q (CR (lst n (fun _ => 0))) = CR (lst n (fun j => if j < n then B j ^^^ C j else B j)) := by
  have l1 : ∀ G : Nat → Nat, (∀ j, G j < 256) → cmore 0 ((List.range n).map G) < 4294967296 := fun G hG => cmore_lt 0 _ (by omega) (fun b hb => by
    obtain ⟨j, _, rfl⟩ := List.mem_map.1 hb
    exact hG j)
  have e1 : (List.range n).map (fun j => if j < n then B j ^^^ C j else B j) = (List.range n).map (fun j => B j ^^^ C j) := List.map_congr_left (fun j hj => by simp [List.mem_range.1 hj])
  unfold CR
  rw [lst_nat, lst_nat, lst_nat, lst_nat, e1, ← three n B C]
  exact ⟨_, bx32 _ _ (l1 B hB) (l1 C hC), bx32 _ _ (xor_lt32 _ _ (l1 B hB) (l1 C hC)) (l1 _ (fun _ => by omega))⟩

set_option maxRecDepth 100000 in
set_option maxHeartbeats 8000000 in
theorem flips_go (ao co : Option Addr) (n c m d M p : Nat) (ys zs : List Int) (w : World) (hn : n ≤ 8000) (hM : M < 8 * n) (hp : p < 4294967296) (hm : n ≤ m) (hr : Rd w ao n c ys) (hs : Rd w co m d zs) :
    Calls Try.prog 4 #[.slice ao n c, .int .i64 (M : Int), .int .u32 (p : Int), .slice co m d] w fun e w' => e = .returned (.bool true) ∧ Below w.heap.size w w' := by
  obtain ⟨i0, hi, hz0, hz1, hz2⟩ := info_parts Try.info5
  have d1 : decide ((8000 : Int) < (n : Int)) = false := by simp; omega
  have d2 : decide ((M : Int) < 0) = false := by simp
  have d3 : decide (8 * (n : Int) ≤ (M : Int)) = false := by simp; omega
  have d4 : decide (m < n) = false := by simp; omega
  obtain ⟨Bf, hBf⟩ : ∃ f : Nat → Nat, f = fun j => (ys.getD j 0).toNat := ⟨_, rfl⟩
  obtain ⟨Cf, hCf⟩ : ∃ f : Nat → Nat, f = fun j => (zs.getD j 0).toNat := ⟨_, rfl⟩
  have HY : Hid (ys = lst n Bf ∧ zs.take n = lst n Cf ∧ (∀ j, Bf j < 256) ∧ (∀ j, Cf j < 256)) := by
    refine ⟨by rw [hBf]; exact lst_of ys n hr.len hr.byt, ?_, fun j => by rw [hBf]; have := getD_byt ys hr.byt j; show (ys.getD j 0).toNat < 256; omega, fun j => by rw [hCf]; have := getD_byt zs hs.byt j; show (zs.getD j 0).toNat < 256; omega⟩
    rw [lst_of (zs.take n) n (by have := hs.len; simp; omega) (fun x hx => hs.byt x (List.mem_of_mem_take hx)), hCf]
    unfold lst
    exact List.map_congr_left (fun j hj => by
      have hj' := List.mem_range.1 hj
      simp [List.getD, hj'])
  have HR : Hid (Rd w ao n c ys ∧ Rd w co m d zs) := ⟨hr, hs⟩
  obtain ⟨b1, o1, rfl, hcb⟩ := hr.plain (by omega)
  obtain ⟨b2, o2, rfl, hcc⟩ := hs.plain (by omega)
  have HC : Hid ((∀ j, j < n → w.cell? ⟨b1, o1 + j, none⟩ = some (.int .u8 (Bf j : Int))) ∧ (∀ j, j < n → w.cell? ⟨b2, o2 + j, none⟩ = some (.int .u8 (Cf j : Int)))) := by
    refine ⟨fun j hj => ?_, fun j hj => ?_⟩
    · rw [hcb j hj, hBf]; have := getD_byt ys hr.byt j; show some (Value.int .u8 _) = some (Value.int .u8 ((ys.getD j 0).toNat : Int)); rw [Int.toNat_of_nonneg this.1]
    · rw [hcc j (by omega), hCf]; have := getD_byt zs hs.byt j; show some (Value.int .u8 _) = some (Value.int .u8 ((zs.getD j 0).toNat : Int)); rw [Int.toNat_of_nonneg this.1]
  clear hr hs hBf hCf hcb hcc
  go_enter Try.func4, Try.ntmps4
  go_wp2_with fail
  refine (known_any _).mono ?_
  rintro e w1 ⟨rfl, hb1⟩
  have own0 := none_own w1 w1.heap.size (Nat.le_refl _)
  have bA : Below w.heap.size w (w1.alloc (.cells #[] 5)) := hb1.alloc hb1.size _
  have rd0 := HR.out.1.keep bA
  have HA : Hid (Below w.heap.size w (w1.alloc (.cells #[] 5)) ∧ w.heap.size ≤ w1.heap.size) := ⟨bA, hb1.size⟩
  clear hb1 bA
  go_wp2_with (first
    | (refine wpList_append_rd rfl _ _ rfl w1.heap.size _ 0 0 [] rfl own0 (some ⟨b1, o1, none⟩) n c ys rfl rd0 (by omega) (by simp) ?_; intro g1 c1 w2 own2 gr2; rw [Nat.zero_add, List.nil_append] at own2; rw [Nat.zero_add]; have hb2 : Below w.heap.size w w2 := HA.out.1.grown gr2 HA.out.1.size (fun k hk => by cases hk; exact HA.out.2); have own0' := none_own w2 w2.heap.size (Nat.le_refl _); have rd1 := HR.out.1.keep (hb2.alloc hb2.size (.cells #[] 5)); have HB2 : Hid (Below w.heap.size w w2 ∧ w2.ownsRow w1.heap.size 5 1 (.slice (some ⟨g1, 0, none⟩) n c1) n (ys.map (Value.int .u8))) := ⟨hb2, own2⟩; clear own0 rd0 gr2 hb2 own2)
    | (refine wpList_append_rd rfl _ _ rfl w2.heap.size _ 0 0 [] rfl own0' (some ⟨b1, o1, none⟩) n c ys rfl rd1 (by omega) (by simp) ?_; intro g2 c2 w3 own3 gr3; rw [Nat.zero_add, List.nil_append] at own3; rw [Nat.zero_add]))
  have hf3 : FS w w3 g1 c1 g2 c2 n Bf Bf := by
    have l1 := HB2.out.2.lt g1 rfl
    have l2 := own_base own3
    have k1 := (HB2.out.2.alloc (.cells #[] 5)).kept gr3 (.inr (fun e => by have e' : g1 = w2.heap.size := Option.some.inj e; omega))
    refine ⟨?_, ?_, by omega, HY.out.2.2.1, HY.out.2.2.1, ?_⟩
    · rw [← HY.out.1]; exact k1.mono HA.out.2
    · rw [← HY.out.1]; exact own3.mono HB2.out.1.size
    · exact (HB2.out.1.alloc HB2.out.1.size _).grown gr3 (HB2.out.1.alloc HB2.out.1.size _).size (fun k hk => by cases hk; exact HB2.out.1.size)
  clear own3 gr3 own0' rd1 HB2 HA
  go_wp2_with fail
  go_loopw [12] (fun i wr => ∃ k : Nat, i = .int .i64 (k : Int) ∧ k ≤ n ∧ FS w wr g1 c1 g2 c2 n Bf (fun j => if j < k then Bf j ^^^ Cf j else Bf j)) (fun i _ => (n - intOf i).toNat)
  case atStart => exact ⟨0, rfl, by omega, hf3.congrY (fun j => by simp)⟩
  case round =>
    clear hf3
    obtain ⟨k, rfl, hk, f⟩ := hrel
    by_cases hlt : k < n
    · have hlt' : (k : Int) < n := by omega
      have hltm : (k : Int) < m := by omega
      obtain ⟨cy, fy⟩ := f.cy k hlt
      have cb : wr.cell? ⟨b1, o1 + k, none⟩ = some (.int .u8 (Bf k : Int)) := (f.bel.cell (World.block_lt_of_cell? w _ (HC.out.1 k hlt))).trans (HC.out.1 k hlt)
      have cc : wr.cell? ⟨b2, o2 + k, none⟩ = some (.int .u8 (Cf k : Int)) := (f.bel.cell (World.block_lt_of_cell? w _ (HC.out.2 k hlt))).trans (HC.out.2 k hlt)
      have hx8 := bx8 (Bf k) (Cf k) (HY.out.2.2.1 k) (HY.out.2.2.2 k)
      have hv8 : Bf k ^^^ Cf k < 256 := by have : Bf k ^^^ Cf k < 2 ^ 8 := Nat.xor_lt_two_pow (by have := HY.out.2.2.1 k; omega) (by have := HY.out.2.2.2 k; omega); omega
      have f2 := (f.setY k (Bf k ^^^ Cf k) hv8).congrY (Y' := fun j => if j < k + 1 then Bf j ^^^ Cf j else Bf j) (fun j => by
        by_cases e : j = k
        · subst e; simp
        · by_cases h : j < k
          · simp [e, h, show j < k + 1 by omega]
          · simp [e, h, show ¬ j < k + 1 by omega])
      have HF2 : Hid (FS w (wr.setCell ⟨g2, k, none⟩ (.int .u8 ((Bf k ^^^ Cf k : Nat) : Int))) g1 c1 g2 c2 n Bf (fun j => if j < k + 1 then Bf j ^^^ Cf j else Bf j)) := f2
      clear f2 f hv8
      obtain ⟨v, hv⟩ : ∃ v, v = Bf k ^^^ Cf k := ⟨_, rfl⟩
      rw [← hv] at HF2 hx8
      simp only [Nat.lt_irrefl, if_false] at cy
      obtain ⟨Bk, hBk⟩ : ∃ x : Nat, x = Bf k := ⟨_, rfl⟩
      obtain ⟨Ck, hCk⟩ : ∃ x : Nat, x = Cf k := ⟨_, rfl⟩
      rw [← hBk] at cb cy hx8
      rw [← hCk] at cc hx8
      clear hv hBk hCk
      go_wp2_with fail
      go_region
      all_goals
        go_wp2_with fail
        exact ⟨⟨k + 1, rfl, by omega, HF2.out.keep (Below.refl _ _).drew⟩, by simp [intOf]; omega⟩
    · have hlt' : ¬ (k : Int) < n := by omega
      have f0 : FS w wr g1 c1 g2 c2 n Bf (fun j => if j < n then Bf j ^^^ Cf j else Bf j) := by
        rw [show k = n by omega] at f
        exact f
      obtain ⟨Yf, hYf⟩ : ∃ Y : Nat → Nat, Y = fun j => if j < n then Bf j ^^^ Cf j else Bf j := ⟨_, rfl⟩
      rw [← hYf] at f0
      have HYF : Hid (Yf = fun j => if j < n then Bf j ^^^ Cf j else Bf j) := hYf
      clear f hk hlt hYf
      go_wp2_with fail
      clear hlt'
      go_loopw [11, 13] (fun tv i wx => ∃ (k : Nat) (X : Nat → Nat), i = .int .i64 (k : Int) ∧ k ≤ 32 ∧ M + k ≤ 8 * n ∧ tv = .bool (decide (¬ p % 2 ^ k = 0)) ∧ FS w wx g1 c1 g2 c2 n X Yf ∧ numf n X = numf n Bf ^^^ (2 ^ M * (p % 2 ^ k))) (fun _ i _ => (32 - intOf i).toNat)
      case atStart => exact ⟨0, Bf, rfl, by omega, by omega, by simp [Nat.mod_one], f0, by simp [Nat.mod_one]⟩
      case round =>
        clear f0
        obtain ⟨k, X, rfl, hk, hMk, rfl, f, hnum⟩ := hrel
        have HN : Hid (numf n X = numf n Bf ^^^ (2 ^ M * (p % 2 ^ k)) ∧ k ≤ 32) := ⟨hnum, hk⟩
        clear hnum
        obtain ⟨tb, htb⟩ : ∃ tb, tb = decide (¬ p % 2 ^ k = 0) := ⟨_, rfl⟩
        have HTB : Hid (tb = decide (¬ p % 2 ^ k = 0)) := htb
        rw [← htb]
        clear htb
        by_cases hin : k < 32 ∧ M + k < 8 * n
        · have e1 : decide ((k : Int) < 32) = true := by simp; omega
          have e2 : decide ((M : Int) + (k : Int) < 8 * (n : Int)) = true := by simp; omega
          obtain ⟨q, hq⟩ : ∃ q, q = p / 2 ^ k := ⟨_, rfl⟩
          have hsh : (p : Int) / 2 ^ k = (q : Int) := by rw [hq]; simp
          have hq32 : q < 4294967296 := by rw [hq]; exact Nat.lt_of_le_of_lt (Nat.div_le_self _ _) hp
          have HQ : Hid (q = p / 2 ^ k ∧ k < 32 ∧ M + k < 8 * n) := ⟨hq, hin⟩
          have hk32 : (k : Int) < 32 := by omega
          clear hq hin hk hMk
          by_cases ho : q % 2 = 1
          · have hoi : bits .and .u32 (q : Int) 1 = 1 := by rw [u32_one _ (by omega) (by omega)]; omega
            have HO : Hid (q % 2 = 1) := ho
            obtain ⟨j, hj⟩ : ∃ j, j = (M + k) / 8 := ⟨_, rfl⟩
            obtain ⟨t, ht⟩ : ∃ t, t = (M + k) % 8 := ⟨_, rfl⟩
            have hji : ((M : Int) + k) / 8 = (j : Int) := by omega
            have hti : ((M : Int) + k) % 8 = (t : Int) := by omega
            have HJ : Hid (M + k = 8 * j + t ∧ t < 8 ∧ j < n) := ⟨by omega, by omega, by have := HQ.out; omega⟩
            have hjn : (j : Int) < n := by have := HJ.out; omega
            have ht8 : (t : Int) < 8 := by omega
            have hMk9 : (M : Int) + k < 64000 := by have := HQ.out; omega
            obtain ⟨cx, fx⟩ := f.cx j HJ.out.2.2
            clear ho hj ht
            go_wp2_with fail
            have hb256 : X j ^^^ 2 ^ t < 256 := by
              have hj2 : 2 ^ t < 2 ^ 8 := Nat.pow_lt_pow_right (by omega) HJ.out.2.1
              have : X j ^^^ 2 ^ t < 2 ^ 8 := Nat.xor_lt_two_pow (by have := f.bx j; omega) hj2
              omega
            have hval : bits .xor .u8 (X j : Int) (2 ^ t % 256) = ((X j ^^^ 2 ^ t : Nat) : Int) := by
              have hj2 : 2 ^ t < 2 ^ 8 := Nat.pow_lt_pow_right (by omega) HJ.out.2.1
              rw [show ((2 : Int) ^ t % 256) = ((2 ^ t : Nat) : Int) by
                have e : ((2 ^ t : Nat) : Int) = (2 : Int) ^ t := by simp
                rw [← e]
                exact Int.emod_eq_of_lt (Int.natCast_nonneg _) (Int.ofNat_lt.2 hj2)]
              exact bx8 _ _ (f.bx j) (by omega)
            rw [hval]
            obtain ⟨hMk, ht8', hjn'⟩ := HJ.out
            obtain ⟨hq, hk1, hk2⟩ := HQ.out
            have hodd := HO.out
            rw [hq] at hodd
            have hnz : ¬ p % 2 ^ (k + 1) = 0 := fun h0 => by
              have := Nat.mod_mul_right_div_self p (2 ^ k) 2
              rw [← Nat.pow_succ, h0, Nat.zero_div] at this
              omega
            refine ⟨⟨k + 1, _, rfl, by omega, by omega, by simp [hnz], f.setX j _ hb256, ?_⟩, by simp [intOf]; omega⟩
            rw [numf_set n j (2 ^ t) X hjn', HN.out.1, mod_next p k, hodd, Nat.mul_one, mul_xor, Nat.xor_assoc, ← Nat.pow_add, ← Nat.pow_add, hMk]
          · have hoi : bits .and .u32 (q : Int) 1 = 0 := by rw [u32_one _ (by omega) (by omega)]; omega
            have HO : Hid (q % 2 = 0) := by show q % 2 = 0; omega
            clear ho
            go_wp2_with fail
            obtain ⟨hq, hk1, hk2⟩ := HQ.out
            have hev := HO.out
            rw [hq] at hev
            have hmn : p % 2 ^ (k + 1) = p % 2 ^ k := by rw [mod_next p k, hev, Nat.mul_zero, Nat.xor_zero]
            exact ⟨⟨k + 1, X, rfl, by omega, by omega, by rw [hmn, HTB.out], f, by rw [hmn]; exact HN.out.1⟩, by simp [intOf]; omega⟩
        · have HF : Hid (FS w wr g1 c1 g2 c2 n X Yf) := f
          have HCN : Hid (Rd w (cutAt (some ⟨b2, o2, none⟩) d 0) n (d - 0) (zs.take n)) := by
            have := HR.out.2.part 0 n (by omega)
            rw [List.drop_zero] at this
            exact this
          have HE : Hid ((CR (lst n X) == CR ys) = !tb ∧ ∃ Q, bits .xor .u32 (CR ys) (CR (zs.take n)) = Q ∧ bits .xor .u32 Q (CR (lst n (fun _ => 0))) = CR (lst n Yf)) := by
            refine ⟨?_, ?_⟩
            · rw [HTB.out, HY.out.1]
              exact burst_eq n M (p % 2 ^ k) X Bf (by omega) (Nat.lt_of_le_of_lt (Nat.mod_le _ _) hp) HN.out.1
            · rw [HY.out.1, HY.out.2.1, HYF.out]
              exact three_eq n Bf Cf HY.out.2.2.1 HY.out.2.2.2
          by_cases hk3 : k < 32
          · have e1 : decide ((k : Int) < 32) = true := by simp; omega
            have e2 : decide ((M : Int) + (k : Int) < 8 * (n : Int)) = false := by simp; omega
            have hk32 : (k : Int) < 32 := by omega
            have hMk9 : (M : Int) + k ≤ 64000 := by omega
            clear hin hk hMk f HN HTB hk3
            go_wp2_with (first
              | (at_make; refine wpList_make_full _ rfl _ _ 22 rfl 0 5 i0 (.int .u8 0) 1 Try.underlying22 hi hz0 hz1 _ _ _ _ n rfl rfl rfl rfl (by rw [hz2]; omega) (by unfold maxLen; omega) (Nat.zero_le _) ?_; intro w6 hown hgrow))
            have hz : HZ w w6 wr.heap.size n := HZ.mk' HF.out.bel hown hgrow
            have hf6 : FS w w6 g1 c1 g2 c2 n X Yf := HF.out.keep ((Below.refl _ _).grown hgrow (Nat.le_refl _) (fun k hk => by cases hk))
            obtain ⟨g3, hg3⟩ : ∃ g3, g3 = wr.heap.size := ⟨_, rfl⟩
            rw [← hg3] at hz ⊢
            clear hown hgrow hg3 i0 hi hz0 hz1 hz2
            have k1 := kx w g1 c1 g2 c2 g3 n X Yf (by omega)
            have k3 := ky w g1 c1 g2 c2 g3 n X Yf (by omega)
            have k5 := kz w g1 c1 g2 c2 g3 n X Yf (by omega)
            have k2 := kb w g1 c1 g2 c2 g3 n X Yf _ n c ys (by omega) HR.out.1
            have k4 := kb w g1 c1 g2 c2 g3 n X Yf _ n (d - 0) (zs.take n) (by omega) HCN.out
            obtain ⟨CX, hCX⟩ : ∃ v, v = CR (lst n X) := ⟨_, rfl⟩
            obtain ⟨CY, hCY⟩ : ∃ v, v = CR (lst n Yf) := ⟨_, rfl⟩
            obtain ⟨CB, hCB⟩ : ∃ v, v = CR ys := ⟨_, rfl⟩
            obtain ⟨CC, hCC⟩ : ∃ v, v = CR (zs.take n) := ⟨_, rfl⟩
            obtain ⟨CZ, hCZ⟩ : ∃ v, v = CR (lst n (fun _ => 0)) := ⟨_, rfl⟩
            rw [← hCX] at k1
            rw [← hCY] at k3
            rw [← hCB] at k2
            rw [← hCC] at k4
            rw [← hCZ] at k5
            have hbe : (CX != CB) = tb := by rw [hCX, hCB, bne, HE.out.1, Bool.not_not]
            obtain ⟨Q, hx1, hx2⟩ : ∃ Q, bits .xor .u32 CB CC = Q ∧ bits .xor .u32 Q CZ = CY := by rw [hCB, hCC, hCZ, hCY]; exact HE.out.2
            clear hCX hCY hCB hCC hCZ
            refine wp_region_quiet (C := fun w' => FS w w' g1 c1 g2 c2 n X Yf ∧ HZ w w' g3 n) (by kernel_rfl) (by kernel_rfl) ⟨hf6.keep (Below.refl _ _).drew, hz.keep (Below.refl _ _).drew⟩ ?_
            clear hf6 hz
            refine wpQuiet_step (fun K hK => ?_)
            (go_simp; refine ⟨_, fun wq hs hp => rfl, hK _ ?_⟩; clear hK K)
            refine wpQuiet_step (fun K hK => ?_)
            (refine q_call1 (by rfl) 9 cf9 _ _ rfl (.slice (some ⟨g1, 0, none⟩) n c1) rfl _ k1 (hK _ ?_); clear hK K)
            refine wpQuiet_step (fun K hK => ?_)
            (go_simp; refine ⟨_, fun wq hs hp => rfl, hK _ ?_⟩; clear hK K)
            refine wpQuiet_step (fun K hK => ?_)
            (refine q_call1 (by rfl) 9 cf9 _ _ rfl (.slice (some ⟨b1, o1, none⟩) n c) rfl _ k2 (hK _ ?_); clear hK K)
            refine wpQuiet_step (fun K hK => ?_)
            (go_simp; refine ⟨_, fun wq hs hp => rfl, hK _ ?_⟩; clear hK K)
            refine wpQuiet_step (fun K hK => ?_)
            (go_simp; refine ⟨_, fun wq hs hp => rfl, hK _ ?_⟩; clear hK K)
            refine wpQuiet_step (fun K hK => ?_)
            (go_simp; refine ⟨_, fun wq hs hp => rfl, hK _ ?_⟩; clear hK K)
            refine wpQuiet_step (fun K hK => ?_)
            (go_simp; refine ⟨_, fun wq hs hp => rfl, hK _ ?_⟩; clear hK K)
            refine wpQuiet_step (fun K hK => ?_)
            (go_simp; refine ⟨_, fun wq hs hp => rfl, hK _ ?_⟩; clear hK K)
            refine wpQuiet_step (fun K hK => ?_)
            (refine q_call1 (by rfl) 9 cf9 _ _ rfl (.slice (some ⟨g2, 0, none⟩) n c2) rfl _ k3 (hK _ ?_); clear hK K)
            refine wpQuiet_step (fun K hK => ?_)
            (go_simp; refine ⟨_, fun wq hs hp => rfl, hK _ ?_⟩; clear hK K)
            refine wpQuiet_step (fun K hK => ?_)
            (refine q_call1 (by rfl) 9 cf9 _ _ rfl (.slice (some ⟨b1, o1, none⟩) n c) rfl _ k2 (hK _ ?_); clear hK K)
            refine wpQuiet_step (fun K hK => ?_)
            (go_simp; refine ⟨_, fun wq hs hp => rfl, hK _ ?_⟩; clear hK K)
            refine wpQuiet_step (fun K hK => ?_)
            (go_simp; refine ⟨_, fun wq hs hp => rfl, hK _ ?_⟩; clear hK K)
            refine wpQuiet_step (fun K hK => ?_)
            (go_simp; refine ⟨_, fun wq hs hp => rfl, hK _ ?_⟩; clear hK K)
            refine wpQuiet_step (fun K hK => ?_)
            (refine q_sub (by rfl) _ _ _ rfl HR.out.2 0 n (by omega) rfl (.inr ⟨rfl, rfl⟩) (.inl (by rw [Nat.zero_add]; rfl)) (hK _ ?_); clear hK K)
            refine wpQuiet_step (fun K hK => ?_)
            (refine q_call1 (by rfl) 9 cf9 _ _ rfl (.slice (cutAt (some ⟨b2, o2, none⟩) d 0) n (d - 0)) rfl _ k4 (hK _ ?_); clear hK K)
            refine wpQuiet_step (fun K hK => ?_)
            (go_simp; refine ⟨_, fun wq hs hp => rfl, hK _ ?_⟩; clear hK K)
            refine wpQuiet_step (fun K hK => ?_)
            (go_simp; refine ⟨_, fun wq hs hp => rfl, hK _ ?_⟩; clear hK K)
            refine wpQuiet_step (fun K hK => ?_)
            (refine q_call1 (by rfl) 9 cf9 _ _ rfl (.slice (some ⟨g3, 0, none⟩) n n) rfl _ k5 (hK _ ?_); clear hK K)
            refine wpQuiet_step (fun K hK => ?_)
            (go_simp; refine ⟨_, fun wq hs hp => rfl, hK _ ?_⟩; clear hK K)
            refine wpQuiet_step (fun K hK => ?_)
            (go_simp; refine ⟨_, fun wq hs hp => rfl, hK _ ?_⟩; clear hK K)
            refine wpQuiet_step (fun K hK => ?_)
            (go_simp; refine ⟨_, fun wq hs hp => rfl, hK _ ?_⟩; clear hK K)
            refine wpQuiet_step (fun K hK => ?_)
            (go_simp; refine ⟨_, fun wq hs hp => rfl, hK _ ?_⟩; clear hK K)
            refine wpQuiet_nil ?_
            intro w9 h9
            have hb9 := h9.1.bel
            clear h9 k1 k2 k3 k4 k5 hbe hx1 hx2
            go_wp2_with fail
            go_ret
            exact ⟨rfl, hb9⟩
          · have e1 : decide ((k : Int) < 32) = false := by simp; omega
            clear hin hk hMk f HN HTB hk3
            go_wp2_with (first
              | (at_make; refine wpList_make_full _ rfl _ _ 22 rfl 0 5 i0 (.int .u8 0) 1 Try.underlying22 hi hz0 hz1 _ _ _ _ n rfl rfl rfl rfl (by rw [hz2]; omega) (by unfold maxLen; omega) (Nat.zero_le _) ?_; intro w6 hown hgrow))
            have hz : HZ w w6 wr.heap.size n := HZ.mk' HF.out.bel hown hgrow
            have hf6 : FS w w6 g1 c1 g2 c2 n X Yf := HF.out.keep ((Below.refl _ _).grown hgrow (Nat.le_refl _) (fun k hk => by cases hk))
            obtain ⟨g3, hg3⟩ : ∃ g3, g3 = wr.heap.size := ⟨_, rfl⟩
            rw [← hg3] at hz ⊢
            clear hown hgrow hg3 i0 hi hz0 hz1 hz2
            have k1 := kx w g1 c1 g2 c2 g3 n X Yf (by omega)
            have k3 := ky w g1 c1 g2 c2 g3 n X Yf (by omega)
            have k5 := kz w g1 c1 g2 c2 g3 n X Yf (by omega)
            have k2 := kb w g1 c1 g2 c2 g3 n X Yf _ n c ys (by omega) HR.out.1
            have k4 := kb w g1 c1 g2 c2 g3 n X Yf _ n (d - 0) (zs.take n) (by omega) HCN.out
            obtain ⟨CX, hCX⟩ : ∃ v, v = CR (lst n X) := ⟨_, rfl⟩
            obtain ⟨CY, hCY⟩ : ∃ v, v = CR (lst n Yf) := ⟨_, rfl⟩
            obtain ⟨CB, hCB⟩ : ∃ v, v = CR ys := ⟨_, rfl⟩
            obtain ⟨CC, hCC⟩ : ∃ v, v = CR (zs.take n) := ⟨_, rfl⟩
            obtain ⟨CZ, hCZ⟩ : ∃ v, v = CR (lst n (fun _ => 0)) := ⟨_, rfl⟩
            rw [← hCX] at k1
            rw [← hCY] at k3
            rw [← hCB] at k2
            rw [← hCC] at k4
            rw [← hCZ] at k5
            have hbe : (CX != CB) = tb := by rw [hCX, hCB, bne, HE.out.1, Bool.not_not]
            obtain ⟨Q, hx1, hx2⟩ : ∃ Q, bits .xor .u32 CB CC = Q ∧ bits .xor .u32 Q CZ = CY := by rw [hCB, hCC, hCZ, hCY]; exact HE.out.2
            clear hCX hCY hCB hCC hCZ
            refine wp_region_quiet (C := fun w' => FS w w' g1 c1 g2 c2 n X Yf ∧ HZ w w' g3 n) (by kernel_rfl) (by kernel_rfl) ⟨hf6.keep (Below.refl _ _).drew, hz.keep (Below.refl _ _).drew⟩ ?_
            clear hf6 hz
            refine wpQuiet_step (fun K hK => ?_)
            (go_simp; refine ⟨_, fun wq hs hp => rfl, hK _ ?_⟩; clear hK K)
            refine wpQuiet_step (fun K hK => ?_)
            (refine q_call1 (by rfl) 9 cf9 _ _ rfl (.slice (some ⟨g1, 0, none⟩) n c1) rfl _ k1 (hK _ ?_); clear hK K)
            refine wpQuiet_step (fun K hK => ?_)
            (go_simp; refine ⟨_, fun wq hs hp => rfl, hK _ ?_⟩; clear hK K)
            refine wpQuiet_step (fun K hK => ?_)
            (refine q_call1 (by rfl) 9 cf9 _ _ rfl (.slice (some ⟨b1, o1, none⟩) n c) rfl _ k2 (hK _ ?_); clear hK K)
            refine wpQuiet_step (fun K hK => ?_)
            (go_simp; refine ⟨_, fun wq hs hp => rfl, hK _ ?_⟩; clear hK K)
            refine wpQuiet_step (fun K hK => ?_)
            (go_simp; refine ⟨_, fun wq hs hp => rfl, hK _ ?_⟩; clear hK K)
            refine wpQuiet_step (fun K hK => ?_)
            (go_simp; refine ⟨_, fun wq hs hp => rfl, hK _ ?_⟩; clear hK K)
            refine wpQuiet_step (fun K hK => ?_)
            (go_simp; refine ⟨_, fun wq hs hp => rfl, hK _ ?_⟩; clear hK K)
            refine wpQuiet_step (fun K hK => ?_)
            (go_simp; refine ⟨_, fun wq hs hp => rfl, hK _ ?_⟩; clear hK K)
            refine wpQuiet_step (fun K hK => ?_)
            (refine q_call1 (by rfl) 9 cf9 _ _ rfl (.slice (some ⟨g2, 0, none⟩) n c2) rfl _ k3 (hK _ ?_); clear hK K)
            refine wpQuiet_step (fun K hK => ?_)
            (go_simp; refine ⟨_, fun wq hs hp => rfl, hK _ ?_⟩; clear hK K)
            refine wpQuiet_step (fun K hK => ?_)
            (refine q_call1 (by rfl) 9 cf9 _ _ rfl (.slice (some ⟨b1, o1, none⟩) n c) rfl _ k2 (hK _ ?_); clear hK K)
            refine wpQuiet_step (fun K hK => ?_)
            (go_simp; refine ⟨_, fun wq hs hp => rfl, hK _ ?_⟩; clear hK K)
            refine wpQuiet_step (fun K hK => ?_)
            (go_simp; refine ⟨_, fun wq hs hp => rfl, hK _ ?_⟩; clear hK K)
            refine wpQuiet_step (fun K hK => ?_)
            (go_simp; refine ⟨_, fun wq hs hp => rfl, hK _ ?_⟩; clear hK K)
            refine wpQuiet_step (fun K hK => ?_)
            (refine q_sub (by rfl) _ _ _ rfl HR.out.2 0 n (by omega) rfl (.inr ⟨rfl, rfl⟩) (.inl (by rw [Nat.zero_add]; rfl)) (hK _ ?_); clear hK K)
            refine wpQuiet_step (fun K hK => ?_)
            (refine q_call1 (by rfl) 9 cf9 _ _ rfl (.slice (cutAt (some ⟨b2, o2, none⟩) d 0) n (d - 0)) rfl _ k4 (hK _ ?_); clear hK K)
            refine wpQuiet_step (fun K hK => ?_)
            (go_simp; refine ⟨_, fun wq hs hp => rfl, hK _ ?_⟩; clear hK K)
            refine wpQuiet_step (fun K hK => ?_)
            (go_simp; refine ⟨_, fun wq hs hp => rfl, hK _ ?_⟩; clear hK K)
            refine wpQuiet_step (fun K hK => ?_)
            (refine q_call1 (by rfl) 9 cf9 _ _ rfl (.slice (some ⟨g3, 0, none⟩) n n) rfl _ k5 (hK _ ?_); clear hK K)
            refine wpQuiet_step (fun K hK => ?_)
            (go_simp; refine ⟨_, fun wq hs hp => rfl, hK _ ?_⟩; clear hK K)
            refine wpQuiet_step (fun K hK => ?_)
            (go_simp; refine ⟨_, fun wq hs hp => rfl, hK _ ?_⟩; clear hK K)
            refine wpQuiet_step (fun K hK => ?_)
            (go_simp; refine ⟨_, fun wq hs hp => rfl, hK _ ?_⟩; clear hK K)
            refine wpQuiet_step (fun K hK => ?_)
            (go_simp; refine ⟨_, fun wq hs hp => rfl, hK _ ?_⟩; clear hK K)
            refine wpQuiet_nil ?_
            intro w9 h9
            have hb9 := h9.1.bel
            clear h9 k1 k2 k3 k4 k5 hbe hx1 hx2
            go_wp2_with fail
            go_ret
            exact ⟨rfl, hb9⟩

end Go.Proofs.Ytlollkkhogofoaa
