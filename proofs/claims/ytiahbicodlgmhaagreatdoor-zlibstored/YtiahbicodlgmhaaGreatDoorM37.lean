/- ZUn, ZFr, ZKn, Tabs. -/
import Derived.Test.YtiahbicodlgmhaaGreatDoorM36
import Derived.Test.YtiahbicodlgmhaaGreatDoorRows
import Derived.LaidMore
import Derived.WideKeyArr2
/- Unpack. -/
namespace Go.Proofs.YtiahbicodlgmhaaGreatDoor.Z
open Go.RowKit

set_option maxRecDepth 100000 in
set_option maxHeartbeats 4000000 in
/-- A frame whose blocks are wrong. -/
theorem unpack_err (ao : Option Addr) (n c : Nat) (zs : List Int) (m : Int) (g : Int) (w : World) (hr : Rd w ao n c ([120, 156] ++ zs)) (hn : n ≤ 1000000000) (hg : g ≠ 0)
    (hI : ∀ (W : World) (a : Option Addr) (k : Nat), Below w.heap.size w W → Rd W a zs.length k zs → Calls Tryz.prog 16 #[.slice a zs.length k, .int .i64 m] W fun e w' => ∃ xo xc, e = .returned (.tuple #[.slice xo 0 xc, .int .i64 0, .int .i64 g]) ∧ Below W.heap.size W w') :
    Calls Tryz.prog 9 #[.slice ao n c, .int .i64 m] w fun e w' => e = .returned (.tuple #[.slice none 0 0, .int .i64 0, .int .i64 g]) ∧ Below w.heap.size w w' := by
  have hl := hr.len
  simp only [List.length_append, List.length_cons, List.length_nil] at hl
  have hle := hr.le
  obtain ⟨b, off, rfl, hcell⟩ := hr.plain (by omega)
  have c0 := hcell 0 (by omega)
  have c1 := hcell 1 (by omega)
  simp at c0 c1
  have e3 : ∀ W, Rd W (some ⟨b, off, none⟩) n c ([120, 156] ++ zs) → (Instr.slice 22 (.slice (some ⟨b, off, none⟩) n c) (some (.int .i64 2)) none none).run Tryz.prog W = .ok (.slice (if c = 2 then some ⟨b, off, none⟩ else Option.map (fun x : Addr => x.add 2) (some ⟨b, off, none⟩)) (n - 2) (c - 2)) W := fun W hW => Sum.run_sub (p := 2) (m := n - 2) hW (by omega) (some (.int .i64 2)) none (.inl rfl) (.inr ⟨rfl, by omega⟩)
  have hs := hr.sub 2 (n - 2) (by omega)
  have ezs : (([120, 156] ++ zs).drop 2).take (n - 2) = zs := by
    rw [show ([120, 156] ++ zs : List Int).drop 2 = zs from rfl, List.take_of_length_le (by omega)]
  rw [ezs] at hs
  obtain ⟨a2, ha2⟩ : ∃ a2, a2 = (if c = 2 then some (⟨b, off, none⟩ : Addr) else Option.map (fun x : Addr => x.add 2) (some ⟨b, off, none⟩)) := ⟨_, rfl⟩
  rw [← ha2] at hs e3
  have hzl : zs.length = n - 2 := by omega
  have hin := hI w.drew a2 (c - 2) (Below.refl _ _).drew (by rw [hzl]; exact hs.keep (Below.refl _ _).drew)
  rw [hzl] at hin
  have q3 := e3 w.drew (hr.keep (Below.refl _ _).drew)
  have d1 : decide ((n : Int) < 2) = false := by simp; omega
  have d2 : 0 < n := by omega
  have d3 : 1 < n := by omega
  have dg : (g == 0) = false := by simp [hg]
  clear hI hs ezs ha2 e3 hr hcell hl
  go_enter Tryz.func9, Tryz.ntmps9
  go_wp2_with fail
  go_region_with (go_at_call 19; refine (isHead_yes w.drew).mono ?_; rintro e w1 ⟨rfl, hw⟩; subst w1)
  all_goals
    go_wp2_with (go_at_call 16; refine hin.mono ?_; rintro e w2 ⟨xo, xc, rfl, hb2⟩)
    go_ret3
    exact ⟨rfl, (Below.refl _ _).drew.trans (hb2.mono (Nat.le_refl _))⟩

set_option maxRecDepth 100000 in
set_option maxHeartbeats 4000000 in
/-- A frame whose blocks are right, but of whose sum not all is there. -/
theorem unpack_sum (ao : Option Addr) (n c : Nat) (zs : List Int) (m : Int) (bs : List Int) (u : Nat) (w : World) (hr : Rd w ao n c ([120, 156] ++ zs)) (hn : n ≤ 1000000000) (hu : u ≤ zs.length) (hu4 : zs.length < u + 4)
    (hI : ∀ (W : World) (a : Option Addr) (k : Nat), Below w.heap.size w W → Rd W a zs.length k zs → Calls Tryz.prog 16 #[.slice a zs.length k, .int .i64 m] W fun e w' => ∃ xo xc, e = .returned (.tuple #[.slice xo bs.length xc, .int .i64 u, .int .i64 0]) ∧ Rd w' xo bs.length xc bs ∧ Below W.heap.size W w') :
    Calls Tryz.prog 9 #[.slice ao n c, .int .i64 m] w fun e w' => e = .returned (.tuple #[.slice none 0 0, .int .i64 0, .int .i64 3]) ∧ Below w.heap.size w w' := by
  have hl := hr.len
  simp only [List.length_append, List.length_cons, List.length_nil] at hl
  have hle := hr.le
  obtain ⟨b, off, rfl, hcell⟩ := hr.plain (by omega)
  have c0 := hcell 0 (by omega)
  have c1 := hcell 1 (by omega)
  simp at c0 c1
  have e3 : ∀ W, Rd W (some ⟨b, off, none⟩) n c ([120, 156] ++ zs) → (Instr.slice 22 (.slice (some ⟨b, off, none⟩) n c) (some (.int .i64 2)) none none).run Tryz.prog W = .ok (.slice (if c = 2 then some ⟨b, off, none⟩ else Option.map (fun x : Addr => x.add 2) (some ⟨b, off, none⟩)) (n - 2) (c - 2)) W := fun W hW => Sum.run_sub (p := 2) (m := n - 2) hW (by omega) (some (.int .i64 2)) none (.inl rfl) (.inr ⟨rfl, by omega⟩)
  have e4 : ∀ W, Rd W (some ⟨b, off, none⟩) n c ([120, 156] ++ zs) → (Instr.slice 22 (.slice (some ⟨b, off, none⟩) n c) (some (.int .i64 (2 + (u : Int)))) none none).run Tryz.prog W = .ok (.slice (if c = 2 + u then some ⟨b, off, none⟩ else Option.map (fun x : Addr => x.add (2 + u)) (some ⟨b, off, none⟩)) (n - (2 + u)) (c - (2 + u))) W := fun W hW => Sum.run_sub (p := 2 + u) (m := n - (2 + u)) hW (by omega) (some (.int .i64 (2 + (u : Int)))) none (.inl (by rw [show ((2 + u : Nat) : Int) = 2 + (u : Int) by omega])) (.inr ⟨rfl, by omega⟩)
  have hs := hr.sub 2 (n - 2) (by omega)
  have ezs : (([120, 156] ++ zs).drop 2).take (n - 2) = zs := by
    rw [show ([120, 156] ++ zs : List Int).drop 2 = zs from rfl, List.take_of_length_le (by omega)]
  rw [ezs] at hs
  obtain ⟨a2, ha2⟩ : ∃ a2, a2 = (if c = 2 then some (⟨b, off, none⟩ : Addr) else Option.map (fun x : Addr => x.add 2) (some ⟨b, off, none⟩)) := ⟨_, rfl⟩
  rw [← ha2] at hs e3
  obtain ⟨a3, ha3⟩ : ∃ a3, a3 = (if c = 2 + u then some (⟨b, off, none⟩ : Addr) else Option.map (fun x : Addr => x.add (2 + u)) (some ⟨b, off, none⟩)) := ⟨_, rfl⟩
  rw [← ha3] at e4
  have hzl : zs.length = n - 2 := by omega
  have hin := hI w.drew a2 (c - 2) (Below.refl _ _).drew (by rw [hzl]; exact hs.keep (Below.refl _ _).drew)
  rw [hzl] at hin
  have q3 := e3 w.drew (hr.keep (Below.refl _ _).drew)
  have HR : Hid (Rd w (some ⟨b, off, none⟩) n c ([120, 156] ++ zs)) := hr
  have HE4 : Hid (∀ W, Rd W (some ⟨b, off, none⟩) n c ([120, 156] ++ zs) → (Instr.slice 22 (.slice (some ⟨b, off, none⟩) n c) (some (.int .i64 (2 + (u : Int)))) none none).run Tryz.prog W = .ok (.slice a3 (n - (2 + u)) (c - (2 + u))) W) := e4
  obtain ⟨k3, hk3⟩ : ∃ k3, k3 = n - (2 + u) := ⟨_, rfl⟩
  have HK3 : Hid (k3 = n - (2 + u)) := hk3
  have d1 : decide ((n : Int) < 2) = false := by simp; omega
  have d2 : 0 < n := by omega
  have d3 : 1 < n := by omega
  have d4 : (k3 : Int) < 4 := by omega
  have d5 : u ≤ 1000000000 := by omega
  clear hI hs ezs ha2 e3 hr hcell hl e4 ha3 hk3
  go_enter Tryz.func9, Tryz.ntmps9
  go_wp2_with fail
  go_region_with (go_at_call 19; refine (isHead_yes w.drew).mono ?_; rintro e w1 ⟨rfl, hw⟩; subst w1)
  all_goals
    go_wp2_with (go_at_call 16; refine hin.mono ?_; rintro e w2 ⟨xo, xc, rfl, hx, hb2⟩; have q4 := HE4.out w2 ((HR.out.keep (Below.refl _ _).drew).keep hb2); rw [← HK3.out] at q4)
    go_ret3
    exact ⟨rfl, (Below.refl _ _).drew.trans (hb2.mono (Nat.le_refl _))⟩

set_option maxRecDepth 100000 in
set_option maxHeartbeats 4000000 in
/-- A frame that is right. -/
theorem unpack_yes (ao : Option Addr) (n c : Nat) (zs ts : List Int) (m : Int) (bs : List Int) (u : Nat) (w : World) (hr : Rd w ao n c ([120, 156] ++ (zs ++ (su4 (adl bs) ++ ts)))) (hn : n ≤ 1000000000) (hu : u = zs.length) (hbl : bs.length ≤ 1000000)
    (hI : ∀ (W : World) (a : Option Addr) (k : Nat), Below w.heap.size w W → Rd W a (zs ++ (su4 (adl bs) ++ ts)).length k (zs ++ (su4 (adl bs) ++ ts)) → Calls Tryz.prog 16 #[.slice a (zs ++ (su4 (adl bs) ++ ts)).length k, .int .i64 m] W fun e w' => ∃ xo xc, e = .returned (.tuple #[.slice xo bs.length xc, .int .i64 u, .int .i64 0]) ∧ Rd w' xo bs.length xc bs ∧ Below W.heap.size W w') :
    Calls Tryz.prog 9 #[.slice ao n c, .int .i64 m] w fun e w' => ∃ xo xc, e = .returned (.tuple #[.slice xo bs.length xc, .int .i64 (2 + (u : Int) + 4), .int .i64 0]) ∧ Rd w' xo bs.length xc bs ∧ Below w.heap.size w w' := by
  have hl := hr.len
  obtain ⟨ys, hys⟩ : ∃ ys, ys = zs ++ (su4 (adl bs) ++ ts) := ⟨_, rfl⟩
  rw [← hys] at hr hI hl
  have hyl : ys.length = u + 4 + ts.length := by rw [hys, hu]; simp [su4]; omega
  simp only [List.length_append, List.length_cons, List.length_nil] at hl
  have hle := hr.le
  obtain ⟨b, off, rfl, hcell⟩ := hr.plain (by omega)
  have c0 := hcell 0 (by omega)
  have c1 := hcell 1 (by omega)
  simp at c0 c1
  have e3 : ∀ W, Rd W (some ⟨b, off, none⟩) n c ([120, 156] ++ ys) → (Instr.slice 22 (.slice (some ⟨b, off, none⟩) n c) (some (.int .i64 2)) none none).run Tryz.prog W = .ok (.slice (if c = 2 then some ⟨b, off, none⟩ else Option.map (fun x : Addr => x.add 2) (some ⟨b, off, none⟩)) (n - 2) (c - 2)) W := fun W hW => Sum.run_sub (p := 2) (m := n - 2) hW (by omega) (some (.int .i64 2)) none (.inl rfl) (.inr ⟨rfl, by omega⟩)
  have e4 : ∀ W, Rd W (some ⟨b, off, none⟩) n c ([120, 156] ++ ys) → (Instr.slice 22 (.slice (some ⟨b, off, none⟩) n c) (some (.int .i64 (2 + (u : Int)))) none none).run Tryz.prog W = .ok (.slice (if c = 2 + u then some ⟨b, off, none⟩ else Option.map (fun x : Addr => x.add (2 + u)) (some ⟨b, off, none⟩)) (n - (2 + u)) (c - (2 + u))) W := fun W hW => Sum.run_sub (p := 2 + u) (m := n - (2 + u)) hW (by omega) (some (.int .i64 (2 + (u : Int)))) none (.inl (by rw [show ((2 + u : Nat) : Int) = 2 + (u : Int) by omega])) (.inr ⟨rfl, by omega⟩)
  have hs := hr.sub 2 (n - 2) (by omega)
  have ezs : (([120, 156] ++ ys).drop 2).take (n - 2) = ys := by
    rw [show ([120, 156] ++ ys : List Int).drop 2 = ys from rfl, List.take_of_length_le (by omega)]
  rw [ezs] at hs
  have HSB : Hid (∀ W, Rd W (some ⟨b, off, none⟩) n c ([120, 156] ++ ys) → Rd W (if c = 2 + u then some ⟨b, off, none⟩ else Option.map (fun x : Addr => x.add (2 + u)) (some ⟨b, off, none⟩)) (n - (2 + u)) (c - (2 + u)) (su4 (adl bs) ++ ts)) := fun W hW => by
    have := hW.sub (2 + u) (n - (2 + u)) (by omega)
    have e : (([120, 156] ++ ys).drop (2 + u)).take (n - (2 + u)) = su4 (adl bs) ++ ts := by
      rw [show (([120, 156] ++ ys : List Int).drop (2 + u)) = ys.drop u by rw [← List.drop_drop]; rfl, hys, hu, List.drop_left, List.take_of_length_le]
      simp only [List.length_append, su4, List.length_cons, List.length_nil]
      omega
    rw [e] at this
    exact this
  obtain ⟨a2, ha2⟩ : ∃ a2, a2 = (if c = 2 then some (⟨b, off, none⟩ : Addr) else Option.map (fun x : Addr => x.add 2) (some ⟨b, off, none⟩)) := ⟨_, rfl⟩
  rw [← ha2] at hs e3
  obtain ⟨a3, ha3⟩ : ∃ a3, a3 = (if c = 2 + u then some (⟨b, off, none⟩ : Addr) else Option.map (fun x : Addr => x.add (2 + u)) (some ⟨b, off, none⟩)) := ⟨_, rfl⟩
  rw [← ha3] at e4 HSB
  have hzl : ys.length = n - 2 := by omega
  have hin := hI w.drew a2 (c - 2) (Below.refl _ _).drew (by rw [hzl]; exact hs.keep (Below.refl _ _).drew)
  rw [hzl] at hin
  have q3 := e3 w.drew (hr.keep (Below.refl _ _).drew)
  have HR : Hid (Rd w (some ⟨b, off, none⟩) n c ([120, 156] ++ ys)) := hr
  have HE4 : Hid (∀ W, Rd W (some ⟨b, off, none⟩) n c ([120, 156] ++ ys) → (Instr.slice 22 (.slice (some ⟨b, off, none⟩) n c) (some (.int .i64 (2 + (u : Int)))) none none).run Tryz.prog W = .ok (.slice a3 (n - (2 + u)) (c - (2 + u))) W) := e4
  obtain ⟨k3, hk3⟩ : ∃ k3, k3 = n - (2 + u) := ⟨_, rfl⟩
  have HK3 : Hid (k3 = n - (2 + u)) := hk3
  have hk4 : k3 = 4 + ts.length := by omega
  obtain ⟨c3, hc3⟩ : ∃ c3, c3 = c - (2 + u) := ⟨_, rfl⟩
  rw [← hk3, ← hc3] at HSB HE4
  have e5 : ∀ W, Rd W a3 k3 c3 (su4 (adl bs) ++ ts) → (Instr.slice 22 (.slice a3 k3 c3) none (some (.int .i64 4)) none).run Tryz.prog W = .ok (.slice (if c3 = 0 then a3 else Option.map (fun x : Addr => x.add 0) a3) 4 (c3 - 0)) W := fun W hW => Sum.run_sub (p := 0) (m := 4) hW (by omega) none (some (.int .i64 4)) (.inr ⟨rfl, rfl⟩) (.inl rfl)
  have HS5 : Hid (∀ W, Rd W a3 k3 c3 (su4 (adl bs) ++ ts) → Rd W (if c3 = 0 then a3 else Option.map (fun x : Addr => x.add 0) a3) 4 (c3 - 0) (su4 (adl bs))) := fun W hW => by
    have := hW.sub 0 4 (by omega)
    rw [List.drop_zero, show (su4 (adl bs) ++ ts).take 4 = su4 (adl bs) from List.take_left' rfl] at this
    exact this
  obtain ⟨a5, ha5⟩ : ∃ a5, a5 = (if c3 = 0 then a3 else Option.map (fun x : Addr => x.add 0) a3) := ⟨_, rfl⟩
  rw [← ha5] at e5 HS5
  have HE5 : Hid (∀ W, Rd W a3 k3 c3 (su4 (adl bs) ++ ts) → (Instr.slice 22 (.slice a3 k3 c3) none (some (.int .i64 4)) none).run Tryz.prog W = .ok (.slice a5 4 (c3 - 0)) W) := e5
  have d1 : decide ((n : Int) < 2) = false := by simp; omega
  have d2 : 0 < n := by omega
  have d3 : 1 < n := by omega
  have d4 : decide ((k3 : Int) < 4) = false := by simp; omega
  have d5 : u ≤ 1000000000 := by omega
  have d6 : bs.length ≤ 1000000 := hbl
  clear hI hs ezs ha2 e3 hr hcell hl e4 ha3 hk3 hc3 ha5 e5 hys hu hyl hzl hk4 hbl
  go_enter Tryz.func9, Tryz.ntmps9
  go_wp2_with fail
  go_region_with (go_at_call 19; refine (isHead_yes w.drew).mono ?_; rintro e w1 ⟨rfl, hw⟩; subst w1)
  all_goals
    go_wp2_with (go_at_call 16; refine hin.mono ?_; rintro e w2 ⟨xo, xc, rfl, hx, hb2⟩; have r2 := (HR.out.keep (Below.refl _ _).drew).keep hb2; have q4 := HE4.out w2 r2; have r3 := HSB.out w2 r2)
    have r4 := r3.keep (Below.refl w2.heap.size w2).drew
    have q5 := HE5.out w2.drew r4
    have r5 := HS5.out w2.drew r4
    have hsm := sumOf_any xo bs.length xc bs w2.drew (hx.keep (Below.refl _ _).drew) (by omega)
    have HX : Hid (Rd w2 xo bs.length xc bs) := hx
    have HR4 : Hid (Rd w2.drew a3 k3 c3 (su4 (adl bs) ++ ts)) := r4
    have HB2 : Hid (Below w.heap.size w w2) := (Below.refl _ _).drew.trans (hb2.mono (Nat.le_refl _))
    clear hin hx hb2 r2 r3 r4 q3 q4
    go_region_with (first
      | (go_at_call 21; refine hsm.mono ?_; rintro e w3 ⟨rfl, hs3, hb3⟩; have q6 := HE5.out w3 (HR4.out.keep hb3))
      | (go_at_call 20; refine (equal_yes a5 4 (c3 - 0) (some ⟨w2.drew.heap.size, 0, none⟩) 4 4 (su4 (adl bs)) w3 (r5.keep hb3) hs3).mono ?_; rintro e w4 ⟨rfl, hb4⟩))
    all_goals
      (try simp only [List.getElem_toArray, List.getElem_cons_zero, List.getElem_cons_succ, Act.put, List.setIfInBounds_toArray, List.set_cons_zero, List.set_cons_succ])
      have HX4 : Hid (Rd w4 xo bs.length xc bs) := ((HX.out.keep (Below.refl w2.heap.size w2).drew).keep hb3).keep hb4
      have HB3 : Below w.heap.size w w3 := HB2.out.drew.trans (hb3.mono HB2.out.size)
      have HB4 : Hid (Below w.heap.size w w4) := HB3.trans (hb4.mono HB3.size)
      clear hs3 hb3 hb4 q5 q6 r5 hsm HB3
      go_wp2_with fail
      go_ret3
      exact ⟨xo, xc, rfl, HX4.out, HB4.out⟩

end Go.Proofs.YtiahbicodlgmhaaGreatDoor.Z

/- Frames, unpacked. -/
namespace Go.Proofs.YtiahbicodlgmhaaGreatDoor.Z
open Go.RowKit

theorem pkF_len (F : List Fd) (bs : List Int) : (pkF F bs).length = 2 + (fb F + 7) / 8 + 4 := by
  simp only [pkF, List.length_append, byF_len, su4, List.length_cons, List.length_nil]

theorem pkF_byt (F : List Fd) (bs : List Int) : ∀ x ∈ pkF F bs, 0 ≤ x ∧ x < 256 := by
  intro x hx
  simp only [pkF, List.mem_append, List.mem_cons, List.not_mem_nil, or_false] at hx
  rcases hx with (hx | hx) | hx
  · omega
  · exact by8_byt _ _ x hx
  · exact su4_byt _ x hx

theorem pkF_tail (F : List Fd) (bs ts : List Int) : pkF F bs ++ ts = [120, 156] ++ (byF F ++ (su4 (adl bs) ++ ts)) := by
  simp only [pkF, List.append_assoc]

theorem unpack_read {bs : List Int} {F : List Fd} (h : Dfl bs F) (hf : Ft F) (hb : ∀ x ∈ bs, 0 ≤ x ∧ x < 256) (ts : List Int) (ao : Option Addr) (n c m : Nat) (w : World) (hr : Rd w ao n c (pkF F bs ++ ts)) (hn : n ≤ 1000000000) (hT : Tab w 0) (hm : bs.length ≤ m) (hm2 : m ≤ 262144) :
    Calls Tryz.prog 9 #[.slice ao n c, .int .i64 m] w fun e w' => ∃ xo xc, e = .returned (.tuple #[.slice xo bs.length xc, .int .i64 (2 + (((fb F + 7) / 8 : Nat) : Int) + 4), .int .i64 0]) ∧ Rd w' xo bs.length xc bs ∧ Below w.heap.size w w' := by
  rw [pkF_tail] at hr
  refine unpack_yes ao n c (byF F) ts m bs _ w hr hn (byF_len F).symm (by omega) (fun W a k hW hR => ?_)
  exact infl_read h hf hb (su4 (adl bs) ++ ts) a _ k m W hR (by have := hr.len; simp only [List.length_append, List.length_cons, List.length_nil] at this ⊢; omega) (tab_below hT hW) hm hm2

theorem unpack_long {bs : List Int} {F : List Fd} (h : Dfl bs F) (hf : Ft F) (hs : bs.length ≤ 65535) (ts : List Int) (ao : Option Addr) (n c m : Nat) (w : World) (hr : Rd w ao n c (pkF F bs ++ ts)) (hn : n ≤ 1000000000) (hT : Tab w 0) (hm : m < bs.length) (hm2 : m ≤ 262144) :
    Calls Tryz.prog 9 #[.slice ao n c, .int .i64 m] w fun e w' => e = .returned (.tuple #[.slice none 0 0, .int .i64 0, .int .i64 5]) ∧ Below w.heap.size w w' := by
  rw [pkF_tail] at hr
  refine unpack_err ao n c _ m 5 w hr hn (by decide) (fun W a k hW hR => ?_)
  exact infl_long h hf hs (su4 (adl bs) ++ ts) a _ k m W hR (by have := hr.len; simp only [List.length_append, List.length_cons, List.length_nil] at this ⊢; omega) (tab_below hT hW) hm hm2

theorem unpack_cut {bs : List Int} {F : List Fd} (h : Dfl bs F) (hf : Ft F) (hb : ∀ x ∈ bs, 0 ≤ x ∧ x < 256) (hs : bs.length ≤ 65535) (ao : Option Addr) (n c m : Nat) (w : World) (hr : Rd w ao n c ((pkF F bs).take n)) (hn : n ≤ 1000000000) (h2 : 2 ≤ n) (hnF : n < 2 + (fb F + 7) / 8) (hT : Tab w 0) (hm : bs.length ≤ m) (hm2 : m ≤ 262144) :
    Calls Tryz.prog 9 #[.slice ao n c, .int .i64 m] w fun e w' => e = .returned (.tuple #[.slice none 0 0, .int .i64 0, .int .i64 3]) ∧ Below w.heap.size w w' := by
  have e : (pkF F bs).take n = [120, 156] ++ (byF F).take (n - 2) := by
    obtain ⟨k, rfl⟩ : ∃ k, n = k + 2 := ⟨n - 2, by omega⟩
    have hF := byF_len F
    simp only [pkF, List.cons_append, List.nil_append, List.take_succ_cons, Nat.add_sub_cancel]
    rw [List.take_append_of_le_length (by omega)]
  have hlk : ((byF F).take (n - 2)).length = n - 2 := by rw [List.length_take, byF_len]; omega
  rw [e] at hr
  refine unpack_err ao n c _ m 3 w hr hn (by decide) (fun W a k hW hR => ?_)
  rw [hlk] at hR ⊢
  exact infl_cut h hf hb hs a (n - 2) k m W hR (by omega) (by omega) (tab_below hT hW) hm hm2

theorem unpack_less {bs : List Int} {F : List Fd} (h : Dfl bs F) (hf : Ft F) (hb : ∀ x ∈ bs, 0 ≤ x ∧ x < 256) (ao : Option Addr) (n c m : Nat) (w : World) (hr : Rd w ao n c ((pkF F bs).take n)) (hn : n ≤ 1000000000) (h2 : 2 + (fb F + 7) / 8 ≤ n) (hnF : n < 2 + (fb F + 7) / 8 + 4) (hT : Tab w 0) (hm : bs.length ≤ m) (hm2 : m ≤ 262144) :
    Calls Tryz.prog 9 #[.slice ao n c, .int .i64 m] w fun e w' => e = .returned (.tuple #[.slice none 0 0, .int .i64 0, .int .i64 3]) ∧ Below w.heap.size w w' := by
  have hF := byF_len F
  have e : (pkF F bs).take n = [120, 156] ++ (byF F ++ (su4 (adl bs)).take (n - (2 + (fb F + 7) / 8))) := by
    obtain ⟨k, rfl⟩ : ∃ k, n = k + 2 := ⟨n - 2, by omega⟩
    simp only [pkF, List.cons_append, List.nil_append, List.take_succ_cons]
    rw [List.take_append, List.take_of_length_le (by omega), hF, show k + 2 - (2 + (fb F + 7) / 8) = k - (fb F + 7) / 8 by omega]
  have h4 : (su4 (adl bs)).length = 4 := rfl
  have hlk : (byF F ++ (su4 (adl bs)).take (n - (2 + (fb F + 7) / 8))).length = n - 2 := by rw [List.length_append, List.length_take, hF, h4]; omega
  rw [e] at hr
  refine unpack_sum ao n c _ m bs ((fb F + 7) / 8) w hr hn (by omega) (by omega) (fun W a k hW hR => ?_)
  exact infl_read h hf hb _ a _ k m W hR (by omega) (tab_below hT hW) hm hm2

/-- What holds something has more than sixteen bits. -/
theorem dfl_least {bs : List Int} {F : List Fd} (h : Dfl bs F) (hb : bs ≠ []) : 17 ≤ fb F := by
  cases h with
  | sto => rw [stk_full]; unfold ssz nck; omega
  | fix is h1 h2 =>
    have h7 : ∀ i, i < 288 → 7 ≤ (fl i).toNat := by decide +kernel
    cases is with
    | nil =>
      have := (h2 bs.length).1 (Nat.le_refl _)
      simp only [play, Prod.mk.injEq] at this
      exact absurd this.2.symm hb
    | cons i is =>
      have hi := h1 i (by simp)
      have e1 : fb (encS fl 288 dl 32 (stps (i :: is) ++ [eos])) = fb (encS fl 288 dl 32 (stp i)) + fb (encS fl 288 dl 32 (stps is)) + 7 := by
        rw [show stps (i :: is) = stp i ++ stps is by simp [stps], encS_app, encS_app, fb_app, fb_app]
        rfl
      have e2 : 7 ≤ fb (encS fl 288 dl 32 (stp i)) := by
        cases i with
        | lit b =>
          have hb : b < 256 := hi
          have := h7 b (by omega)
          simp only [stp, encS, fb, List.append_nil, if_true, gf, Int.toNat_natCast]
          omega
        | cpy s v d u =>
          have hs : 257 ≤ s ∧ s ≤ 285 := ⟨hi.1, hi.2.1⟩
          have := h7 s (by omega)
          simp only [stp, encS, fb_app, fb, List.append_nil, if_true, gf, Int.toNat_natCast]
          omega
      rw [fb_app, e1]
      simp only [fb]
      omega
  | tld is nl nd vn L0 L1 Lc qs h1 h2 h3 =>
    have := h3.v4
    rw [fb_app, fb_app]
    simp only [tlf, fb_app, fb, vfo_fb]
    omega

end Go.Proofs.YtiahbicodlgmhaaGreatDoor.Z

/- There and back. -/
namespace Go.Proofs.YtiahbicodlgmhaaGreatDoor.Z
open Go.RowKit

/-- Three times the word. -/
def hel : List Int := [104, 101, 108, 108, 111, 32, 104, 101, 108, 108, 111, 32, 104, 101, 108, 108, 111]

theorem hel_byt : ∀ x ∈ hel, 0 ≤ x ∧ x < 256 := by decide

theorem ix0 (W : World) (b o l c : Nat) (h : 0 < l) : (Instr.indexAt 22 (.slice (some ⟨b, o, none⟩) l c) (.int .i64 0)).run Tryz.prog W = .ok (.pointer (some ⟨b, o, none⟩)) W := by
  simp [go_sem]
  intro e
  omega

set_option maxRecDepth 100000 in
set_option maxHeartbeats 4000000 in
theorem known_yes (w : World) (h0 : Tab w 0) (h1 : Tab w 1) : Calls Tryz.prog 8 #[] w fun e w' => e = .returned (.bool true) ∧ Below w.heap.size w w' := by
  have hp : ∀ W1 W, W1 = w.alloc (Obj.cells #[.int .u8 104, .int .u8 101, .int .u8 108, .int .u8 108, .int .u8 111, .int .u8 32, .int .u8 104, .int .u8 101, .int .u8 108, .int .u8 108, .int .u8 111, .int .u8 32, .int .u8 104, .int .u8 101, .int .u8 108, .int .u8 108, .int .u8 111] 5) → Fr (fun k => k = w.heap.size) W1 W → (∀ p, W.cell? p = W1.cell? p) → Calls Tryz.prog 14 #[.slice (some ⟨w.heap.size, 0, none⟩) 17 17, .int .i64 2] W fun e w' => ∃ ao c F, e = .returned (.slice ao (2 + (fb F + 7) / 8 + 4) c) ∧ Dd hel 2 17 F ∧ Rd w' ao (2 + (fb F + 7) / 8 + 4) c (pkF F hel) ∧ Below w.heap.size w w' := fun W1 W e1 hf hc => by
    have b1 : Below w.heap.size w W1 := by rw [e1]; exact (Below.refl _ _).alloc (Nat.le_refl _) _
    have b2 : Below w.heap.size w W := b1.trans (hf.below _ b1.size (fun i hi e => by omega))
    have r1 : Rd W1 (some ⟨w.heap.size, 0, none⟩) 17 17 hel := by rw [e1]; exact rd_new rfl rfl hel_byt
    refine (pack_any (some ⟨w.heap.size, 0, none⟩) 17 17 hel 2 W (r1.same hc) (by omega) (by omega) (tab_keep h1 b2)).mono ?_
    rintro e w' ⟨v, F, rfl, hd, ho, hb⟩
    obtain ⟨ao, c, rfl, hrd, _⟩ := Lzz.own_rd ho (pkF_byt _ _)
    exact ⟨ao, c, F, rfl, hd, hrd, b2.trans (hb.mono b2.size)⟩
  have HT : Hid (Tab w 0) := h0
  clear h0 h1
  go_enter Tryz.func8, Tryz.ntmps8
  go_wp2_with (first
    | (refine Sum.wpList_conv rfl _ rfl ⟨w.heap.size, 0, none⟩ 17 17 rfl ?_; intro w1 hf1 hc1)
    | (go_at_call 14; refine (hp _ w1 rfl hf1 hc1).mono ?_; rintro e w2 ⟨ao, c, F, rfl, hd, hrd, B2⟩))
  have hls := dfl_least hd.dfl (by decide)
  have hle := hd.le
  have hss : ssz 17 = 22 := by decide
  have hrd' : Rd w2 ao (2 + (fb F + 7) / 8 + 4) c (pkF F hel ++ []) := by rw [List.append_nil]; exact hrd
  have hu1 := unpack_read hd.dfl hd.ft hel_byt [] ao _ c 100 w2 hrd' (by omega) (tab_below HT.out B2) (by decide) (by omega)
  obtain ⟨k, hk⟩ : ∃ k, k = (fb F + 7) / 8 := ⟨_, rfl⟩
  obtain ⟨l, hl⟩ : ∃ l, l = 2 + (fb F + 7) / 8 + 4 := ⟨_, rfl⟩
  rw [← hl, show 2 + (((fb F + 7) / 8 : Nat) : Int) + 4 = (l : Int) by omega, show hel.length = 17 from rfl] at hu1
  rw [← hl] at hrd ⊢
  have hl9 : 9 ≤ l ∧ l ≤ 40 := by omega
  have hlk : 2 ≤ l / 2 ∧ l / 2 < 2 + (fb F + 7) / 8 := by omega
  have e4 : ∀ W, Rd W ao l c (pkF F hel) → (Instr.slice 22 (.slice ao l c) none (some (.int .i64 ((l : Int) / 2))) none).run Tryz.prog W = .ok (.slice (if c = 0 then ao else Option.map (fun x : Addr => x.add 0) ao) (l / 2) (c - 0)) W := fun W hW => Sum.run_sub (p := 0) (m := l / 2) hW (by omega) none (some (.int .i64 ((l : Int) / 2))) (.inr ⟨rfl, rfl⟩) (.inl (by rw [show ((0 + l / 2 : Nat) : Int) = (l : Int) / 2 by omega]))
  have HS4 : Hid (∀ W, Rd W ao l c (pkF F hel) → Rd W (if c = 0 then ao else Option.map (fun x : Addr => x.add 0) ao) (l / 2) (c - 0) ((pkF F hel).take (l / 2))) := fun W hW => by
    have := hW.sub 0 (l / 2) (by omega)
    rw [List.drop_zero] at this
    exact this
  obtain ⟨a4, ha4⟩ : ∃ a4, a4 = (if c = 0 then ao else Option.map (fun x : Addr => x.add 0) ao) := ⟨_, rfl⟩
  rw [← ha4] at e4 HS4
  have HE4 : Hid (∀ W, Rd W ao l c (pkF F hel) → (Instr.slice 22 (.slice ao l c) none (some (.int .i64 ((l : Int) / 2))) none).run Tryz.prog W = .ok (.slice a4 (l / 2) (c - 0)) W) := e4
  have HLK : Hid (2 ≤ l / 2 ∧ l / 2 < 2 + (fb F + 7) / 8) := hlk
  have HDD : Hid (Dd hel 2 17 F) := hd
  have HRD : Hid (Rd w2 ao l c (pkF F hel)) := hrd
  have HB2 : Hid (Below w.heap.size w w2) := B2
  clear hp hf1 hc1 hls hle hss hrd' hk hl hlk e4 ha4 hd hrd B2
  refine hu1.mono ?_
  rintro e w3 ⟨xo, xc, rfl, hx, hb3⟩
  have r3 := HRD.out.keep hb3
  have q4 := HE4.out w3 r3
  have B3 := HB2.out.trans (hb3.mono HB2.out.size)
  have hu2 := unpack_cut HDD.out.dfl HDD.out.ft hel_byt (by decide) a4 (l / 2) (c - 0) 100 w3 (HS4.out w3 r3) (by omega) HLK.out.1 HLK.out.2 (tab_below HT.out B3) (by decide) (by omega)
  have HX : Hid (Rd w3 xo 17 xc hel) := hx
  have HB3 : Hid (Below w.heap.size w w3) := B3
  have HR3 : Hid (Rd w3 ao l c (pkF F hel)) := r3
  clear hu1 hx hb3 r3 B3
  obtain ⟨zb, zo, rfl, _⟩ := HR3.out.plain (by omega)
  have HI : Hid (∀ W, Below w3.heap.size w3 W → W.cell? ⟨zb, zo, none⟩ = some (.int .u8 120) ∧ (convert 22 9 (.slice xo 17 xc)).run Tryz.prog W = .ok (.string { data := #[104, 101, 108, 108, 111, 32, 104, 101, 108, 108, 111, 32, 104, 101, 108, 108, 111] }) W) := fun W hW => by
    constructor
    · have := (HR3.out.keep hW).cells _ rfl 0 (by omega)
      rw [Addr.add_lit, Nat.add_zero] at this
      exact this
    · have := str22 (HX.out.keep hW)
      rw [show strOfNums hel = { data := #[104, 101, 108, 108, 111, 32, 104, 101, 108, 108, 111, 32, 104, 101, 108, 108, 111] } from rfl] at this
      exact this
  have d9 : 0 < l := by omega
  have d10 : (0 : Int) < l := by omega
  have d12 : (8 : Int) < l := by omega
  clear HS4 HE4 HRD HR3 HX HLK
  go_wp2_with (go_at_call 9; refine hu2.mono ?_; rintro e w4 ⟨rfl, hb4⟩; have z0 := (HI.out w4 hb4).1; have q5 := (HI.out w4 hb4).2; have qi := ix0 w4 zb zo l c d9)
  go_ret
  exact ⟨rfl, HB3.out.trans (hb4.mono HB3.out.size)⟩

end Go.Proofs.YtiahbicodlgmhaaGreatDoor.Z

/- The two tables, out of what is laid. -/
namespace Go.Proofs.YtiahbicodlgmhaaGreatDoor.Z
open Go.RowKit

theorem ints_of_trod {H : Type} {enc : TypeId × Value → H} {W : World} {base : Nat} {sp : Nat → Bool} {held : Bool} {m : Nat} {cs : List Value} {e : TypeId} (he : Tryz.prog.underlying e = some (.int .i64)) {c : Nat} (hc : c = 1) : ∀ (L : List Nat) (xs : List (DataW H × List MemPlace)),
    L.mapM (fun i => DataW.trod enc Tryz.prog W base sp held m e ((cs.drop (i * c)).take c)) = some xs → ∀ k i : Nat, L[k]? = some i → ∃ a : Int, xs[k]? = some (DataW.lit (Lit.int .i64 a), []) ∧ cs[i]? = some (Value.int .i64 a)
  | [], xs, h => fun k i hk => by simp at hk
  | j :: L, xs, h => by
    subst hc
    rw [List.mapM_cons] at h
    simp only [bind, Option.bind_eq_some_iff, pure, Option.some.injEq] at h
    obtain ⟨y, hy, ys, hys, rfl⟩ := h
    have ih := ints_of_trod he rfl L ys hys
    obtain ⟨a, ea, rfl, wa⟩ := DataW.trod_int he hy
    intro k i hk
    cases k with
    | zero =>
      simp at hk
      subst hk
      refine ⟨a, rfl, ?_⟩
      rw [Nat.mul_one] at ea
      have := congrArg (fun l => l[0]?) ea
      simpa [List.getElem?_take, List.getElem?_drop] using this
    | succ k => exact ih k i (by simpa using hk)

theorem tab_of_trod {W : World} {fuel : Nat} {t e : TypeId} {cs : List Value} {ls : List (DataW Unit)} {p : List MemPlace} (ht : Tryz.prog.underlying t = some (.array 19 e)) (he : Tryz.prog.underlying e = some (.int .i64)) (hc1 : Tryz.prog.cellsOf e = 1)
    (h : DataW.trod (fun _ => ()) Tryz.prog W 0 (fun _ => true) false fuel t cs = some (.agg ls, p)) (k : Nat) (hk : k < 19) : ∃ a : Int, ls[k]? = some (DataW.lit (Lit.int .i64 a)) ∧ cs[k]? = some (Value.int .i64 a) := by
  cases fuel with
  | zero => simp [DataW.trod] at h
  | succ m =>
    rw [DataW.trod_step] at h
    unfold DataW.trodStep at h
    simp only [ht] at h
    split at h
    · simp only [Option.map_eq_some_iff] at h
      obtain ⟨ys, hy, e1⟩ := h
      obtain ⟨a, h1, h2⟩ := ints_of_trod he hc1 _ ys hy k k (by simp [hk])
      simp only [Prod.mk.injEq, DataW.agg.injEq] at e1
      refine ⟨a, ?_, h2⟩
      rw [← e1.1]
      simp [h1]
    · cases h

theorem laid_at {ls : List (DataW Unit)} (h : (Rows.laid_trove_inflate_lengthOrder : DataW Unit) = .agg ls) (k : Nat) (hk : k < 19) : ls[k]? = some (DataW.lit (Lit.int .i64 (ord k))) := by
  unfold Rows.laid_trove_inflate_lengthOrder at h
  cases h
  have : ∀ k, k < 19 → ([16, 17, 18, 0, 8, 7, 9, 6, 10, 5, 11, 4, 12, 3, 13, 2, 14, 1, 15] : List Int)[k]? = some ((ord k : Nat) : Int) := by decide +kernel
  have h1 := this k hk
  have h2 : ([16, 17, 18, 0, 8, 7, 9, 6, 10, 5, 11, 4, 12, 3, 13, 2, 14, 1, 15] : List Int).map (fun a => (DataW.lit (Lit.int .i64 a) : DataW Unit)) = _ := rfl
  rw [List.map_cons] at h2
  have h3 := congrArg (Option.map fun a => (DataW.lit (Lit.int .i64 a) : DataW Unit)) h1
  rw [← List.getElem?_map] at h3
  exact h3

theorem tab_var {W : World} {n : String} {g t f : Nat} {cs : Array Value} {p : List MemPlace} (hg : Tryz.prog.globalNamed n = some g) (ht : t = 175) (hv : W.var? Tryz.prog n = some cs) (hd : DataW.trod (fun _ => ()) Tryz.prog W 0 (fun _ => true) false f t cs.toList = some (Rows.laid_trove_inflate_lengthOrder, p)) : Tab W g := by
  subst ht
  intro k hk
  obtain ⟨a, h1, h2⟩ := tab_of_trod (e := 3) (by kernel_rfl) Tryz.underlying3 (by kernel_rfl) hd k hk
  rw [laid_at rfl k hk] at h1
  cases h1
  have := World.var?_cell hg hv k
  rw [this]
  simpa using h2

theorem tabs_of_laid {W : World} (h : laidMetH Tryz.prog [("trove/inflate.lengthOrder", Rows.laid_trove_inflate_lengthOrder), ("trove/zlib.lengthOrder", Rows.laid_trove_zlib_lengthOrder)] W) : Tab W 0 ∧ Tab W 1 := by
  rw [MakeChecks.laidMetH_plain _ _ _ (by kernel_rfl)] at h
  obtain ⟨ps, ⟨g0, t0, cs0, f0, p0, q0, hg0, ht0, hv0, hd0, ⟨g1, t1, cs1, f1, p1, q1, hg1, ht1, hv1, hd1, _, _⟩, _⟩, _⟩ := h
  obtain rfl := Option.some.inj ((show Tryz.prog.globalNamed "trove/inflate.lengthOrder" = some 0 by kernel_rfl).symm.trans hg0)
  obtain rfl := Option.some.inj ((show Tryz.prog.globalNamed "trove/zlib.lengthOrder" = some 1 by kernel_rfl).symm.trans hg1)
  have e0 := Option.some.inj ((show (Tryz.prog.globals[0]?).map (·.type) = some 175 by kernel_rfl).symm.trans ht0)
  have e1 := Option.some.inj ((show (Tryz.prog.globals[1]?).map (·.type) = some 175 by kernel_rfl).symm.trans ht1)
  exact ⟨tab_var hg0 e0.symm hv0 hd0, tab_var hg1 e1.symm hv1 hd1⟩

end Go.Proofs.YtiahbicodlgmhaaGreatDoor.Z
