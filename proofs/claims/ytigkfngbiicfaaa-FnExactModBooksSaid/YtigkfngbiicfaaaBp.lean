/- Books of light over residues: the program's sides, and ModBooks of both packages: contracts. -/
import Derived.Test.YtigkfngbiicfaaaBo
namespace Go.Proofs.Ytigkfngbiicfaaa
open Go.RowKit
set_option linter.unusedVariables false
set_option maxHeartbeats 2000000 in
theorem iSide_no (A B C D x y : Int) (h : Wv.ku A B C D x y = 0) (w : World) : Calls Try.prog 63 #[.agg #[.int .i64 A, .int .i64 B, .int .i64 C, .int .i64 D], .int .i64 x, .int .i64 y] w fun e w' => e = .returned (.slice none 0 0) ∧ Below w.heap.size w w' := by
  obtain ⟨b, hb⟩ : ∃ b, b = Wv.kb A B y := ⟨_, rfl⟩
  obtain ⟨c, hc⟩ : ∃ c, c = Wv.kb C D y := ⟨_, rfl⟩
  obtain ⟨u, hu⟩ : ∃ u, u = Wv.ku A B C D x y := ⟨_, rfl⟩
  have HB : Hid (Rm.addM (Rm.mulM A 1) (Rm.mulM B y) = b) := by rw [hb]; exact Wv.two_b A B y
  have HC : Hid (Rm.addM (Rm.mulM C 1) (Rm.mulM D y) = c) := by rw [hc]; exact Wv.two_b C D y
  have HU : Hid (Rm.addM (Rm.mulM x b) (Rm.mulM c 1) = u) := by rw [hb, hc, hu]; exact Wv.two_u A B C D x y
  have HR : Hid (Rm.addM (Rm.mulM x b) (Rm.mulM c (-1)) = Rm.addM (Rm.mulM x b) (-c)) := by rw [hb, hc]; exact Wv.two_r A B C D x y
  have HT : Hid (Rm.mulM 2 x = Rm.addM x x) := Wv.two_t x
  rw [← hu] at h
  have e1 : Wv.kr A B C D x y = Rm.mulM (Rm.addM (Rm.mulM x b) (-c)) (Rm.invM u) := by rw [hb, hc, hu]; rfl
  have e2 : Wv.kt A B C D x y = Rm.mulM (Rm.addM x x) (Rm.invM u) := by rw [hu]; rfl
  try rw [e1, e2]
  have hz : (u == 0) = true := by simp [h]
  clear hb hc hu e1 e2 h
  go_enter Try.func63, Try.ntmps63
  go_wp2_with fail
  refine (iTwo_any _ _ _ _ _).mono ?_
  rintro e w1 ⟨rfl, rfl⟩
  rw [HB.out]
  go_wp2_with fail
  refine (iTwo_any _ _ _ _ _).mono ?_
  rintro e w1 ⟨rfl, rfl⟩
  rw [HC.out]
  go_wp2_with fail
  refine (iTwo_any _ _ _ _ _).mono ?_
  rintro e w1 ⟨rfl, rfl⟩
  rw [HU.out]
  go_wp2
  go_ret
  exact ⟨rfl, by go_grown⟩
set_option maxHeartbeats 2000000 in
theorem iSide_yes (A B C D x y : Int) (h : Wv.ku A B C D x y ≠ 0) (w : World) : Calls Try.prog 63 #[.agg #[.int .i64 A, .int .i64 B, .int .i64 C, .int .i64 D], .int .i64 x, .int .i64 y] w fun e w' => ∃ g, e = .returned (.slice (some ⟨g, 0, none⟩) 2 2) ∧ w.heap.size ≤ g ∧ w'.heap[g]? = some (.cells #[.int .i64 (Wv.kr A B C D x y), .int .i64 (Wv.kt A B C D x y)] 2 (0, 0)) ∧ Below w.heap.size w w' := by
  obtain ⟨b, hb⟩ : ∃ b, b = Wv.kb A B y := ⟨_, rfl⟩
  obtain ⟨c, hc⟩ : ∃ c, c = Wv.kb C D y := ⟨_, rfl⟩
  obtain ⟨u, hu⟩ : ∃ u, u = Wv.ku A B C D x y := ⟨_, rfl⟩
  have HB : Hid (Rm.addM (Rm.mulM A 1) (Rm.mulM B y) = b) := by rw [hb]; exact Wv.two_b A B y
  have HC : Hid (Rm.addM (Rm.mulM C 1) (Rm.mulM D y) = c) := by rw [hc]; exact Wv.two_b C D y
  have HU : Hid (Rm.addM (Rm.mulM x b) (Rm.mulM c 1) = u) := by rw [hb, hc, hu]; exact Wv.two_u A B C D x y
  have HR : Hid (Rm.addM (Rm.mulM x b) (Rm.mulM c (-1)) = Rm.addM (Rm.mulM x b) (-c)) := by rw [hb, hc]; exact Wv.two_r A B C D x y
  have HT : Hid (Rm.mulM 2 x = Rm.addM x x) := Wv.two_t x
  rw [← hu] at h
  have e1 : Wv.kr A B C D x y = Rm.mulM (Rm.addM (Rm.mulM x b) (-c)) (Rm.invM u) := by rw [hb, hc, hu]; rfl
  have e2 : Wv.kt A B C D x y = Rm.mulM (Rm.addM x x) (Rm.invM u) := by rw [hu]; rfl
  try rw [e1, e2]
  have hz : (u == 0) = false := by simp [h]
  clear hb hc hu e1 e2 h
  go_enter Try.func63, Try.ntmps63
  go_wp2_with fail
  refine (iTwo_any _ _ _ _ _).mono ?_
  rintro e w1 ⟨rfl, rfl⟩
  rw [HB.out]
  go_wp2_with fail
  refine (iTwo_any _ _ _ _ _).mono ?_
  rintro e w1 ⟨rfl, rfl⟩
  rw [HC.out]
  go_wp2_with fail
  refine (iTwo_any _ _ _ _ _).mono ?_
  rintro e w1 ⟨rfl, rfl⟩
  rw [HU.out]
  go_wp2_with fail
  refine (iInv_any _ _).mono ?_
  rintro e w1 ⟨rfl, rfl⟩
  go_wp2_with fail
  refine (iTwo_any _ _ _ _ _).mono ?_
  rintro e w1 ⟨rfl, rfl⟩
  rw [HR.out]
  go_wp2_with fail
  refine (iMul_any _ _ _).mono ?_
  rintro e w1 ⟨rfl, rfl⟩
  go_wp2_with fail
  refine (iMul_any _ _ _).mono ?_
  rintro e w1 ⟨rfl, rfl⟩
  rw [HT.out]
  go_wp2_with fail
  refine (iMul_any _ _ _).mono ?_
  rintro e w1 ⟨rfl, rfl⟩
  go_wp2
  go_ret
  exact ⟨w.heap.size + 1, rfl, by omega, heap_alloc2_new _ _ _, by go_grown⟩
namespace Wv
/-- The code, and the four numbers. -/
def bcode (A B C D x y : Int) : Int := if ku A B C D x y = 0 then 6 else if ku D B C A y x = 0 then 6 else 0
def bl (A B C D x y : Int) (i : Nat) : Int := if i = 0 then kr A B C D x y else if i = 1 then kt A B C D x y else if i = 2 then kr D B C A y x else kt D B C A y x
end Wv
/-- A block of a result, made and not yet told. -/
def Rz (r : Nat) (W : World) : Prop := W.heap[r]? = some (.cells #[.int .i64 0, .slice none 0 0] 24 (0, 0))
theorem Rz.c0 {r : Nat} {W : World} (h : Rz r W) : W.cell? ⟨r, 0, none⟩ = some (.int .i64 0) := by unfold Rz at h; simp [World.cell?, h]
theorem Rz.c1 {r : Nat} {W : World} (h : Rz r W) : W.cell? ⟨r, 1, none⟩ = some (.slice none 0 0) := by unfold Rz at h; simp [World.cell?, h]
theorem Rz.fz {r : Nat} {W : World} (h : Rz r W) (j : Nat) : W.frozen? ⟨r, j, none⟩ = false := by unfold Rz at h; simp [World.frozen?, h]
/-- A block of a plate. -/
def Pz (p : Nat) (W : World) (A B C D : Int) : Prop := W.heap[p]? = some (.cells #[.int .i64 A, .int .i64 B, .int .i64 C, .int .i64 D] 34 (0, 0))
theorem Pz.c0 {p : Nat} {W : World} {A B C D : Int} (h : Pz p W A B C D) : W.cell? ⟨p, 0, none⟩ = some (.int .i64 A) := by unfold Pz at h; simp [World.cell?, h]
theorem Pz.c1 {p : Nat} {W : World} {A B C D : Int} (h : Pz p W A B C D) : W.cell? ⟨p, 1, none⟩ = some (.int .i64 B) := by unfold Pz at h; simp [World.cell?, h]
theorem Pz.c2 {p : Nat} {W : World} {A B C D : Int} (h : Pz p W A B C D) : W.cell? ⟨p, 2, none⟩ = some (.int .i64 C) := by unfold Pz at h; simp [World.cell?, h]
theorem Pz.c3 {p : Nat} {W : World} {A B C D : Int} (h : Pz p W A B C D) : W.cell? ⟨p, 3, none⟩ = some (.int .i64 D) := by unfold Pz at h; simp [World.cell?, h]
set_option maxHeartbeats 2000000 in
theorem sBooks_a (A B C D x y : Int) (h1 : Wv.ku A B C D x y = 0) (w : World) : Calls Try.prog 32 #[.agg #[.int .i64 A, .int .i64 B, .int .i64 C, .int .i64 D], .int .i64 x, .int .i64 y] w fun e w' => ∃ v, e = .returned (.agg #[.int .i64 6, v]) ∧ OutL w' 6 v 4 (Wv.bl A B C D x y) ∧ Below w.heap.size w w' := by
  go_enter Try.func32, Try.ntmps32
  go_wp2_with fail
  obtain ⟨X0, hX0⟩ : ∃ X, X = (w.alloc (.cells #[.int .i64 A, .int .i64 B, .int .i64 C, .int .i64 D] 34)).alloc (.cells #[.int .i64 0, .slice none 0 0] 24) := ⟨_, rfl⟩
  rw [← hX0]
  have P0 : Hid (Pz w.heap.size X0 A B C D) := by rw [hX0]; exact heap_alloc2_old _ _ _
  have R0 : Hid (Rz (w.heap.size + 1) X0) := by rw [hX0]; exact heap_alloc2_new _ _ _
  have B0 : Hid (Below w.heap.size w X0) := by rw [hX0]; exact ((Below.refl _ _).alloc (Nat.le_refl _) _).alloc (by simp) _
  have z0 : X0.heap.size = w.heap.size + 2 := by rw [hX0]; simp
  have Z0 : Hid (X0.heap.size = w.heap.size + 2) := z0
  clear hX0 z0
  have p0 := P0.out.c0
  have p1 := P0.out.c1
  have p2 := P0.out.c2
  have p3 := P0.out.c3
  refine (sBook_no A B C D x y h1 _).mono ?_
  rintro e X1 ⟨rfl, hb⟩
  have P1 : Hid (Pz w.heap.size X1 A B C D) := (hb.block _ (by have := Z0.out; omega)).trans P0.out
  have R1 : Hid (Rz (w.heap.size + 1) X1) := (hb.block _ (by have := Z0.out; omega)).trans R0.out
  have B1 : Hid (Below w.heap.size w X1) := B0.out.trans (hb.mono B0.out.size)
  have L1 : Hid (X0.heap.size ≤ X1.heap.size) := hb.size
  clear hb p0 p1 p2 p3
  have r0 := R1.out.c0
  have r1 := R1.out.c1
  have q0 := R1.out.fz 0
  have q1 := R1.out.fz 1
  go_wp2
  exact bodyPost_ret (v := .agg #[.int .i64 6, .slice none 0 0]) (by simp [results, Try.results32, go_sem, r0, r1]) rfl ⟨_, rfl, Or.inl ⟨by omega, rfl⟩, (B1.out.setCell (by show w.heap.size ≤ w.heap.size + 1; omega) _).setCell (by show w.heap.size ≤ w.heap.size + 1; omega) _⟩
set_option maxHeartbeats 2000000 in
theorem sBooks_b (A B C D x y : Int) (h1 : Wv.ku A B C D x y ≠ 0) (h2 : Wv.ku D B C A y x = 0) (w : World) : Calls Try.prog 32 #[.agg #[.int .i64 A, .int .i64 B, .int .i64 C, .int .i64 D], .int .i64 x, .int .i64 y] w fun e w' => ∃ v, e = .returned (.agg #[.int .i64 6, v]) ∧ OutL w' 6 v 4 (Wv.bl A B C D x y) ∧ Below w.heap.size w w' := by
  go_enter Try.func32, Try.ntmps32
  go_wp2_with fail
  obtain ⟨X0, hX0⟩ : ∃ X, X = (w.alloc (.cells #[.int .i64 A, .int .i64 B, .int .i64 C, .int .i64 D] 34)).alloc (.cells #[.int .i64 0, .slice none 0 0] 24) := ⟨_, rfl⟩
  rw [← hX0]
  have P0 : Hid (Pz w.heap.size X0 A B C D) := by rw [hX0]; exact heap_alloc2_old _ _ _
  have R0 : Hid (Rz (w.heap.size + 1) X0) := by rw [hX0]; exact heap_alloc2_new _ _ _
  have B0 : Hid (Below w.heap.size w X0) := by rw [hX0]; exact ((Below.refl _ _).alloc (Nat.le_refl _) _).alloc (by simp) _
  have z0 : X0.heap.size = w.heap.size + 2 := by rw [hX0]; simp
  have Z0 : Hid (X0.heap.size = w.heap.size + 2) := z0
  clear hX0 z0
  have p0 := P0.out.c0
  have p1 := P0.out.c1
  have p2 := P0.out.c2
  have p3 := P0.out.c3
  refine (sBook_yes A B C D x y h1 _).mono ?_
  rintro e X1 ⟨rfl, hb⟩
  have P1 : Hid (Pz w.heap.size X1 A B C D) := (hb.block _ (by have := Z0.out; omega)).trans P0.out
  have R1 : Hid (Rz (w.heap.size + 1) X1) := (hb.block _ (by have := Z0.out; omega)).trans R0.out
  have B1 : Hid (Below w.heap.size w X1) := B0.out.trans (hb.mono B0.out.size)
  have L1 : Hid (X0.heap.size ≤ X1.heap.size) := hb.size
  clear hb p0 p1 p2 p3
  have p0 := P1.out.c0
  have p1 := P1.out.c1
  have p2 := P1.out.c2
  have p3 := P1.out.c3
  go_wp2_with fail
  obtain ⟨X2, hX2⟩ : ∃ X, X = X1.alloc (.cells #[.int .i64 D, .int .i64 B, .int .i64 C, .int .i64 A] 34) := ⟨_, rfl⟩
  rw [← hX2]
  have hb : Below X1.heap.size X1 X2 := by rw [hX2]; exact (Below.refl _ _).alloc (Nat.le_refl _) _
  have P2 : Hid (Pz w.heap.size X2 A B C D) := (hb.block _ (by have := Z0.out; have := L1.out; omega)).trans P1.out
  have R2 : Hid (Rz (w.heap.size + 1) X2) := (hb.block _ (by have := Z0.out; have := L1.out; omega)).trans R1.out
  have B2 : Hid (Below w.heap.size w X2) := B1.out.trans (hb.mono B1.out.size)
  have L2 : Hid (X0.heap.size ≤ X2.heap.size) := Nat.le_trans L1.out hb.size
  clear hb hX2 p0 p1 p2 p3
  refine (sBook_no D B C A y x h2 _).mono ?_
  rintro e X3 ⟨rfl, hb⟩
  have P3 : Hid (Pz w.heap.size X3 A B C D) := (hb.block _ (by have := Z0.out; have := L2.out; omega)).trans P2.out
  have R3 : Hid (Rz (w.heap.size + 1) X3) := (hb.block _ (by have := Z0.out; have := L2.out; omega)).trans R2.out
  have B3 : Hid (Below w.heap.size w X3) := B2.out.trans (hb.mono B2.out.size)
  have L3 : Hid (X0.heap.size ≤ X3.heap.size) := Nat.le_trans L2.out hb.size
  clear hb
  have r0 := R3.out.c0
  have r1 := R3.out.c1
  have q0 := R3.out.fz 0
  have q1 := R3.out.fz 1
  go_wp2
  exact bodyPost_ret (v := .agg #[.int .i64 6, .slice none 0 0]) (by simp [results, Try.results32, go_sem, r0, r1]) rfl ⟨_, rfl, Or.inl ⟨by omega, rfl⟩, (B3.out.setCell (by show w.heap.size ≤ w.heap.size + 1; omega) _).setCell (by show w.heap.size ≤ w.heap.size + 1; omega) _⟩
set_option maxHeartbeats 2000000 in
theorem sBooks_c (A B C D x y : Int) (h1 : Wv.ku A B C D x y ≠ 0) (h2 : Wv.ku D B C A y x ≠ 0) (w : World) : Calls Try.prog 32 #[.agg #[.int .i64 A, .int .i64 B, .int .i64 C, .int .i64 D], .int .i64 x, .int .i64 y] w fun e w' => ∃ v, e = .returned (.agg #[.int .i64 0, v]) ∧ OutL w' 0 v 4 (Wv.bl A B C D x y) ∧ Below w.heap.size w w' := by
  go_enter Try.func32, Try.ntmps32
  go_wp2_with fail
  obtain ⟨X0, hX0⟩ : ∃ X, X = (w.alloc (.cells #[.int .i64 A, .int .i64 B, .int .i64 C, .int .i64 D] 34)).alloc (.cells #[.int .i64 0, .slice none 0 0] 24) := ⟨_, rfl⟩
  rw [← hX0]
  have P0 : Hid (Pz w.heap.size X0 A B C D) := by rw [hX0]; exact heap_alloc2_old _ _ _
  have R0 : Hid (Rz (w.heap.size + 1) X0) := by rw [hX0]; exact heap_alloc2_new _ _ _
  have B0 : Hid (Below w.heap.size w X0) := by rw [hX0]; exact ((Below.refl _ _).alloc (Nat.le_refl _) _).alloc (by simp) _
  have z0 : X0.heap.size = w.heap.size + 2 := by rw [hX0]; simp
  have Z0 : Hid (X0.heap.size = w.heap.size + 2) := z0
  clear hX0 z0
  have p0 := P0.out.c0
  have p1 := P0.out.c1
  have p2 := P0.out.c2
  have p3 := P0.out.c3
  refine (sBook_yes A B C D x y h1 _).mono ?_
  rintro e X1 ⟨rfl, hb⟩
  have P1 : Hid (Pz w.heap.size X1 A B C D) := (hb.block _ (by have := Z0.out; omega)).trans P0.out
  have R1 : Hid (Rz (w.heap.size + 1) X1) := (hb.block _ (by have := Z0.out; omega)).trans R0.out
  have B1 : Hid (Below w.heap.size w X1) := B0.out.trans (hb.mono B0.out.size)
  have L1 : Hid (X0.heap.size ≤ X1.heap.size) := hb.size
  clear hb p0 p1 p2 p3
  have p0 := P1.out.c0
  have p1 := P1.out.c1
  have p2 := P1.out.c2
  have p3 := P1.out.c3
  go_wp2_with fail
  obtain ⟨X2, hX2⟩ : ∃ X, X = X1.alloc (.cells #[.int .i64 D, .int .i64 B, .int .i64 C, .int .i64 A] 34) := ⟨_, rfl⟩
  rw [← hX2]
  have hb : Below X1.heap.size X1 X2 := by rw [hX2]; exact (Below.refl _ _).alloc (Nat.le_refl _) _
  have P2 : Hid (Pz w.heap.size X2 A B C D) := (hb.block _ (by have := Z0.out; have := L1.out; omega)).trans P1.out
  have R2 : Hid (Rz (w.heap.size + 1) X2) := (hb.block _ (by have := Z0.out; have := L1.out; omega)).trans R1.out
  have B2 : Hid (Below w.heap.size w X2) := B1.out.trans (hb.mono B1.out.size)
  have L2 : Hid (X0.heap.size ≤ X2.heap.size) := Nat.le_trans L1.out hb.size
  clear hb hX2 p0 p1 p2 p3
  refine (sBook_yes D B C A y x h2 _).mono ?_
  rintro e X3 ⟨rfl, hb⟩
  have P3 : Hid (Pz w.heap.size X3 A B C D) := (hb.block _ (by have := Z0.out; have := L2.out; omega)).trans P2.out
  have R3 : Hid (Rz (w.heap.size + 1) X3) := (hb.block _ (by have := Z0.out; have := L2.out; omega)).trans R2.out
  have B3 : Hid (Below w.heap.size w X3) := B2.out.trans (hb.mono B2.out.size)
  have L3 : Hid (X0.heap.size ≤ X3.heap.size) := Nat.le_trans L2.out hb.size
  clear hb
  have r0 := R3.out.c0
  have r1 := R3.out.c1
  have q0 := R3.out.fz 0
  have q1 := R3.out.fz 1
  have zz := Z0.out
  have ll := L3.out
  have r0a : ∀ o, (X3.alloc o).cell? ⟨w.heap.size + 1, 0, none⟩ = some (.int .i64 0) := fun o => (((Below.refl X3.heap.size X3).alloc (Nat.le_refl _) o).cell (by show w.heap.size + 1 < X3.heap.size; omega)).trans r0
  have r1a : ∀ o, (X3.alloc o).cell? ⟨w.heap.size + 1, 1, none⟩ = some (.slice none 0 0) := fun o => (((Below.refl X3.heap.size X3).alloc (Nat.le_refl _) o).cell (by show w.heap.size + 1 < X3.heap.size; omega)).trans r1
  have q0a : ∀ o, (X3.alloc o).frozen? ⟨w.heap.size + 1, 0, none⟩ = false := fun o => (show Rz (w.heap.size + 1) (X3.alloc o) from (Below.heap_alloc _ _ _ (by omega)).trans R3.out).fz 0
  have q1a : ∀ o, (X3.alloc o).frozen? ⟨w.heap.size + 1, 1, none⟩ = false := fun o => (show Rz (w.heap.size + 1) (X3.alloc o) from (Below.heap_alloc _ _ _ (by omega)).trans R3.out).fz 1
  clear zz ll
  go_wp2
  have zz := Z0.out
  have ll := L3.out
  have hs : Seg (X3.alloc (.cells #[.int .i64 (Wv.kr A B C D x y), .int .i64 (Wv.kt A B C D x y), .int .i64 (Wv.kr D B C A y x), .int .i64 (Wv.kt D B C A y x)] 2)) X3.heap.size 2 0 4 (fun i => .int .i64 (Wv.bl A B C D x y i)) :=
    ⟨_, heap_alloc_new _ _, fun i hi => by
      have : i = 0 ∨ i = 1 ∨ i = 2 ∨ i = 3 := by omega
      rcases this with rfl | rfl | rfl | rfl <;> rfl⟩
  refine bodyPost_ret (v := .agg #[.int .i64 0, .slice (some ⟨X3.heap.size, 0, none⟩) 4 4]) (by simp [results, Try.results32, go_sem, r0a, r1a]) rfl ⟨.slice (some ⟨X3.heap.size, 0, none⟩) 4 4, rfl, Or.inr ⟨rfl, ?_⟩, ?_⟩
  · exact ((hs.setOther (by show X3.heap.size ≠ w.heap.size + 1; omega) _).setOther (by show X3.heap.size ≠ w.heap.size + 1; omega) _).rd
  · exact ((B3.out.alloc B3.out.size _).setCell (by show w.heap.size ≤ w.heap.size + 1; omega) _).setCell (by show w.heap.size ≤ w.heap.size + 1; omega) _
theorem sBooks_any (A B C D x y : Int) (w : World) : Calls Try.prog 32 #[.agg #[.int .i64 A, .int .i64 B, .int .i64 C, .int .i64 D], .int .i64 x, .int .i64 y] w fun e w' => ∃ v, e = .returned (.agg #[.int .i64 (Wv.bcode A B C D x y), v]) ∧ OutL w' (Wv.bcode A B C D x y) v 4 (Wv.bl A B C D x y) ∧ Below w.heap.size w w' := by
  unfold Wv.bcode
  by_cases h1 : Wv.ku A B C D x y = 0
  · rw [if_pos h1]; exact sBooks_a A B C D x y h1 w
  · rw [if_neg h1]
    by_cases h2 : Wv.ku D B C A y x = 0
    · rw [if_pos h2]; exact sBooks_b A B C D x y h1 h2 w
    · rw [if_neg h2]; exact sBooks_c A B C D x y h1 h2 w
end Go.Proofs.Ytigkfngbiicfaaa
