/- The laws' own copy and comparison of plates: contracts; how plates that come in are opened. -/
import Derived.Test.YtnmkbhallidgaaaZp
import Derived.Test.YtnmkbhallidgaaaOwn2
import Derived.Test.YtnmkbhallidgaaaOpenZs
import Derived.Test.YtnmkbhallidgaaaKeeps
import Derived.Deep.DeepCutAuto
namespace Go.Proofs.Ytnmkbhallidgaaa
open Go.RowKit Fl
set_option linter.unusedVariables false
set_option linter.unusedSimpArgs false
theorem Two.out {w X W : World} {r s n : Nat} {t : TypeId} (h : Two (w.heap.size + 1) X r s n t W) (k : Below w.heap.size w X) : Below w.heap.size w W := k.trans (h.a.below.mono (by omega))
set_option maxHeartbeats 3200000 in
theorem toP_any (a0 a1 a2 a3 a4 a5 a6 a7 : Nat) (w : World) : Calls Try.prog 45 #[Pv a0 a1 a2 a3 a4 a5 a6 a7] w fun e w' => e = .returned (Pv a0 a1 a2 a3 a4 a5 a6 a7) ∧ Below w.heap.size w w' := by
  have hst := st64
  obtain ⟨X, hX⟩ : ∃ X, X = (w.alloc (.cells #[.float .f64 a0, .float .f64 a1, .float .f64 a2, .float .f64 a3, .float .f64 a4, .float .f64 a5, .float .f64 a6, .float .f64 a7] 52)) := ⟨_, rfl⟩
  obtain ⟨Y, hY⟩ : ∃ Y, Y = (X.alloc (.cells #[.float .f64 0, .float .f64 0, .float .f64 0, .float .f64 0, .float .f64 0, .float .f64 0, .float .f64 0, .float .f64 0] 54)).alloc (.cells #[.float .f64 0, .float .f64 0, .float .f64 0, .float .f64 0, .float .f64 0, .float .f64 0, .float .f64 0, .float .f64 0] 54) := ⟨_, rfl⟩
  have h0 : Two (w.heap.size + 1) X (w.heap.size + 1) (w.heap.size + 1 + 1) 8 54 Y := by
    have h1 := own_made (X := X) (B := w.heap.size + 1) (t := 54) #[.float .f64 0, .float .f64 0, .float .f64 0, .float .f64 0, .float .f64 0, .float .f64 0, .float .f64 0, .float .f64 0] (by rw [hX]; simp)
    have h2 := own_made (X := X.alloc (.cells #[.float .f64 0, .float .f64 0, .float .f64 0, .float .f64 0, .float .f64 0, .float .f64 0, .float .f64 0, .float .f64 0] 54)) (B := w.heap.size + 1) (t := 54) #[.float .f64 0, .float .f64 0, .float .f64 0, .float .f64 0, .float .f64 0, .float .f64 0, .float .f64 0, .float .f64 0] (by rw [hX]; simp)
    rw [hY]
    refine ⟨?_, ⟨h1.below.trans h2.below, by omega, ?_⟩, by omega⟩
    · have := h1.alloc (.cells #[.float .f64 0, .float .f64 0, .float .f64 0, .float .f64 0, .float .f64 0, .float .f64 0, .float .f64 0, .float .f64 0] 54)
      rw [hX] at this ⊢
      simpa using this
    · have := h2.block
      rw [hX] at this ⊢
      simpa using this
  have k0 : ∀ W, Two (w.heap.size + 1) X (w.heap.size + 1) (w.heap.size + 1 + 1) 8 54 W → W.cell? ⟨w.heap.size, 0, none⟩ = some (.float .f64 a0) := fun _ h => (h.a.below.cell (by simp)).trans (by rw [hX]; simp)
  have k1 : ∀ W, Two (w.heap.size + 1) X (w.heap.size + 1) (w.heap.size + 1 + 1) 8 54 W → W.cell? ⟨w.heap.size, 1, none⟩ = some (.float .f64 a1) := fun _ h => (h.a.below.cell (by simp)).trans (by rw [hX]; simp)
  have k2 : ∀ W, Two (w.heap.size + 1) X (w.heap.size + 1) (w.heap.size + 1 + 1) 8 54 W → W.cell? ⟨w.heap.size, 2, none⟩ = some (.float .f64 a2) := fun _ h => (h.a.below.cell (by simp)).trans (by rw [hX]; simp)
  have k3 : ∀ W, Two (w.heap.size + 1) X (w.heap.size + 1) (w.heap.size + 1 + 1) 8 54 W → W.cell? ⟨w.heap.size, 3, none⟩ = some (.float .f64 a3) := fun _ h => (h.a.below.cell (by simp)).trans (by rw [hX]; simp)
  have k4 : ∀ W, Two (w.heap.size + 1) X (w.heap.size + 1) (w.heap.size + 1 + 1) 8 54 W → W.cell? ⟨w.heap.size, 4, none⟩ = some (.float .f64 a4) := fun _ h => (h.a.below.cell (by simp)).trans (by rw [hX]; simp)
  have k5 : ∀ W, Two (w.heap.size + 1) X (w.heap.size + 1) (w.heap.size + 1 + 1) 8 54 W → W.cell? ⟨w.heap.size, 5, none⟩ = some (.float .f64 a5) := fun _ h => (h.a.below.cell (by simp)).trans (by rw [hX]; simp)
  have k6 : ∀ W, Two (w.heap.size + 1) X (w.heap.size + 1) (w.heap.size + 1 + 1) 8 54 W → W.cell? ⟨w.heap.size, 6, none⟩ = some (.float .f64 a6) := fun _ h => (h.a.below.cell (by simp)).trans (by rw [hX]; simp)
  have k7 : ∀ W, Two (w.heap.size + 1) X (w.heap.size + 1) (w.heap.size + 1 + 1) 8 54 W → W.cell? ⟨w.heap.size, 7, none⟩ = some (.float .f64 a7) := fun _ h => (h.a.below.cell (by simp)).trans (by rw [hX]; simp)
  have HX : Hid (Below w.heap.size w X) := by rw [hX]; exact (Below.refl _ _).alloc (Nat.le_refl _) _
  have n0 : Y.cell? ⟨w.heap.size + 1 + 1, 0, none⟩ = some (.float .f64 0) := by rw [hY]; exact cell_alloc_new (by rw [hX]; simp) rfl
  have n1 : Y.cell? ⟨w.heap.size + 1 + 1, 1, none⟩ = some (.float .f64 0) := by rw [hY]; exact cell_alloc_new (by rw [hX]; simp) rfl
  have n2 : Y.cell? ⟨w.heap.size + 1 + 1, 2, none⟩ = some (.float .f64 0) := by rw [hY]; exact cell_alloc_new (by rw [hX]; simp) rfl
  have n3 : Y.cell? ⟨w.heap.size + 1 + 1, 3, none⟩ = some (.float .f64 0) := by rw [hY]; exact cell_alloc_new (by rw [hX]; simp) rfl
  have n4 : Y.cell? ⟨w.heap.size + 1 + 1, 4, none⟩ = some (.float .f64 0) := by rw [hY]; exact cell_alloc_new (by rw [hX]; simp) rfl
  have n5 : Y.cell? ⟨w.heap.size + 1 + 1, 5, none⟩ = some (.float .f64 0) := by rw [hY]; exact cell_alloc_new (by rw [hX]; simp) rfl
  have n6 : Y.cell? ⟨w.heap.size + 1 + 1, 6, none⟩ = some (.float .f64 0) := by rw [hY]; exact cell_alloc_new (by rw [hX]; simp) rfl
  have n7 : Y.cell? ⟨w.heap.size + 1 + 1, 7, none⟩ = some (.float .f64 0) := by rw [hY]; exact cell_alloc_new (by rw [hX]; simp) rfl
  have y0 := k0 _ h0
  have y1 := k1 _ h0
  have y2 := k2 _ h0
  have y3 := k3 _ h0
  have y4 := k4 _ h0
  have y5 := k5 _ h0
  have y6 := k6 _ h0
  have y7 := k7 _ h0
  go_enter Try.func45, Try.ntmps45
  go_wp2_with fail
  rw [← hX, ← hY]
  clear hX hY
  refine (toZ_any _ _ _).mono ?_
  rintro e w1 ⟨rfl, hb0⟩
  have t0 : Two (w.heap.size + 1) X (w.heap.size + 1) (w.heap.size + 1 + 1) 8 54 w1 := Two.call h0 hb0
  have c0_0 : w1.cell? ⟨w.heap.size + 1 + 1, 0, none⟩ = some (.float .f64 0) := old_cell hb0 (h0.b.lt) n0
  have c0_1 : w1.cell? ⟨w.heap.size + 1 + 1, 1, none⟩ = some (.float .f64 0) := old_cell hb0 (h0.b.lt) n1
  have c0_2 : w1.cell? ⟨w.heap.size + 1 + 1, 2, none⟩ = some (.float .f64 0) := old_cell hb0 (h0.b.lt) n2
  have c0_3 : w1.cell? ⟨w.heap.size + 1 + 1, 3, none⟩ = some (.float .f64 0) := old_cell hb0 (h0.b.lt) n3
  have c0_4 : w1.cell? ⟨w.heap.size + 1 + 1, 4, none⟩ = some (.float .f64 0) := old_cell hb0 (h0.b.lt) n4
  have c0_5 : w1.cell? ⟨w.heap.size + 1 + 1, 5, none⟩ = some (.float .f64 0) := old_cell hb0 (h0.b.lt) n5
  have c0_6 : w1.cell? ⟨w.heap.size + 1 + 1, 6, none⟩ = some (.float .f64 0) := old_cell hb0 (h0.b.lt) n6
  have c0_7 : w1.cell? ⟨w.heap.size + 1 + 1, 7, none⟩ = some (.float .f64 0) := old_cell hb0 (h0.b.lt) n7
  have f0 : ∀ j, w1.frozen? ⟨w.heap.size + 1 + 1, j, none⟩ = false := fun j => Own.frozen t0.b j
  obtain ⟨U0, hU0⟩ : ∃ U, U = ((w1.setCell ⟨w.heap.size + 1 + 1, 0, none⟩ (.float .f64 a0)).setCell ⟨w.heap.size + 1 + 1, 1, none⟩ (.float .f64 a1)) := ⟨_, rfl⟩
  have u0 : Two (w.heap.size + 1) X (w.heap.size + 1) (w.heap.size + 1 + 1) 8 54 U0 := by rw [hU0]; exact (t0.setB _ _).setB _ _
  have p0_0 : U0.cell? ⟨w.heap.size + 1 + 1, 0, none⟩ = some (.float .f64 a0) := by rw [hU0]; go_simp
  have p0_1 : U0.cell? ⟨w.heap.size + 1 + 1, 1, none⟩ = some (.float .f64 a1) := by rw [hU0]; go_simp
  have p0_2 : U0.cell? ⟨w.heap.size + 1 + 1, 2, none⟩ = some (.float .f64 0) := by rw [hU0]; go_simp
  have p0_3 : U0.cell? ⟨w.heap.size + 1 + 1, 3, none⟩ = some (.float .f64 0) := by rw [hU0]; go_simp
  have p0_4 : U0.cell? ⟨w.heap.size + 1 + 1, 4, none⟩ = some (.float .f64 0) := by rw [hU0]; go_simp
  have p0_5 : U0.cell? ⟨w.heap.size + 1 + 1, 5, none⟩ = some (.float .f64 0) := by rw [hU0]; go_simp
  have p0_6 : U0.cell? ⟨w.heap.size + 1 + 1, 6, none⟩ = some (.float .f64 0) := by rw [hU0]; go_simp
  have p0_7 : U0.cell? ⟨w.heap.size + 1 + 1, 7, none⟩ = some (.float .f64 0) := by rw [hU0]; go_simp
  have z0_0 := k0 _ t0
  have z0_1 := k1 _ t0
  have z0_2 := k2 _ t0
  have z0_3 := k3 _ t0
  have z0_4 := k4 _ t0
  have z0_5 := k5 _ t0
  have z0_6 := k6 _ t0
  have z0_7 := k7 _ t0
  have H0 : Hid (Two (w.heap.size + 1) X (w.heap.size + 1) (w.heap.size + 1 + 1) 8 54 U0) := u0
  clear n0 n1 n2 n3 n4 n5 n6 n7 y0 y1 y2 y3 y4 y5 y6 y7 hb0 h0
  go_wp2_with fail
  rw [← hU0]
  clear hU0 t0 f0 c0_0 c0_1 c0_2 c0_3 c0_4 c0_5 c0_6 c0_7
  refine (toZ_any _ _ _).mono ?_
  rintro e w2 ⟨rfl, hb1⟩
  have t1 : Two (w.heap.size + 1) X (w.heap.size + 1) (w.heap.size + 1 + 1) 8 54 w2 := Two.call u0 hb1
  have c1_0 : w2.cell? ⟨w.heap.size + 1 + 1, 0, none⟩ = some (.float .f64 a0) := old_cell hb1 (u0.b.lt) p0_0
  have c1_1 : w2.cell? ⟨w.heap.size + 1 + 1, 1, none⟩ = some (.float .f64 a1) := old_cell hb1 (u0.b.lt) p0_1
  have c1_2 : w2.cell? ⟨w.heap.size + 1 + 1, 2, none⟩ = some (.float .f64 0) := old_cell hb1 (u0.b.lt) p0_2
  have c1_3 : w2.cell? ⟨w.heap.size + 1 + 1, 3, none⟩ = some (.float .f64 0) := old_cell hb1 (u0.b.lt) p0_3
  have c1_4 : w2.cell? ⟨w.heap.size + 1 + 1, 4, none⟩ = some (.float .f64 0) := old_cell hb1 (u0.b.lt) p0_4
  have c1_5 : w2.cell? ⟨w.heap.size + 1 + 1, 5, none⟩ = some (.float .f64 0) := old_cell hb1 (u0.b.lt) p0_5
  have c1_6 : w2.cell? ⟨w.heap.size + 1 + 1, 6, none⟩ = some (.float .f64 0) := old_cell hb1 (u0.b.lt) p0_6
  have c1_7 : w2.cell? ⟨w.heap.size + 1 + 1, 7, none⟩ = some (.float .f64 0) := old_cell hb1 (u0.b.lt) p0_7
  have f1 : ∀ j, w2.frozen? ⟨w.heap.size + 1 + 1, j, none⟩ = false := fun j => Own.frozen t1.b j
  obtain ⟨U1, hU1⟩ : ∃ U, U = ((w2.setCell ⟨w.heap.size + 1 + 1, 2, none⟩ (.float .f64 a2)).setCell ⟨w.heap.size + 1 + 1, 3, none⟩ (.float .f64 a3)) := ⟨_, rfl⟩
  have u1 : Two (w.heap.size + 1) X (w.heap.size + 1) (w.heap.size + 1 + 1) 8 54 U1 := by rw [hU1]; exact (t1.setB _ _).setB _ _
  have p1_0 : U1.cell? ⟨w.heap.size + 1 + 1, 0, none⟩ = some (.float .f64 a0) := by rw [hU1]; go_simp
  have p1_1 : U1.cell? ⟨w.heap.size + 1 + 1, 1, none⟩ = some (.float .f64 a1) := by rw [hU1]; go_simp
  have p1_2 : U1.cell? ⟨w.heap.size + 1 + 1, 2, none⟩ = some (.float .f64 a2) := by rw [hU1]; go_simp
  have p1_3 : U1.cell? ⟨w.heap.size + 1 + 1, 3, none⟩ = some (.float .f64 a3) := by rw [hU1]; go_simp
  have p1_4 : U1.cell? ⟨w.heap.size + 1 + 1, 4, none⟩ = some (.float .f64 0) := by rw [hU1]; go_simp
  have p1_5 : U1.cell? ⟨w.heap.size + 1 + 1, 5, none⟩ = some (.float .f64 0) := by rw [hU1]; go_simp
  have p1_6 : U1.cell? ⟨w.heap.size + 1 + 1, 6, none⟩ = some (.float .f64 0) := by rw [hU1]; go_simp
  have p1_7 : U1.cell? ⟨w.heap.size + 1 + 1, 7, none⟩ = some (.float .f64 0) := by rw [hU1]; go_simp
  have z1_0 := k0 _ t1
  have z1_1 := k1 _ t1
  have z1_2 := k2 _ t1
  have z1_3 := k3 _ t1
  have z1_4 := k4 _ t1
  have z1_5 := k5 _ t1
  have z1_6 := k6 _ t1
  have z1_7 := k7 _ t1
  have H1 : Hid (Two (w.heap.size + 1) X (w.heap.size + 1) (w.heap.size + 1 + 1) 8 54 U1) := u1
  clear p0_0 p0_1 p0_2 p0_3 p0_4 p0_5 p0_6 p0_7 z0_0 z0_1 z0_2 z0_3 z0_4 z0_5 z0_6 z0_7 hb1 
  go_wp2_with fail
  rw [← hU1]
  clear hU1 t1 f1 c1_0 c1_1 c1_2 c1_3 c1_4 c1_5 c1_6 c1_7
  refine (toZ_any _ _ _).mono ?_
  rintro e w3 ⟨rfl, hb2⟩
  have t2 : Two (w.heap.size + 1) X (w.heap.size + 1) (w.heap.size + 1 + 1) 8 54 w3 := Two.call u1 hb2
  have c2_0 : w3.cell? ⟨w.heap.size + 1 + 1, 0, none⟩ = some (.float .f64 a0) := old_cell hb2 (u1.b.lt) p1_0
  have c2_1 : w3.cell? ⟨w.heap.size + 1 + 1, 1, none⟩ = some (.float .f64 a1) := old_cell hb2 (u1.b.lt) p1_1
  have c2_2 : w3.cell? ⟨w.heap.size + 1 + 1, 2, none⟩ = some (.float .f64 a2) := old_cell hb2 (u1.b.lt) p1_2
  have c2_3 : w3.cell? ⟨w.heap.size + 1 + 1, 3, none⟩ = some (.float .f64 a3) := old_cell hb2 (u1.b.lt) p1_3
  have c2_4 : w3.cell? ⟨w.heap.size + 1 + 1, 4, none⟩ = some (.float .f64 0) := old_cell hb2 (u1.b.lt) p1_4
  have c2_5 : w3.cell? ⟨w.heap.size + 1 + 1, 5, none⟩ = some (.float .f64 0) := old_cell hb2 (u1.b.lt) p1_5
  have c2_6 : w3.cell? ⟨w.heap.size + 1 + 1, 6, none⟩ = some (.float .f64 0) := old_cell hb2 (u1.b.lt) p1_6
  have c2_7 : w3.cell? ⟨w.heap.size + 1 + 1, 7, none⟩ = some (.float .f64 0) := old_cell hb2 (u1.b.lt) p1_7
  have f2 : ∀ j, w3.frozen? ⟨w.heap.size + 1 + 1, j, none⟩ = false := fun j => Own.frozen t2.b j
  obtain ⟨U2, hU2⟩ : ∃ U, U = ((w3.setCell ⟨w.heap.size + 1 + 1, 4, none⟩ (.float .f64 a4)).setCell ⟨w.heap.size + 1 + 1, 5, none⟩ (.float .f64 a5)) := ⟨_, rfl⟩
  have u2 : Two (w.heap.size + 1) X (w.heap.size + 1) (w.heap.size + 1 + 1) 8 54 U2 := by rw [hU2]; exact (t2.setB _ _).setB _ _
  have p2_0 : U2.cell? ⟨w.heap.size + 1 + 1, 0, none⟩ = some (.float .f64 a0) := by rw [hU2]; go_simp
  have p2_1 : U2.cell? ⟨w.heap.size + 1 + 1, 1, none⟩ = some (.float .f64 a1) := by rw [hU2]; go_simp
  have p2_2 : U2.cell? ⟨w.heap.size + 1 + 1, 2, none⟩ = some (.float .f64 a2) := by rw [hU2]; go_simp
  have p2_3 : U2.cell? ⟨w.heap.size + 1 + 1, 3, none⟩ = some (.float .f64 a3) := by rw [hU2]; go_simp
  have p2_4 : U2.cell? ⟨w.heap.size + 1 + 1, 4, none⟩ = some (.float .f64 a4) := by rw [hU2]; go_simp
  have p2_5 : U2.cell? ⟨w.heap.size + 1 + 1, 5, none⟩ = some (.float .f64 a5) := by rw [hU2]; go_simp
  have p2_6 : U2.cell? ⟨w.heap.size + 1 + 1, 6, none⟩ = some (.float .f64 0) := by rw [hU2]; go_simp
  have p2_7 : U2.cell? ⟨w.heap.size + 1 + 1, 7, none⟩ = some (.float .f64 0) := by rw [hU2]; go_simp
  have z2_0 := k0 _ t2
  have z2_1 := k1 _ t2
  have z2_2 := k2 _ t2
  have z2_3 := k3 _ t2
  have z2_4 := k4 _ t2
  have z2_5 := k5 _ t2
  have z2_6 := k6 _ t2
  have z2_7 := k7 _ t2
  have H2 : Hid (Two (w.heap.size + 1) X (w.heap.size + 1) (w.heap.size + 1 + 1) 8 54 U2) := u2
  clear p1_0 p1_1 p1_2 p1_3 p1_4 p1_5 p1_6 p1_7 z1_0 z1_1 z1_2 z1_3 z1_4 z1_5 z1_6 z1_7 hb2 
  go_wp2_with fail
  rw [← hU2]
  clear hU2 t2 f2 c2_0 c2_1 c2_2 c2_3 c2_4 c2_5 c2_6 c2_7
  refine (toZ_any _ _ _).mono ?_
  rintro e w4 ⟨rfl, hb3⟩
  have t3 : Two (w.heap.size + 1) X (w.heap.size + 1) (w.heap.size + 1 + 1) 8 54 w4 := Two.call u2 hb3
  have c3_0 : w4.cell? ⟨w.heap.size + 1 + 1, 0, none⟩ = some (.float .f64 a0) := old_cell hb3 (u2.b.lt) p2_0
  have c3_1 : w4.cell? ⟨w.heap.size + 1 + 1, 1, none⟩ = some (.float .f64 a1) := old_cell hb3 (u2.b.lt) p2_1
  have c3_2 : w4.cell? ⟨w.heap.size + 1 + 1, 2, none⟩ = some (.float .f64 a2) := old_cell hb3 (u2.b.lt) p2_2
  have c3_3 : w4.cell? ⟨w.heap.size + 1 + 1, 3, none⟩ = some (.float .f64 a3) := old_cell hb3 (u2.b.lt) p2_3
  have c3_4 : w4.cell? ⟨w.heap.size + 1 + 1, 4, none⟩ = some (.float .f64 a4) := old_cell hb3 (u2.b.lt) p2_4
  have c3_5 : w4.cell? ⟨w.heap.size + 1 + 1, 5, none⟩ = some (.float .f64 a5) := old_cell hb3 (u2.b.lt) p2_5
  have c3_6 : w4.cell? ⟨w.heap.size + 1 + 1, 6, none⟩ = some (.float .f64 0) := old_cell hb3 (u2.b.lt) p2_6
  have c3_7 : w4.cell? ⟨w.heap.size + 1 + 1, 7, none⟩ = some (.float .f64 0) := old_cell hb3 (u2.b.lt) p2_7
  have f3 : ∀ j, w4.frozen? ⟨w.heap.size + 1 + 1, j, none⟩ = false := fun j => Own.frozen t3.b j
  obtain ⟨U3, hU3⟩ : ∃ U, U = ((w4.setCell ⟨w.heap.size + 1 + 1, 6, none⟩ (.float .f64 a6)).setCell ⟨w.heap.size + 1 + 1, 7, none⟩ (.float .f64 a7)) := ⟨_, rfl⟩
  have u3 : Two (w.heap.size + 1) X (w.heap.size + 1) (w.heap.size + 1 + 1) 8 54 U3 := by rw [hU3]; exact (t3.setB _ _).setB _ _
  have p3_0 : U3.cell? ⟨w.heap.size + 1 + 1, 0, none⟩ = some (.float .f64 a0) := by rw [hU3]; go_simp
  have p3_1 : U3.cell? ⟨w.heap.size + 1 + 1, 1, none⟩ = some (.float .f64 a1) := by rw [hU3]; go_simp
  have p3_2 : U3.cell? ⟨w.heap.size + 1 + 1, 2, none⟩ = some (.float .f64 a2) := by rw [hU3]; go_simp
  have p3_3 : U3.cell? ⟨w.heap.size + 1 + 1, 3, none⟩ = some (.float .f64 a3) := by rw [hU3]; go_simp
  have p3_4 : U3.cell? ⟨w.heap.size + 1 + 1, 4, none⟩ = some (.float .f64 a4) := by rw [hU3]; go_simp
  have p3_5 : U3.cell? ⟨w.heap.size + 1 + 1, 5, none⟩ = some (.float .f64 a5) := by rw [hU3]; go_simp
  have p3_6 : U3.cell? ⟨w.heap.size + 1 + 1, 6, none⟩ = some (.float .f64 a6) := by rw [hU3]; go_simp
  have p3_7 : U3.cell? ⟨w.heap.size + 1 + 1, 7, none⟩ = some (.float .f64 a7) := by rw [hU3]; go_simp
  have eg := fun j (hj : j < 8) => Own.cell u3.a hj
  have q0 := eg 0 (by omega)
  have q1 := eg 1 (by omega)
  have q2 := eg 2 (by omega)
  have q3 := eg 3 (by omega)
  have q4 := eg 4 (by omega)
  have q5 := eg 5 (by omega)
  have q6 := eg 6 (by omega)
  have q7 := eg 7 (by omega)
  have qf := fun j => Own.frozen u3.a j
  have HU : Hid (Two (w.heap.size + 1) X (w.heap.size + 1) (w.heap.size + 1 + 1) 8 54 U3) := u3
  clear eg p2_0 p2_1 p2_2 p2_3 p2_4 p2_5 p2_6 p2_7 z2_0 z2_1 z2_2 z2_3 z2_4 z2_5 z2_6 z2_7 hb3 t3 k0 k1 k2 k3 k4 k5 k6 k7
  go_upto_region 6 with fail
  rw [← hU3]
  clear hU3 f3 c3_0 c3_1 c3_2 c3_3 c3_4 c3_5 c3_6 c3_7
  go_wp2
  refine bodyPost_ret (v := Pv a0 a1 a2 a3 a4 a5 a6 a7) (by simp [results, Try.results45, go_sem, q0, q1, q2, q3, q4, q5, q6, q7]) rfl ⟨rfl, Two.out (r := w.heap.size + 1) (s := w.heap.size + 1 + 1) (n := 8) (t := 54) ?_ HX.out⟩
  with_reducible exact (((((((HU.out.setA _ _).setA _ _).setA _ _).setA _ _).setA _ _).setA _ _).setA _ _).setA _ _
set_option maxHeartbeats 3200000 in
theorem eqP_same {a0 a1 a2 a3 a4 a5 a6 a7 b0 b1 b2 b3 b4 b5 b6 b7 : Nat} {p : P4} (h : Pc a0 a1 a2 a3 a4 a5 a6 a7 p) (k : Pc b0 b1 b2 b3 b4 b5 b6 b7 p) (w : World) : Calls Try.prog 47 #[Pv a0 a1 a2 a3 a4 a5 a6 a7, Pv b0 b1 b2 b3 b4 b5 b6 b7] w fun e w' => e = .returned (.bool true) ∧ Below w.heap.size w w' := by
  obtain ⟨z0, z1, z2, z3⟩ := h
  obtain ⟨y0, y1, y2, y3⟩ := k
  obtain ⟨X, hX⟩ : ∃ X, X = ((w.alloc (.cells #[.float .f64 a0, .float .f64 a1, .float .f64 a2, .float .f64 a3, .float .f64 a4, .float .f64 a5, .float .f64 a6, .float .f64 a7] 54)).alloc (.cells #[.float .f64 b0, .float .f64 b1, .float .f64 b2, .float .f64 b3, .float .f64 b4, .float .f64 b5, .float .f64 b6, .float .f64 b7] 54)) := ⟨_, rfl⟩
  have k0 : ∀ W, Below X.heap.size X W → W.cell? ⟨w.heap.size, 0, none⟩ = some (.float .f64 a0) := fun _ h => (h.cell (by rw [hX]; simp <;> omega)).trans (by rw [hX]; exact cell_alloc_old (cell_alloc_new rfl rfl))
  have k1 : ∀ W, Below X.heap.size X W → W.cell? ⟨w.heap.size, 1, none⟩ = some (.float .f64 a1) := fun _ h => (h.cell (by rw [hX]; simp <;> omega)).trans (by rw [hX]; exact cell_alloc_old (cell_alloc_new rfl rfl))
  have k2 : ∀ W, Below X.heap.size X W → W.cell? ⟨w.heap.size, 2, none⟩ = some (.float .f64 a2) := fun _ h => (h.cell (by rw [hX]; simp <;> omega)).trans (by rw [hX]; exact cell_alloc_old (cell_alloc_new rfl rfl))
  have k3 : ∀ W, Below X.heap.size X W → W.cell? ⟨w.heap.size, 3, none⟩ = some (.float .f64 a3) := fun _ h => (h.cell (by rw [hX]; simp <;> omega)).trans (by rw [hX]; exact cell_alloc_old (cell_alloc_new rfl rfl))
  have k4 : ∀ W, Below X.heap.size X W → W.cell? ⟨w.heap.size, 4, none⟩ = some (.float .f64 a4) := fun _ h => (h.cell (by rw [hX]; simp <;> omega)).trans (by rw [hX]; exact cell_alloc_old (cell_alloc_new rfl rfl))
  have k5 : ∀ W, Below X.heap.size X W → W.cell? ⟨w.heap.size, 5, none⟩ = some (.float .f64 a5) := fun _ h => (h.cell (by rw [hX]; simp <;> omega)).trans (by rw [hX]; exact cell_alloc_old (cell_alloc_new rfl rfl))
  have k6 : ∀ W, Below X.heap.size X W → W.cell? ⟨w.heap.size, 6, none⟩ = some (.float .f64 a6) := fun _ h => (h.cell (by rw [hX]; simp <;> omega)).trans (by rw [hX]; exact cell_alloc_old (cell_alloc_new rfl rfl))
  have k7 : ∀ W, Below X.heap.size X W → W.cell? ⟨w.heap.size, 7, none⟩ = some (.float .f64 a7) := fun _ h => (h.cell (by rw [hX]; simp <;> omega)).trans (by rw [hX]; exact cell_alloc_old (cell_alloc_new rfl rfl))
  have l0 : ∀ W, Below X.heap.size X W → W.cell? ⟨w.heap.size + 1, 0, none⟩ = some (.float .f64 b0) := fun _ h => (h.cell (by rw [hX]; simp)).trans (by rw [hX]; exact cell_alloc_new (by simp) rfl)
  have l1 : ∀ W, Below X.heap.size X W → W.cell? ⟨w.heap.size + 1, 1, none⟩ = some (.float .f64 b1) := fun _ h => (h.cell (by rw [hX]; simp)).trans (by rw [hX]; exact cell_alloc_new (by simp) rfl)
  have l2 : ∀ W, Below X.heap.size X W → W.cell? ⟨w.heap.size + 1, 2, none⟩ = some (.float .f64 b2) := fun _ h => (h.cell (by rw [hX]; simp)).trans (by rw [hX]; exact cell_alloc_new (by simp) rfl)
  have l3 : ∀ W, Below X.heap.size X W → W.cell? ⟨w.heap.size + 1, 3, none⟩ = some (.float .f64 b3) := fun _ h => (h.cell (by rw [hX]; simp)).trans (by rw [hX]; exact cell_alloc_new (by simp) rfl)
  have l4 : ∀ W, Below X.heap.size X W → W.cell? ⟨w.heap.size + 1, 4, none⟩ = some (.float .f64 b4) := fun _ h => (h.cell (by rw [hX]; simp)).trans (by rw [hX]; exact cell_alloc_new (by simp) rfl)
  have l5 : ∀ W, Below X.heap.size X W → W.cell? ⟨w.heap.size + 1, 5, none⟩ = some (.float .f64 b5) := fun _ h => (h.cell (by rw [hX]; simp)).trans (by rw [hX]; exact cell_alloc_new (by simp) rfl)
  have l6 : ∀ W, Below X.heap.size X W → W.cell? ⟨w.heap.size + 1, 6, none⟩ = some (.float .f64 b6) := fun _ h => (h.cell (by rw [hX]; simp)).trans (by rw [hX]; exact cell_alloc_new (by simp) rfl)
  have l7 : ∀ W, Below X.heap.size X W → W.cell? ⟨w.heap.size + 1, 7, none⟩ = some (.float .f64 b7) := fun _ h => (h.cell (by rw [hX]; simp)).trans (by rw [hX]; exact cell_alloc_new (by simp) rfl)
  have HX : Hid (Below w.heap.size w X) := by rw [hX]; exact ((Below.refl _ _).alloc (Nat.le_refl _) _).alloc (by simp) _
  have h0 : Below X.heap.size X X := Below.refl _ _
  have s0 := k0 _ h0
  have t0 := l0 _ h0
  have s1 := k1 _ h0
  have t1 := l1 _ h0
  have s2 := k2 _ h0
  have t2 := l2 _ h0
  have s3 := k3 _ h0
  have t3 := l3 _ h0
  have s4 := k4 _ h0
  have t4 := l4 _ h0
  have s5 := k5 _ h0
  have t5 := l5 _ h0
  have s6 := k6 _ h0
  have t6 := l6 _ h0
  have s7 := k7 _ h0
  have t7 := l7 _ h0
  go_enter Try.func47, Try.ntmps47
  go_wp2_with fail
  rw [← hX]
  clear hX
  refine (eqZ_same z0 y0 _).mono ?_
  rintro e w1 ⟨rfl, hb0⟩
  have g0 : Below X.heap.size X w1 := box_step h0 hb0 (Nat.le_refl _)
  have G0 : Hid (Below X.heap.size X w1) := g0
  clear s0 t0 s1 t1 s2 t2 s3 t3 s4 t4 s5 t5 s6 t6 s7 t7 hb0
  have s0 := k0 _ g0
  have t0 := l0 _ g0
  have s1 := k1 _ g0
  have t1 := l1 _ g0
  have s2 := k2 _ g0
  have t2 := l2 _ g0
  have s3 := k3 _ g0
  have t3 := l3 _ g0
  have s4 := k4 _ g0
  have t4 := l4 _ g0
  have s5 := k5 _ g0
  have t5 := l5 _ g0
  have s6 := k6 _ g0
  have t6 := l6 _ g0
  have s7 := k7 _ g0
  have t7 := l7 _ g0
  clear g0
  go_wp2_with fail
  refine (eqZ_same z1 y1 _).mono ?_
  rintro e w2 ⟨rfl, hb1⟩
  have g1 : Below X.heap.size X w2 := box_step G0.out hb1 (Nat.le_refl _)
  have G1 : Hid (Below X.heap.size X w2) := g1
  clear s0 t0 s1 t1 s2 t2 s3 t3 s4 t4 s5 t5 s6 t6 s7 t7 hb1
  have s0 := k0 _ g1
  have t0 := l0 _ g1
  have s1 := k1 _ g1
  have t1 := l1 _ g1
  have s2 := k2 _ g1
  have t2 := l2 _ g1
  have s3 := k3 _ g1
  have t3 := l3 _ g1
  have s4 := k4 _ g1
  have t4 := l4 _ g1
  have s5 := k5 _ g1
  have t5 := l5 _ g1
  have s6 := k6 _ g1
  have t6 := l6 _ g1
  have s7 := k7 _ g1
  have t7 := l7 _ g1
  clear g1
  go_wp2_with fail
  refine (eqZ_same z2 y2 _).mono ?_
  rintro e w3 ⟨rfl, hb2⟩
  have g2 : Below X.heap.size X w3 := box_step G1.out hb2 (Nat.le_refl _)
  have G2 : Hid (Below X.heap.size X w3) := g2
  clear s0 t0 s1 t1 s2 t2 s3 t3 s4 t4 s5 t5 s6 t6 s7 t7 hb2
  have s0 := k0 _ g2
  have t0 := l0 _ g2
  have s1 := k1 _ g2
  have t1 := l1 _ g2
  have s2 := k2 _ g2
  have t2 := l2 _ g2
  have s3 := k3 _ g2
  have t3 := l3 _ g2
  have s4 := k4 _ g2
  have t4 := l4 _ g2
  have s5 := k5 _ g2
  have t5 := l5 _ g2
  have s6 := k6 _ g2
  have t6 := l6 _ g2
  have s7 := k7 _ g2
  have t7 := l7 _ g2
  clear g2
  go_wp2_with fail
  refine (eqZ_same z3 y3 _).mono ?_
  rintro e w4 ⟨rfl, hb3⟩
  have g3 : Below X.heap.size X w4 := box_step G2.out hb3 (Nat.le_refl _)
  have G3 : Hid (Below X.heap.size X w4) := g3
  clear s0 t0 s1 t1 s2 t2 s3 t3 s4 t4 s5 t5 s6 t6 s7 t7 hb3
  clear g3 k0 l0 k1 l1 k2 l2 k3 l3 k4 l4 k5 l5 k6 l6 k7 l7
  go_wp2
  go_ret
  exact ⟨rfl, box_step HX.out (G3.out.mono (Nat.le_refl _)) (Nat.le_refl _)⟩
end Go.Proofs.Ytnmkbhallidgaaa
namespace Go.Proofs.Ytnmkbhallidgaaa
open Go.ChangeShapes Go.WideShapes Go.ChangeAt Go.RowKit Go.Joins Go.Deep Fl
theorem cells52 : Try.prog.cellsOf 52 = 8 := by kernel_rfl
theorem trod_plate {H : Type} {enc : TypeId × Value → H} {W : World} {base : Nat} {spare : Nat → Bool} {held : Bool} {fuel : Nat} {c0 c1 c2 c3 c4 c5 c6 c7 : Value} {x : DataW H × List MemPlace}
    (h : DataW.trod enc Try.prog W base spare held fuel 52 [c0, c1, c2, c3, c4, c5, c6, c7] = some x) :
    ∃ a : Nat → Nat, [c0, c1, c2, c3, c4, c5, c6, c7] = [.float .f64 (a 0), .float .f64 (a 1), .float .f64 (a 2), .float .f64 (a 3), .float .f64 (a 4), .float .f64 (a 5), .float .f64 (a 6), .float .f64 (a 7)] ∧ ∀ j, j < 8 → W64 (a j) := by
  obtain ⟨y0, y1, y2, y3, n, _, _, h0, h1, h2, h3⟩ := trod_struct4 Try.underlying52 h
  simp [cells31] at h0 h1 h2 h3
  obtain ⟨p0, p1, rfl, rfl, w0, w1⟩ := trod_z h0
  obtain ⟨p2, p3, rfl, rfl, w2, w3⟩ := trod_z h1
  obtain ⟨p4, p5, rfl, rfl, w4, w5⟩ := trod_z h2
  obtain ⟨p6, p7, rfl, rfl, w6, w7⟩ := trod_z h3
  refine ⟨fun j => match j with
    | 0 => p0
    | 1 => p1
    | 2 => p2
    | 3 => p3
    | 4 => p4
    | 5 => p5
    | 6 => p6
    | _ => p7, rfl, fun j hj => ?_⟩
  match j, hj with
  | 0, _ => exact w0
  | 1, _ => exact w1
  | 2, _ => exact w2
  | 3, _ => exact w3
  | 4, _ => exact w4
  | 5, _ => exact w5
  | 6, _ => exact w6
  | 7, _ => exact w7
theorem array8 {c : Array Value} (h : c.size = 8) : ∃ c0 c1 c2 c3 c4 c5 c6 c7, c = #[c0, c1, c2, c3, c4, c5, c6, c7] := by
  obtain ⟨l⟩ := c
  match l, h with
  | [c0, c1, c2, c3, c4, c5, c6, c7], _ => exact ⟨c0, c1, c2, c3, c4, c5, c6, c7, rfl⟩
/-- The classes of a plate's words. -/
def clP (a : Nat → Nat) : P4 := ⟨(cl (a 0), cl (a 1)), (cl (a 2), cl (a 3)), (cl (a 4), cl (a 5)), (cl (a 6), cl (a 7))⟩
theorem pc_own {a : Nat → Nat} (h : ∀ j, j < 8 → W64 (a j)) : Pc (a 0) (a 1) (a 2) (a 3) (a 4) (a 5) (a 6) (a 7) (clP a) :=
  ⟨⟨h 0 (by omega), h 1 (by omega), rfl⟩, ⟨h 2 (by omega), h 3 (by omega), rfl⟩, ⟨h 4 (by omega), h 5 (by omega), rfl⟩, ⟨h 6 (by omega), h 7 (by omega), rfl⟩⟩
theorem open_plate {H : Type} {enc : TypeId × Value → H} {W : World} {base : Nat} {v : Value} {d : DataW H} {p : List MemPlace} (hv : Value.okWide Try.prog W .any base 52 v)
    (h : DataW.Trod enc Try.prog W 0 (fun _ => true) true 52 v d p) : ∃ a : Nat → Nat, Pc (a 0) (a 1) (a 2) (a 3) (a 4) (a 5) (a 6) (a 7) (clP a) ∧ v = Pv (a 0) (a 1) (a 2) (a 3) (a 4) (a 5) (a 6) (a 7) := by
  obtain ⟨cs, rfl, hsz⟩ := okWide_struct Try.underlying52 hv
  obtain ⟨c0, c1, c2, c3, c4, c5, c6, c7, rfl⟩ := array8 (hsz.trans cells52)
  obtain ⟨fuel, hf⟩ := h
  have hf' : DataW.trod enc Try.prog W 0 (fun _ => true) true fuel 52 [c0, c1, c2, c3, c4, c5, c6, c7] = some (d, p) := by simpa [Value.cells] using hf
  obtain ⟨a, e, ha⟩ := trod_plate hf'
  simp only [List.cons.injEq, and_true] at e
  obtain ⟨rfl, rfl, rfl, rfl, rfl, rfl, rfl, rfl⟩ := e
  exact ⟨a, pc_own ha, rfl⟩
end Go.Proofs.Ytnmkbhallidgaaa
