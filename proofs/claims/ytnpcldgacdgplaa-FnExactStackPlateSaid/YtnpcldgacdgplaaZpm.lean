/- Plates: products: contracts of the specification's and the program's. -/
import Derived.Test.YtnpcldgacdgplaaZp
import Derived.Deep.RegionHeld3
namespace Go.Proofs.Ytnpcldgacdgplaa
open Go.RowKit Fl
set_option linter.unusedVariables false
set_option maxHeartbeats 6400000 in
theorem sMulP_any {a0 a1 a2 a3 a4 a5 a6 a7 b0 b1 b2 b3 b4 b5 b6 b7 : Nat} {p q : P4} (h : Pc a0 a1 a2 a3 a4 a5 a6 a7 p) (k : Pc b0 b1 b2 b3 b4 b5 b6 b7 q) (w : World) : PV 79 #[Pv a0 a1 a2 a3 a4 a5 a6 a7, Pv b0 b1 b2 b3 b4 b5 b6 b7] w (mulP p q) := by
  obtain ⟨z0, z1, z2, z3⟩ := h
  obtain ⟨y0, y1, y2, y3⟩ := k
  unfold PV
  have hst := st64
  obtain ⟨X, hX⟩ : ∃ X, X = ((w.alloc (.cells #[.float .f64 a0, .float .f64 a1, .float .f64 a2, .float .f64 a3, .float .f64 a4, .float .f64 a5, .float .f64 a6, .float .f64 a7] 43)).alloc (.cells #[.float .f64 b0, .float .f64 b1, .float .f64 b2, .float .f64 b3, .float .f64 b4, .float .f64 b5, .float .f64 b6, .float .f64 b7] 43)) := ⟨_, rfl⟩
  have h0 : Own (w.heap.size + 1 + 1) X (w.heap.size + 1 + 1) 8 43 (X.alloc (.cells #[.float .f64 0, .float .f64 0, .float .f64 0, .float .f64 0, .float .f64 0, .float .f64 0, .float .f64 0, .float .f64 0] 43)) := by
    have := own_made (X := X) (t := 43) #[.float .f64 0, .float .f64 0, .float .f64 0, .float .f64 0, .float .f64 0, .float .f64 0, .float .f64 0, .float .f64 0] (Nat.le_refl _)
    rw [hX] at this ⊢
    simpa using this
  have k0_0 : ∀ W, Own (w.heap.size + 1 + 1) X (w.heap.size + 1 + 1) 8 43 W → W.cell? ⟨w.heap.size, 0, none⟩ = some (.float .f64 a0) := fun _ h => by rw [hX] at h; exact h.old (by simp <;> omega) (cell_alloc_old (cell_alloc_new (by simp) rfl))
  have k0_1 : ∀ W, Own (w.heap.size + 1 + 1) X (w.heap.size + 1 + 1) 8 43 W → W.cell? ⟨w.heap.size, 1, none⟩ = some (.float .f64 a1) := fun _ h => by rw [hX] at h; exact h.old (by simp <;> omega) (cell_alloc_old (cell_alloc_new (by simp) rfl))
  have k0_2 : ∀ W, Own (w.heap.size + 1 + 1) X (w.heap.size + 1 + 1) 8 43 W → W.cell? ⟨w.heap.size, 2, none⟩ = some (.float .f64 a2) := fun _ h => by rw [hX] at h; exact h.old (by simp <;> omega) (cell_alloc_old (cell_alloc_new (by simp) rfl))
  have k0_3 : ∀ W, Own (w.heap.size + 1 + 1) X (w.heap.size + 1 + 1) 8 43 W → W.cell? ⟨w.heap.size, 3, none⟩ = some (.float .f64 a3) := fun _ h => by rw [hX] at h; exact h.old (by simp <;> omega) (cell_alloc_old (cell_alloc_new (by simp) rfl))
  have k0_4 : ∀ W, Own (w.heap.size + 1 + 1) X (w.heap.size + 1 + 1) 8 43 W → W.cell? ⟨w.heap.size, 4, none⟩ = some (.float .f64 a4) := fun _ h => by rw [hX] at h; exact h.old (by simp <;> omega) (cell_alloc_old (cell_alloc_new (by simp) rfl))
  have k0_5 : ∀ W, Own (w.heap.size + 1 + 1) X (w.heap.size + 1 + 1) 8 43 W → W.cell? ⟨w.heap.size, 5, none⟩ = some (.float .f64 a5) := fun _ h => by rw [hX] at h; exact h.old (by simp <;> omega) (cell_alloc_old (cell_alloc_new (by simp) rfl))
  have k0_6 : ∀ W, Own (w.heap.size + 1 + 1) X (w.heap.size + 1 + 1) 8 43 W → W.cell? ⟨w.heap.size, 6, none⟩ = some (.float .f64 a6) := fun _ h => by rw [hX] at h; exact h.old (by simp <;> omega) (cell_alloc_old (cell_alloc_new (by simp) rfl))
  have k0_7 : ∀ W, Own (w.heap.size + 1 + 1) X (w.heap.size + 1 + 1) 8 43 W → W.cell? ⟨w.heap.size, 7, none⟩ = some (.float .f64 a7) := fun _ h => by rw [hX] at h; exact h.old (by simp <;> omega) (cell_alloc_old (cell_alloc_new (by simp) rfl))
  have k1_0 : ∀ W, Own (w.heap.size + 1 + 1) X (w.heap.size + 1 + 1) 8 43 W → W.cell? ⟨w.heap.size + 1, 0, none⟩ = some (.float .f64 b0) := fun _ h => by rw [hX] at h; exact h.old (by simp <;> omega) (cell_alloc_new (by simp) rfl)
  have k1_1 : ∀ W, Own (w.heap.size + 1 + 1) X (w.heap.size + 1 + 1) 8 43 W → W.cell? ⟨w.heap.size + 1, 1, none⟩ = some (.float .f64 b1) := fun _ h => by rw [hX] at h; exact h.old (by simp <;> omega) (cell_alloc_new (by simp) rfl)
  have k1_2 : ∀ W, Own (w.heap.size + 1 + 1) X (w.heap.size + 1 + 1) 8 43 W → W.cell? ⟨w.heap.size + 1, 2, none⟩ = some (.float .f64 b2) := fun _ h => by rw [hX] at h; exact h.old (by simp <;> omega) (cell_alloc_new (by simp) rfl)
  have k1_3 : ∀ W, Own (w.heap.size + 1 + 1) X (w.heap.size + 1 + 1) 8 43 W → W.cell? ⟨w.heap.size + 1, 3, none⟩ = some (.float .f64 b3) := fun _ h => by rw [hX] at h; exact h.old (by simp <;> omega) (cell_alloc_new (by simp) rfl)
  have k1_4 : ∀ W, Own (w.heap.size + 1 + 1) X (w.heap.size + 1 + 1) 8 43 W → W.cell? ⟨w.heap.size + 1, 4, none⟩ = some (.float .f64 b4) := fun _ h => by rw [hX] at h; exact h.old (by simp <;> omega) (cell_alloc_new (by simp) rfl)
  have k1_5 : ∀ W, Own (w.heap.size + 1 + 1) X (w.heap.size + 1 + 1) 8 43 W → W.cell? ⟨w.heap.size + 1, 5, none⟩ = some (.float .f64 b5) := fun _ h => by rw [hX] at h; exact h.old (by simp <;> omega) (cell_alloc_new (by simp) rfl)
  have k1_6 : ∀ W, Own (w.heap.size + 1 + 1) X (w.heap.size + 1 + 1) 8 43 W → W.cell? ⟨w.heap.size + 1, 6, none⟩ = some (.float .f64 b6) := fun _ h => by rw [hX] at h; exact h.old (by simp <;> omega) (cell_alloc_new (by simp) rfl)
  have k1_7 : ∀ W, Own (w.heap.size + 1 + 1) X (w.heap.size + 1 + 1) 8 43 W → W.cell? ⟨w.heap.size + 1, 7, none⟩ = some (.float .f64 b7) := fun _ h => by rw [hX] at h; exact h.old (by simp <;> omega) (cell_alloc_new (by simp) rfl)
  have g0 : ∀ W, Own (w.heap.size + 1 + 1) X (w.heap.size + 1 + 1) 8 43 W → W.cell? ⟨w.heap.size + 1 + 1, 0, none⟩ = some (got W (w.heap.size + 1 + 1) 0) := fun _ h => h.cell (by omega)
  have g1 : ∀ W, Own (w.heap.size + 1 + 1) X (w.heap.size + 1 + 1) 8 43 W → W.cell? ⟨w.heap.size + 1 + 1, 1, none⟩ = some (got W (w.heap.size + 1 + 1) 1) := fun _ h => h.cell (by omega)
  have g2 : ∀ W, Own (w.heap.size + 1 + 1) X (w.heap.size + 1 + 1) 8 43 W → W.cell? ⟨w.heap.size + 1 + 1, 2, none⟩ = some (got W (w.heap.size + 1 + 1) 2) := fun _ h => h.cell (by omega)
  have g3 : ∀ W, Own (w.heap.size + 1 + 1) X (w.heap.size + 1 + 1) 8 43 W → W.cell? ⟨w.heap.size + 1 + 1, 3, none⟩ = some (got W (w.heap.size + 1 + 1) 3) := fun _ h => h.cell (by omega)
  have g4 : ∀ W, Own (w.heap.size + 1 + 1) X (w.heap.size + 1 + 1) 8 43 W → W.cell? ⟨w.heap.size + 1 + 1, 4, none⟩ = some (got W (w.heap.size + 1 + 1) 4) := fun _ h => h.cell (by omega)
  have g5 : ∀ W, Own (w.heap.size + 1 + 1) X (w.heap.size + 1 + 1) 8 43 W → W.cell? ⟨w.heap.size + 1 + 1, 5, none⟩ = some (got W (w.heap.size + 1 + 1) 5) := fun _ h => h.cell (by omega)
  have g6 : ∀ W, Own (w.heap.size + 1 + 1) X (w.heap.size + 1 + 1) 8 43 W → W.cell? ⟨w.heap.size + 1 + 1, 6, none⟩ = some (got W (w.heap.size + 1 + 1) 6) := fun _ h => h.cell (by omega)
  have g7 : ∀ W, Own (w.heap.size + 1 + 1) X (w.heap.size + 1 + 1) 8 43 W → W.cell? ⟨w.heap.size + 1 + 1, 7, none⟩ = some (got W (w.heap.size + 1 + 1) 7) := fun _ h => h.cell (by omega)
  have gf : ∀ W j, Own (w.heap.size + 1 + 1) X (w.heap.size + 1 + 1) 8 43 W → W.frozen? ⟨w.heap.size + 1 + 1, j, none⟩ = false := fun _ j h => h.frozen j
  have HX : Hid (Below w.heap.size w X) := by rw [hX]; exact ((Below.refl _ _).alloc (by simp <;> omega) _).alloc (by simp <;> omega) _
  go_enter Try.func79, Try.ntmps79
  go_wp2_with fail
  rw [← hX]
  obtain ⟨Y, hY⟩ : ∃ Y, Y = X.alloc (.cells #[.float .f64 0, .float .f64 0, .float .f64 0, .float .f64 0, .float .f64 0, .float .f64 0, .float .f64 0, .float .f64 0] 43) := ⟨_, rfl⟩
  rw [← hY] at h0 ⊢
  clear hX hY
  go_region_held (fun W => Own (w.heap.size + 1 + 1) X (w.heap.size + 1 + 1) 8 43 W) (first | with_reducible assumption | with_reducible exact Own.drew ‹_› | with_reducible exact Own.drewN ‹_› _ | with_reducible exact Own.set (Own.set (Own.set (Own.set (Own.set (Own.set (Own.set (Own.set ‹_› _ _) _ _) _ _) _ _) _ _) _ _) _ _) _ _)
    (first | (go_at_call 100; refine (sTwo_any (by assumption) (by assumption) (by assumption) (by assumption) _).mono ?_; rintro e w1 ⟨x, y, rfl, hz, hb1⟩; have hR1 := Own.call ‹_› hb1))
  have c0 := g0 _ hR1
  have c1 := g1 _ hR1
  have c2 := g2 _ hR1
  have c3 := g3 _ hR1
  have c4 := g4 _ hR1
  have c5 := g5 _ hR1
  have c6 := g6 _ hR1
  have c7 := g7 _ hR1
  clear k0_0 k0_1 k0_2 k0_3 k0_4 k0_5 k0_6 k0_7 k1_0 k1_1 k1_2 k1_3 k1_4 k1_5 k1_6 k1_7 g0 g1 g2 g3 g4 g5 g6 g7 gf 
  go_wp2
  refine bodyPost_ret (v := Pv _ _ _ _ _ _ _ _) (by simp [results, Try.results79, go_sem, c0, c1, c2, c3, c4, c5, c6, c7] <;> exact ⟨rfl, rfl, rfl, rfl, rfl, rfl, rfl, rfl⟩) rfl ⟨_, _, _, _, _, _, _, _, rfl, ⟨by assumption, by assumption, by assumption, by assumption⟩, Own.out (by assumption) HX.out (by omega)⟩
set_option maxHeartbeats 6400000 in
theorem iMulP_any {a0 a1 a2 a3 a4 a5 a6 a7 b0 b1 b2 b3 b4 b5 b6 b7 : Nat} {p q : P4} (h : Pc a0 a1 a2 a3 a4 a5 a6 a7 p) (k : Pc b0 b1 b2 b3 b4 b5 b6 b7 q) (w : World) : PV 101 #[Pv a0 a1 a2 a3 a4 a5 a6 a7, Pv b0 b1 b2 b3 b4 b5 b6 b7] w (mulP p q) := by
  obtain ⟨z0, z1, z2, z3⟩ := h
  obtain ⟨y0, y1, y2, y3⟩ := k
  unfold PV
  have hst := st64
  obtain ⟨X, hX⟩ : ∃ X, X = ((w.alloc (.cells #[.float .f64 a0, .float .f64 a1, .float .f64 a2, .float .f64 a3, .float .f64 a4, .float .f64 a5, .float .f64 a6, .float .f64 a7] 43)).alloc (.cells #[.float .f64 b0, .float .f64 b1, .float .f64 b2, .float .f64 b3, .float .f64 b4, .float .f64 b5, .float .f64 b6, .float .f64 b7] 43)) := ⟨_, rfl⟩
  have h0 : Own (w.heap.size + 1 + 1) X (w.heap.size + 1 + 1) 8 43 (X.alloc (.cells #[.float .f64 0, .float .f64 0, .float .f64 0, .float .f64 0, .float .f64 0, .float .f64 0, .float .f64 0, .float .f64 0] 43)) := by
    have := own_made (X := X) (t := 43) #[.float .f64 0, .float .f64 0, .float .f64 0, .float .f64 0, .float .f64 0, .float .f64 0, .float .f64 0, .float .f64 0] (Nat.le_refl _)
    rw [hX] at this ⊢
    simpa using this
  have k0_0 : ∀ W, Own (w.heap.size + 1 + 1) X (w.heap.size + 1 + 1) 8 43 W → W.cell? ⟨w.heap.size, 0, none⟩ = some (.float .f64 a0) := fun _ h => by rw [hX] at h; exact h.old (by simp <;> omega) (cell_alloc_old (cell_alloc_new (by simp) rfl))
  have k0_1 : ∀ W, Own (w.heap.size + 1 + 1) X (w.heap.size + 1 + 1) 8 43 W → W.cell? ⟨w.heap.size, 1, none⟩ = some (.float .f64 a1) := fun _ h => by rw [hX] at h; exact h.old (by simp <;> omega) (cell_alloc_old (cell_alloc_new (by simp) rfl))
  have k0_2 : ∀ W, Own (w.heap.size + 1 + 1) X (w.heap.size + 1 + 1) 8 43 W → W.cell? ⟨w.heap.size, 2, none⟩ = some (.float .f64 a2) := fun _ h => by rw [hX] at h; exact h.old (by simp <;> omega) (cell_alloc_old (cell_alloc_new (by simp) rfl))
  have k0_3 : ∀ W, Own (w.heap.size + 1 + 1) X (w.heap.size + 1 + 1) 8 43 W → W.cell? ⟨w.heap.size, 3, none⟩ = some (.float .f64 a3) := fun _ h => by rw [hX] at h; exact h.old (by simp <;> omega) (cell_alloc_old (cell_alloc_new (by simp) rfl))
  have k0_4 : ∀ W, Own (w.heap.size + 1 + 1) X (w.heap.size + 1 + 1) 8 43 W → W.cell? ⟨w.heap.size, 4, none⟩ = some (.float .f64 a4) := fun _ h => by rw [hX] at h; exact h.old (by simp <;> omega) (cell_alloc_old (cell_alloc_new (by simp) rfl))
  have k0_5 : ∀ W, Own (w.heap.size + 1 + 1) X (w.heap.size + 1 + 1) 8 43 W → W.cell? ⟨w.heap.size, 5, none⟩ = some (.float .f64 a5) := fun _ h => by rw [hX] at h; exact h.old (by simp <;> omega) (cell_alloc_old (cell_alloc_new (by simp) rfl))
  have k0_6 : ∀ W, Own (w.heap.size + 1 + 1) X (w.heap.size + 1 + 1) 8 43 W → W.cell? ⟨w.heap.size, 6, none⟩ = some (.float .f64 a6) := fun _ h => by rw [hX] at h; exact h.old (by simp <;> omega) (cell_alloc_old (cell_alloc_new (by simp) rfl))
  have k0_7 : ∀ W, Own (w.heap.size + 1 + 1) X (w.heap.size + 1 + 1) 8 43 W → W.cell? ⟨w.heap.size, 7, none⟩ = some (.float .f64 a7) := fun _ h => by rw [hX] at h; exact h.old (by simp <;> omega) (cell_alloc_old (cell_alloc_new (by simp) rfl))
  have k1_0 : ∀ W, Own (w.heap.size + 1 + 1) X (w.heap.size + 1 + 1) 8 43 W → W.cell? ⟨w.heap.size + 1, 0, none⟩ = some (.float .f64 b0) := fun _ h => by rw [hX] at h; exact h.old (by simp <;> omega) (cell_alloc_new (by simp) rfl)
  have k1_1 : ∀ W, Own (w.heap.size + 1 + 1) X (w.heap.size + 1 + 1) 8 43 W → W.cell? ⟨w.heap.size + 1, 1, none⟩ = some (.float .f64 b1) := fun _ h => by rw [hX] at h; exact h.old (by simp <;> omega) (cell_alloc_new (by simp) rfl)
  have k1_2 : ∀ W, Own (w.heap.size + 1 + 1) X (w.heap.size + 1 + 1) 8 43 W → W.cell? ⟨w.heap.size + 1, 2, none⟩ = some (.float .f64 b2) := fun _ h => by rw [hX] at h; exact h.old (by simp <;> omega) (cell_alloc_new (by simp) rfl)
  have k1_3 : ∀ W, Own (w.heap.size + 1 + 1) X (w.heap.size + 1 + 1) 8 43 W → W.cell? ⟨w.heap.size + 1, 3, none⟩ = some (.float .f64 b3) := fun _ h => by rw [hX] at h; exact h.old (by simp <;> omega) (cell_alloc_new (by simp) rfl)
  have k1_4 : ∀ W, Own (w.heap.size + 1 + 1) X (w.heap.size + 1 + 1) 8 43 W → W.cell? ⟨w.heap.size + 1, 4, none⟩ = some (.float .f64 b4) := fun _ h => by rw [hX] at h; exact h.old (by simp <;> omega) (cell_alloc_new (by simp) rfl)
  have k1_5 : ∀ W, Own (w.heap.size + 1 + 1) X (w.heap.size + 1 + 1) 8 43 W → W.cell? ⟨w.heap.size + 1, 5, none⟩ = some (.float .f64 b5) := fun _ h => by rw [hX] at h; exact h.old (by simp <;> omega) (cell_alloc_new (by simp) rfl)
  have k1_6 : ∀ W, Own (w.heap.size + 1 + 1) X (w.heap.size + 1 + 1) 8 43 W → W.cell? ⟨w.heap.size + 1, 6, none⟩ = some (.float .f64 b6) := fun _ h => by rw [hX] at h; exact h.old (by simp <;> omega) (cell_alloc_new (by simp) rfl)
  have k1_7 : ∀ W, Own (w.heap.size + 1 + 1) X (w.heap.size + 1 + 1) 8 43 W → W.cell? ⟨w.heap.size + 1, 7, none⟩ = some (.float .f64 b7) := fun _ h => by rw [hX] at h; exact h.old (by simp <;> omega) (cell_alloc_new (by simp) rfl)
  have g0 : ∀ W, Own (w.heap.size + 1 + 1) X (w.heap.size + 1 + 1) 8 43 W → W.cell? ⟨w.heap.size + 1 + 1, 0, none⟩ = some (got W (w.heap.size + 1 + 1) 0) := fun _ h => h.cell (by omega)
  have g1 : ∀ W, Own (w.heap.size + 1 + 1) X (w.heap.size + 1 + 1) 8 43 W → W.cell? ⟨w.heap.size + 1 + 1, 1, none⟩ = some (got W (w.heap.size + 1 + 1) 1) := fun _ h => h.cell (by omega)
  have g2 : ∀ W, Own (w.heap.size + 1 + 1) X (w.heap.size + 1 + 1) 8 43 W → W.cell? ⟨w.heap.size + 1 + 1, 2, none⟩ = some (got W (w.heap.size + 1 + 1) 2) := fun _ h => h.cell (by omega)
  have g3 : ∀ W, Own (w.heap.size + 1 + 1) X (w.heap.size + 1 + 1) 8 43 W → W.cell? ⟨w.heap.size + 1 + 1, 3, none⟩ = some (got W (w.heap.size + 1 + 1) 3) := fun _ h => h.cell (by omega)
  have g4 : ∀ W, Own (w.heap.size + 1 + 1) X (w.heap.size + 1 + 1) 8 43 W → W.cell? ⟨w.heap.size + 1 + 1, 4, none⟩ = some (got W (w.heap.size + 1 + 1) 4) := fun _ h => h.cell (by omega)
  have g5 : ∀ W, Own (w.heap.size + 1 + 1) X (w.heap.size + 1 + 1) 8 43 W → W.cell? ⟨w.heap.size + 1 + 1, 5, none⟩ = some (got W (w.heap.size + 1 + 1) 5) := fun _ h => h.cell (by omega)
  have g6 : ∀ W, Own (w.heap.size + 1 + 1) X (w.heap.size + 1 + 1) 8 43 W → W.cell? ⟨w.heap.size + 1 + 1, 6, none⟩ = some (got W (w.heap.size + 1 + 1) 6) := fun _ h => h.cell (by omega)
  have g7 : ∀ W, Own (w.heap.size + 1 + 1) X (w.heap.size + 1 + 1) 8 43 W → W.cell? ⟨w.heap.size + 1 + 1, 7, none⟩ = some (got W (w.heap.size + 1 + 1) 7) := fun _ h => h.cell (by omega)
  have gf : ∀ W j, Own (w.heap.size + 1 + 1) X (w.heap.size + 1 + 1) 8 43 W → W.frozen? ⟨w.heap.size + 1 + 1, j, none⟩ = false := fun _ j h => h.frozen j
  have HX : Hid (Below w.heap.size w X) := by rw [hX]; exact ((Below.refl _ _).alloc (by simp <;> omega) _).alloc (by simp <;> omega) _
  go_enter Try.func101, Try.ntmps101
  go_wp2_with fail
  rw [← hX]
  obtain ⟨Y, hY⟩ : ∃ Y, Y = X.alloc (.cells #[.float .f64 0, .float .f64 0, .float .f64 0, .float .f64 0, .float .f64 0, .float .f64 0, .float .f64 0, .float .f64 0] 43) := ⟨_, rfl⟩
  rw [← hY] at h0 ⊢
  clear hX hY
  go_region_held (fun W => Own (w.heap.size + 1 + 1) X (w.heap.size + 1 + 1) 8 43 W) (first | with_reducible assumption | with_reducible exact Own.drew ‹_› | with_reducible exact Own.drewN ‹_› _ | with_reducible exact Own.set (Own.set (Own.set (Own.set (Own.set (Own.set (Own.set (Own.set ‹_› _ _) _ _) _ _) _ _) _ _) _ _) _ _) _ _)
    (first | (go_at_call 112; refine (iTwo_any (by assumption) (by assumption) (by assumption) (by assumption) _).mono ?_; rintro e w1 ⟨x, y, rfl, hz, hb1⟩; have hR1 := Own.call ‹_› hb1))
  have c0 := g0 _ hR1
  have c1 := g1 _ hR1
  have c2 := g2 _ hR1
  have c3 := g3 _ hR1
  have c4 := g4 _ hR1
  have c5 := g5 _ hR1
  have c6 := g6 _ hR1
  have c7 := g7 _ hR1
  clear k0_0 k0_1 k0_2 k0_3 k0_4 k0_5 k0_6 k0_7 k1_0 k1_1 k1_2 k1_3 k1_4 k1_5 k1_6 k1_7 g0 g1 g2 g3 g4 g5 g6 g7 gf 
  go_wp2
  refine bodyPost_ret (v := Pv _ _ _ _ _ _ _ _) (by simp [results, Try.results101, go_sem, c0, c1, c2, c3, c4, c5, c6, c7] <;> exact ⟨rfl, rfl, rfl, rfl, rfl, rfl, rfl, rfl⟩) rfl ⟨_, _, _, _, _, _, _, _, rfl, ⟨by assumption, by assumption, by assumption, by assumption⟩, Own.out (by assumption) HX.out (by omega)⟩
end Go.Proofs.Ytnpcldgacdgplaa
