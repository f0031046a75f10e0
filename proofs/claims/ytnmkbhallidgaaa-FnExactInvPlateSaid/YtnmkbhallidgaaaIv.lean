/- Plates turned round: contracts of the specification's and the program's. -/
import Derived.Test.YtnmkbhallidgaaaZs
import Derived.Test.YtnmkbhallidgaaaTp
import Derived.Deep.RegionHeld3
namespace Go.Proofs.Ytnmkbhallidgaaa
open Go.RowKit Fl
set_option linter.unusedVariables false
set_option linter.unusedSimpArgs false
/-- A call's own block r, and a pair of floats in block k. -/
structure OwnD (B : Nat) (X : World) (r n : Nat) (t : TypeId) (k x y : Nat) (W : World) : Prop where
  own : Own B X r n t W
  d0 : W.cell? ⟨k, 0, none⟩ = some (.float .f64 x)
  d1 : W.cell? ⟨k, 1, none⟩ = some (.float .f64 y)
  ne : k ≠ r
namespace OwnD
variable {B : Nat} {X W : World} {r n k x y : Nat} {t : TypeId}
theorem drew (h : OwnD B X r n t k x y W) : OwnD B X r n t k x y W.drew := ⟨h.own.drew, h.d0, h.d1, h.ne⟩
theorem call (h : OwnD B X r n t k x y W) {W' : World} (b : Below W.heap.size W W') : OwnD B X r n t k x y W' :=
  ⟨h.own.call b, (b.cell (World.block_lt_of_cell? _ _ h.d0)).trans h.d0, (b.cell (World.block_lt_of_cell? _ _ h.d1)).trans h.d1, h.ne⟩
theorem cell_other {W : World} {k r i j : Nat} (h : k ≠ r) (v : Value) : (W.setCell ⟨r, j, none⟩ v).cell? ⟨k, i, none⟩ = W.cell? ⟨k, i, none⟩ := by
  simp only [World.cell?]
  rw [Below.heap_setCell _ _ _ _ (by simpa using h)]
theorem set (h : OwnD B X r n t k x y W) (j : Nat) (v : Value) : OwnD B X r n t k x y (W.setCell ⟨r, j, none⟩ v) :=
  ⟨h.own.set j v, (cell_other h.ne v).trans h.d0, (cell_other h.ne v).trans h.d1, h.ne⟩
end OwnD
def invP (p : P4) : P4 := ⟨divK p.D (detC p), divK (negC p.B) (detC p), divK (negC p.C) (detC p), divK p.A (detC p)⟩
set_option maxHeartbeats 6400000 in
theorem sInv_any {a0 a1 a2 a3 a4 a5 a6 a7 : Nat} {p : P4} (h : Pc a0 a1 a2 a3 a4 a5 a6 a7 p) (w : World) : PV 50 #[Pv a0 a1 a2 a3 a4 a5 a6 a7] w (invP p) := by
  have H := h
  obtain ⟨z0, z1, z2, z3⟩ := h
  unfold PV
  have hst := st64
  obtain ⟨X, hX⟩ : ∃ X, X = w.alloc (.cells #[.float .f64 a0, .float .f64 a1, .float .f64 a2, .float .f64 a3, .float .f64 a4, .float .f64 a5, .float .f64 a6, .float .f64 a7] 54) := ⟨_, rfl⟩
  have h0 : Own (w.heap.size + 1) X (w.heap.size + 1) 8 54 (X.alloc (.cells #[.float .f64 0, .float .f64 0, .float .f64 0, .float .f64 0, .float .f64 0, .float .f64 0, .float .f64 0, .float .f64 0] 54)) := by
    have := own_made (X := X) (t := 54) #[.float .f64 0, .float .f64 0, .float .f64 0, .float .f64 0, .float .f64 0, .float .f64 0, .float .f64 0, .float .f64 0] (Nat.le_refl _)
    rw [hX] at this ⊢
    simpa using this
  have k0 : ∀ W, Own (w.heap.size + 1) X (w.heap.size + 1) 8 54 W → W.cell? ⟨w.heap.size, 0, none⟩ = some (.float .f64 a0) := fun _ h => by rw [hX] at h; exact h.old (by simp <;> omega) (by simp)
  have k1 : ∀ W, Own (w.heap.size + 1) X (w.heap.size + 1) 8 54 W → W.cell? ⟨w.heap.size, 1, none⟩ = some (.float .f64 a1) := fun _ h => by rw [hX] at h; exact h.old (by simp <;> omega) (by simp)
  have k2 : ∀ W, Own (w.heap.size + 1) X (w.heap.size + 1) 8 54 W → W.cell? ⟨w.heap.size, 2, none⟩ = some (.float .f64 a2) := fun _ h => by rw [hX] at h; exact h.old (by simp <;> omega) (by simp)
  have k3 : ∀ W, Own (w.heap.size + 1) X (w.heap.size + 1) 8 54 W → W.cell? ⟨w.heap.size, 3, none⟩ = some (.float .f64 a3) := fun _ h => by rw [hX] at h; exact h.old (by simp <;> omega) (by simp)
  have k4 : ∀ W, Own (w.heap.size + 1) X (w.heap.size + 1) 8 54 W → W.cell? ⟨w.heap.size, 4, none⟩ = some (.float .f64 a4) := fun _ h => by rw [hX] at h; exact h.old (by simp <;> omega) (by simp)
  have k5 : ∀ W, Own (w.heap.size + 1) X (w.heap.size + 1) 8 54 W → W.cell? ⟨w.heap.size, 5, none⟩ = some (.float .f64 a5) := fun _ h => by rw [hX] at h; exact h.old (by simp <;> omega) (by simp)
  have k6 : ∀ W, Own (w.heap.size + 1) X (w.heap.size + 1) 8 54 W → W.cell? ⟨w.heap.size, 6, none⟩ = some (.float .f64 a6) := fun _ h => by rw [hX] at h; exact h.old (by simp <;> omega) (by simp)
  have k7 : ∀ W, Own (w.heap.size + 1) X (w.heap.size + 1) 8 54 W → W.cell? ⟨w.heap.size, 7, none⟩ = some (.float .f64 a7) := fun _ h => by rw [hX] at h; exact h.old (by simp <;> omega) (by simp)
  have y0 := k0 _ h0
  have y1 := k1 _ h0
  have y2 := k2 _ h0
  have y3 := k3 _ h0
  have y4 := k4 _ h0
  have y5 := k5 _ h0
  have y6 := k6 _ h0
  have y7 := k7 _ h0
  have HX : Hid (Below w.heap.size w X) := by rw [hX]; exact (Below.refl _ _).alloc (by simp) _
  go_enter Try.func50, Try.ntmps50
  go_wp2_with fail
  rw [← hX]
  obtain ⟨Y, hY⟩ : ∃ Y, Y = X.alloc (.cells #[.float .f64 0, .float .f64 0, .float .f64 0, .float .f64 0, .float .f64 0, .float .f64 0, .float .f64 0, .float .f64 0] 54) := ⟨_, rfl⟩
  rw [← hY] at h0 ⊢
  clear hX hY y0 y1 y2 y3 y4 y5 y6 y7
  refine (sDet_any H _).mono ?_
  rintro e w1 ⟨dx, dy, rfl, hd, hb1⟩
  have h1 := Own.call h0 hb1
  obtain ⟨V, hV⟩ : ∃ V, V = w1.alloc (.cells #[.float .f64 dx, .float .f64 dy] 28) := ⟨_, rfl⟩
  obtain ⟨K, hK⟩ : ∃ K, K = w1.heap.size := ⟨_, rfl⟩
  have hD : OwnD (w.heap.size + 1) X (w.heap.size + 1) 8 54 K dx dy V := by
    rw [hV, hK]
    exact ⟨h1.alloc _, by simp, by simp, by have := h1.lt; omega⟩
  have q0 : ∀ W, OwnD (w.heap.size + 1) X (w.heap.size + 1) 8 54 K dx dy W → W.cell? ⟨w.heap.size, 0, none⟩ = some (.float .f64 a0) := fun W h => k0 W h.own
  have q1 : ∀ W, OwnD (w.heap.size + 1) X (w.heap.size + 1) 8 54 K dx dy W → W.cell? ⟨w.heap.size, 1, none⟩ = some (.float .f64 a1) := fun W h => k1 W h.own
  have q2 : ∀ W, OwnD (w.heap.size + 1) X (w.heap.size + 1) 8 54 K dx dy W → W.cell? ⟨w.heap.size, 2, none⟩ = some (.float .f64 a2) := fun W h => k2 W h.own
  have q3 : ∀ W, OwnD (w.heap.size + 1) X (w.heap.size + 1) 8 54 K dx dy W → W.cell? ⟨w.heap.size, 3, none⟩ = some (.float .f64 a3) := fun W h => k3 W h.own
  have q4 : ∀ W, OwnD (w.heap.size + 1) X (w.heap.size + 1) 8 54 K dx dy W → W.cell? ⟨w.heap.size, 4, none⟩ = some (.float .f64 a4) := fun W h => k4 W h.own
  have q5 : ∀ W, OwnD (w.heap.size + 1) X (w.heap.size + 1) 8 54 K dx dy W → W.cell? ⟨w.heap.size, 5, none⟩ = some (.float .f64 a5) := fun W h => k5 W h.own
  have q6 : ∀ W, OwnD (w.heap.size + 1) X (w.heap.size + 1) 8 54 K dx dy W → W.cell? ⟨w.heap.size, 6, none⟩ = some (.float .f64 a6) := fun W h => k6 W h.own
  have q7 : ∀ W, OwnD (w.heap.size + 1) X (w.heap.size + 1) 8 54 K dx dy W → W.cell? ⟨w.heap.size, 7, none⟩ = some (.float .f64 a7) := fun W h => k7 W h.own
  have d0 : ∀ W, OwnD (w.heap.size + 1) X (w.heap.size + 1) 8 54 K dx dy W → W.cell? ⟨K, 0, none⟩ = some (.float .f64 dx) := fun W h => h.d0
  have d1 : ∀ W, OwnD (w.heap.size + 1) X (w.heap.size + 1) 8 54 K dx dy W → W.cell? ⟨K, 1, none⟩ = some (.float .f64 dy) := fun W h => h.d1
  have g0 : ∀ W, OwnD (w.heap.size + 1) X (w.heap.size + 1) 8 54 K dx dy W → W.cell? ⟨w.heap.size + 1, 0, none⟩ = some (got W (w.heap.size + 1) 0) := fun _ h => h.own.cell (by omega)
  have g1 : ∀ W, OwnD (w.heap.size + 1) X (w.heap.size + 1) 8 54 K dx dy W → W.cell? ⟨w.heap.size + 1, 1, none⟩ = some (got W (w.heap.size + 1) 1) := fun _ h => h.own.cell (by omega)
  have g2 : ∀ W, OwnD (w.heap.size + 1) X (w.heap.size + 1) 8 54 K dx dy W → W.cell? ⟨w.heap.size + 1, 2, none⟩ = some (got W (w.heap.size + 1) 2) := fun _ h => h.own.cell (by omega)
  have g3 : ∀ W, OwnD (w.heap.size + 1) X (w.heap.size + 1) 8 54 K dx dy W → W.cell? ⟨w.heap.size + 1, 3, none⟩ = some (got W (w.heap.size + 1) 3) := fun _ h => h.own.cell (by omega)
  have g4 : ∀ W, OwnD (w.heap.size + 1) X (w.heap.size + 1) 8 54 K dx dy W → W.cell? ⟨w.heap.size + 1, 4, none⟩ = some (got W (w.heap.size + 1) 4) := fun _ h => h.own.cell (by omega)
  have g5 : ∀ W, OwnD (w.heap.size + 1) X (w.heap.size + 1) 8 54 K dx dy W → W.cell? ⟨w.heap.size + 1, 5, none⟩ = some (got W (w.heap.size + 1) 5) := fun _ h => h.own.cell (by omega)
  have g6 : ∀ W, OwnD (w.heap.size + 1) X (w.heap.size + 1) 8 54 K dx dy W → W.cell? ⟨w.heap.size + 1, 6, none⟩ = some (got W (w.heap.size + 1) 6) := fun _ h => h.own.cell (by omega)
  have g7 : ∀ W, OwnD (w.heap.size + 1) X (w.heap.size + 1) 8 54 K dx dy W → W.cell? ⟨w.heap.size + 1, 7, none⟩ = some (got W (w.heap.size + 1) 7) := fun _ h => h.own.cell (by omega)
  have gf : ∀ W j, OwnD (w.heap.size + 1) X (w.heap.size + 1) 8 54 K dx dy W → W.frozen? ⟨w.heap.size + 1, j, none⟩ = false := fun _ j h => h.own.frozen j
  clear k0 k1 k2 k3 k4 k5 k6 k7 h0 h1 hb1
  go_wp2_with fail
  rw [← hV, ← hK]
  clear hV hK
  go_region_held (fun W => OwnD (w.heap.size + 1) X (w.heap.size + 1) 8 54 K dx dy W) (first | with_reducible assumption | with_reducible exact OwnD.drew ‹_› | with_reducible exact OwnD.set (OwnD.set (OwnD.set (OwnD.set (OwnD.set (OwnD.set (OwnD.set (OwnD.set ‹_› _ _) _ _) _ _) _ _) _ _) _ _) _ _) _ _)
    (first | (go_at_call 27; refine (sDiv_any (by assumption) (by assumption) _).mono ?_; rintro e w1 ⟨x, y, rfl, hz, hb1⟩; have hR1 := OwnD.call ‹_› hb1) | (go_at_call 85; refine (sNeg_any (by assumption) _).mono ?_; rintro e w1 ⟨x, y, rfl, hz, hb1⟩; have hR1 := OwnD.call ‹_› hb1))
  have c0 := g0 _ hR1
  have c1 := g1 _ hR1
  have c2 := g2 _ hR1
  have c3 := g3 _ hR1
  have c4 := g4 _ hR1
  have c5 := g5 _ hR1
  have c6 := g6 _ hR1
  have c7 := g7 _ hR1
  clear q0 g0 q1 g1 q2 g2 q3 g3 q4 g4 q5 g5 q6 g6 q7 g7 d0 d1 gf
  go_wp2
  refine bodyPost_ret (v := Pv _ _ _ _ _ _ _ _) (by simp [results, Try.results50, go_sem, c0, c1, c2, c3, c4, c5, c6, c7] <;> exact ⟨rfl, rfl, rfl, rfl, rfl, rfl, rfl, rfl⟩) rfl ⟨_, _, _, _, _, _, _, _, rfl, ⟨by assumption, by assumption, by assumption, by assumption⟩, Own.out (OwnD.own (by assumption)) HX.out (by omega)⟩
end Go.Proofs.Ytnmkbhallidgaaa
