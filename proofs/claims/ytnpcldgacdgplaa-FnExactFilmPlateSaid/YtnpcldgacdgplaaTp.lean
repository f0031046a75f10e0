/- The laws' own copy and comparison of plates: contracts; how plates that come in are opened. -/
import Derived.Test.YtnpcldgacdgplaaZp
import Derived.Test.YtnpcldgacdgplaaOwn2
import Derived.Test.YtnpcldgacdgplaaOpenZ
import Derived.Test.YtnpcldgacdgplaaKeeps
import Derived.Deep.DeepCutAuto
namespace Go.Proofs.Ytnpcldgacdgplaa
open Go.RowKit Fl
set_option linter.unusedVariables false
set_option linter.unusedSimpArgs false
theorem Two.out {w X W : World} {r s n : Nat} {t : TypeId} (h : Two (w.heap.size + 1) X r s n t W) (k : Below w.heap.size w X) : Below w.heap.size w W := k.trans (h.a.below.mono (by omega))
set_option maxHeartbeats 3200000 in
theorem eqP_same {a0 a1 a2 a3 a4 a5 a6 a7 b0 b1 b2 b3 b4 b5 b6 b7 : Nat} {p : P4} (h : Pc a0 a1 a2 a3 a4 a5 a6 a7 p) (k : Pc b0 b1 b2 b3 b4 b5 b6 b7 p) (w : World) : Calls Try.prog 45 #[Pv a0 a1 a2 a3 a4 a5 a6 a7, Pv b0 b1 b2 b3 b4 b5 b6 b7] w fun e w' => e = .returned (.bool true) ∧ Below w.heap.size w w' := by
  obtain ⟨z0, z1, z2, z3⟩ := h
  obtain ⟨y0, y1, y2, y3⟩ := k
  obtain ⟨X, hX⟩ : ∃ X, X = ((w.alloc (.cells #[.float .f64 a0, .float .f64 a1, .float .f64 a2, .float .f64 a3, .float .f64 a4, .float .f64 a5, .float .f64 a6, .float .f64 a7] 43)).alloc (.cells #[.float .f64 b0, .float .f64 b1, .float .f64 b2, .float .f64 b3, .float .f64 b4, .float .f64 b5, .float .f64 b6, .float .f64 b7] 43)) := ⟨_, rfl⟩
  have k0 : ∀ W, Below X.heap.size X W → W.cell? ⟨w.heap.size, 0, none⟩ = some (.float .f64 a0) := fun _ h => (h.cell (by rw [hX]; simp <;> omega)).trans (by rw [hX]; exact cell_alloc_old (cell_alloc_new rfl rfl))
  have k1 : ∀ W, Below X.heap.size X W → W.cell? ⟨w.heap.size, 1, none⟩ = some (.float .f64 a1) := fun _ h => (h.cell (by rw [hX]; simp <;> omega)).trans (by rw [hX]; exact cell_alloc_old (cell_alloc_new rfl rfl))
  have k2 : ∀ W, Below X.heap.size X W → W.cell? ⟨w.heap.size, 2, none⟩ = some (.float .f64 a2) := fun _ h => (h.cell (by rw [hX]; simp <;> omega)).trans (by rw [hX]; exact cell_alloc_old (cell_alloc_new rfl rfl))
  have k3 : ∀ W, Below X.heap.size X W → W.cell? ⟨w.heap.size, 3, none⟩ = some (.float .f64 a3) := fun _ h => (h.cell (by rw [hX]; simp <;> omega)).trans (by rw [hX]; exact cell_alloc_old (cell_alloc_new rfl rfl))
  have k4 : ∀ W, Below X.heap.size X W → W.cell? ⟨w.heap.size, 4, none⟩ = some (.float .f64 a4) := fun _ h => (h.cell (by rw [hX]; simp <;> omega)).trans (by rw [hX]; exact cell_alloc_old (cell_alloc_new rfl rfl))
  have k5 : ∀ W, Below X.heap.size X W → W.cell? ⟨w.heap.size, 5, none⟩ = some (.float .f64 a5) := fun _ h => (h.cell (by rw [hX]; simp <;> omega)).trans (by rw [hX]; exact cell_alloc_old (cell_alloc_new rfl rfl))
  have k6 : ∀ W, Below X.heap.size X W → W.cell? ⟨w.heap.size, 6, none⟩ = some (.float .f64 a6) := fun _ h => (h.cell (by rw [hX]; simp <;> omega)).trans (by rw [hX]; exact cell_alloc_old (cell_alloc_new rfl rfl))
  have k7 : ∀ W, Below X.heap.size X W → W.cell? ⟨w.heap.size, 7, none⟩ = some (.float .f64 a7) := fun _ h => (h.cell (by rw [hX]; simp <;> omega)).trans (by rw [hX]; exact cell_alloc_old (cell_alloc_new rfl rfl))
  have l0 : ∀ W, Below X.heap.size X W → W.cell? ⟨w.heap.size + 1, 0, none⟩ = some (.float .f64 b0) := fun _ h => (h.cell (by rw [hX]; simp)).trans (by rw [hX]; exact cell_alloc_new (by simp) rfl)
  have l1 : ∀ W, Below X.heap.size X W → W.cell? ⟨w.heap.size + 1, 1, none⟩ = some (.float .f64 b1) := fun _ h => (h.cell (by rw [hX]; simp)).trans (by rw [hX]; exact cell_alloc_new (by simp) rfl)
  have l2 : ∀ W, Below X.heap.size X W → W.cell? ⟨w.heap.size + 1, 2, none⟩ = some (.float .f64 b2) := fun _ h => (h.cell (by rw [hX]; simp)).trans (by rw [hX]; exact cell_alloc_new (by simp) rfl)
  have l3 : ∀ W, Below X.heap.size X W → W.cell? ⟨w.heap.size + 1, 3, none⟩ = some (.float .f64 b3) := fun _ h => (h.cell (by rw [hX]; simp)).trans (by rw [hX]; exact cell_alloc_new (by simp) rfl)
  have l4 : ∀ W, Below X.heap.size X W → W.cell? ⟨w.heap.size + 1, 4, none⟩ = some (.float .f64 b4) := fun _ h => (h.cell (by rw [hX]; simp)).trans (by rw [hX]; exact cell_alloc_new (by simp) rfl)
  have l5 : ∀ W, Below X.heap.size X W → W.cell? ⟨w.heap.size + 1, 5, none⟩ = some (.float .f64 b5) := fun _ h => (h.cell (by rw [hX]; simp)).trans (by rw [hX]; exact cell_alloc_new (by simp) rfl)
  have l6 : ∀ W, Below X.heap.size X W → W.cell? ⟨w.heap.size + 1, 6, none⟩ = some (.float .f64 b6) := fun _ h => (h.cell (by rw [hX]; simp)).trans (by rw [hX]; exact cell_alloc_new (by simp) rfl)
  have l7 : ∀ W, Below X.heap.size X W → W.cell? ⟨w.heap.size + 1, 7, none⟩ = some (.float .f64 b7) := fun _ h => (h.cell (by rw [hX]; simp)).trans (by rw [hX]; exact cell_alloc_new (by simp) rfl)
  have HX : Hid (Below w.heap.size w X) := by rw [hX]; exact ((Below.refl _ _).alloc (Nat.le_refl _) _).alloc (by simp) _
  have h0 : Below X.heap.size X X := Below.refl _ _
  have s0 := k0 _ h0
  have t0 := l0 _ h0
  have s1 := k1 _ h0
  have t1 := l1 _ h0
  have s2 := k2 _ h0
  have t2 := l2 _ h0
  have s3 := k3 _ h0
  have t3 := l3 _ h0
  have s4 := k4 _ h0
  have t4 := l4 _ h0
  have s5 := k5 _ h0
  have t5 := l5 _ h0
  have s6 := k6 _ h0
  have t6 := l6 _ h0
  have s7 := k7 _ h0
  have t7 := l7 _ h0
  go_enter Try.func45, Try.ntmps45
  go_wp2_with fail
  rw [← hX]
  clear hX
  refine (eqZ_same z0 y0 _).mono ?_
  rintro e w1 ⟨rfl, hb0⟩
  have g0 : Below X.heap.size X w1 := box_step h0 hb0 (Nat.le_refl _)
  have G0 : Hid (Below X.heap.size X w1) := g0
  clear s0 t0 s1 t1 s2 t2 s3 t3 s4 t4 s5 t5 s6 t6 s7 t7 hb0
  have s0 := k0 _ g0
  have t0 := l0 _ g0
  have s1 := k1 _ g0
  have t1 := l1 _ g0
  have s2 := k2 _ g0
  have t2 := l2 _ g0
  have s3 := k3 _ g0
  have t3 := l3 _ g0
  have s4 := k4 _ g0
  have t4 := l4 _ g0
  have s5 := k5 _ g0
  have t5 := l5 _ g0
  have s6 := k6 _ g0
  have t6 := l6 _ g0
  have s7 := k7 _ g0
  have t7 := l7 _ g0
  clear g0
  go_wp2_with fail
  refine (eqZ_same z1 y1 _).mono ?_
  rintro e w2 ⟨rfl, hb1⟩
  have g1 : Below X.heap.size X w2 := box_step G0.out hb1 (Nat.le_refl _)
  have G1 : Hid (Below X.heap.size X w2) := g1
  clear s0 t0 s1 t1 s2 t2 s3 t3 s4 t4 s5 t5 s6 t6 s7 t7 hb1
  have s0 := k0 _ g1
  have t0 := l0 _ g1
  have s1 := k1 _ g1
  have t1 := l1 _ g1
  have s2 := k2 _ g1
  have t2 := l2 _ g1
  have s3 := k3 _ g1
  have t3 := l3 _ g1
  have s4 := k4 _ g1
  have t4 := l4 _ g1
  have s5 := k5 _ g1
  have t5 := l5 _ g1
  have s6 := k6 _ g1
  have t6 := l6 _ g1
  have s7 := k7 _ g1
  have t7 := l7 _ g1
  clear g1
  go_wp2_with fail
  refine (eqZ_same z2 y2 _).mono ?_
  rintro e w3 ⟨rfl, hb2⟩
  have g2 : Below X.heap.size X w3 := box_step G1.out hb2 (Nat.le_refl _)
  have G2 : Hid (Below X.heap.size X w3) := g2
  clear s0 t0 s1 t1 s2 t2 s3 t3 s4 t4 s5 t5 s6 t6 s7 t7 hb2
  have s0 := k0 _ g2
  have t0 := l0 _ g2
  have s1 := k1 _ g2
  have t1 := l1 _ g2
  have s2 := k2 _ g2
  have t2 := l2 _ g2
  have s3 := k3 _ g2
  have t3 := l3 _ g2
  have s4 := k4 _ g2
  have t4 := l4 _ g2
  have s5 := k5 _ g2
  have t5 := l5 _ g2
  have s6 := k6 _ g2
  have t6 := l6 _ g2
  have s7 := k7 _ g2
  have t7 := l7 _ g2
  clear g2
  go_wp2_with fail
  refine (eqZ_same z3 y3 _).mono ?_
  rintro e w4 ⟨rfl, hb3⟩
  have g3 : Below X.heap.size X w4 := box_step G2.out hb3 (Nat.le_refl _)
  have G3 : Hid (Below X.heap.size X w4) := g3
  clear s0 t0 s1 t1 s2 t2 s3 t3 s4 t4 s5 t5 s6 t6 s7 t7 hb3
  clear g3 k0 l0 k1 l1 k2 l2 k3 l3 k4 l4 k5 l5 k6 l6 k7 l7
  go_wp2
  go_ret
  exact ⟨rfl, box_step HX.out (G3.out.mono (Nat.le_refl _)) (Nat.le_refl _)⟩
end Go.Proofs.Ytnpcldgacdgplaa
namespace Go.Proofs.Ytnpcldgacdgplaa
open Go.ChangeShapes Go.WideShapes Go.ChangeAt Go.RowKit Go.Joins Go.Deep Fl
theorem array8 {c : Array Value} (h : c.size = 8) : ∃ c0 c1 c2 c3 c4 c5 c6 c7, c = #[c0, c1, c2, c3, c4, c5, c6, c7] := by
  obtain ⟨l⟩ := c
  match l, h with
  | [c0, c1, c2, c3, c4, c5, c6, c7], _ => exact ⟨c0, c1, c2, c3, c4, c5, c6, c7, rfl⟩
/-- The classes of a plate's words. -/
def clP (a : Nat → Nat) : P4 := ⟨(cl (a 0), cl (a 1)), (cl (a 2), cl (a 3)), (cl (a 4), cl (a 5)), (cl (a 6), cl (a 7))⟩
theorem pc_own {a : Nat → Nat} (h : ∀ j, j < 8 → W64 (a j)) : Pc (a 0) (a 1) (a 2) (a 3) (a 4) (a 5) (a 6) (a 7) (clP a) :=
  ⟨⟨h 0 (by omega), h 1 (by omega), rfl⟩, ⟨h 2 (by omega), h 3 (by omega), rfl⟩, ⟨h 4 (by omega), h 5 (by omega), rfl⟩, ⟨h 6 (by omega), h 7 (by omega), rfl⟩⟩
end Go.Proofs.Ytnpcldgacdgplaa
