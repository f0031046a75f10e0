/- Plates times plates, the named ways of light, the plates of each kind: contracts of the program. -/
import Derived.Test.YtloebnlmeplgbaaPs
import Derived.Handy
namespace Go.Proofs.Ytloebnlmeplgbaa
open Go.RowKit
set_option linter.unusedVariables false
set_option linter.unusedSimpArgs false
set_option maxRecDepth 20000 in
set_option maxHeartbeats 1600000 in
theorem itimesP (p m : Pl) (w : World) : Calls Try.prog 84 #[.agg #[.int .i64 p.a.re, .int .i64 p.a.im, .int .i64 p.b.re, .int .i64 p.b.im, .int .i64 p.c.re, .int .i64 p.c.im, .int .i64 p.d.re, .int .i64 p.d.im], .agg #[.int .i64 m.a.re, .int .i64 m.a.im, .int .i64 m.b.re, .int .i64 m.b.im, .int .i64 m.c.re, .int .i64 m.c.im, .int .i64 m.d.re, .int .i64 m.d.im]] w fun e w' => e = .returned (.agg #[.int .i64 ((pmul p m).a.re), .int .i64 ((pmul p m).a.im), .int .i64 ((pmul p m).b.re), .int .i64 ((pmul p m).b.im), .int .i64 ((pmul p m).c.re), .int .i64 ((pmul p m).c.im), .int .i64 ((pmul p m).d.re), .int .i64 ((pmul p m).d.im)]) ∧ Below w.heap.size w w' := by
  obtain ⟨X, hX⟩ : ∃ X, X = (((w.alloc (.cells #[.int .i64 p.a.re, .int .i64 p.a.im, .int .i64 p.b.re, .int .i64 p.b.im, .int .i64 p.c.re, .int .i64 p.c.im, .int .i64 p.d.re, .int .i64 p.d.im] 27)).alloc (.cells #[.int .i64 m.a.re, .int .i64 m.a.im, .int .i64 m.b.re, .int .i64 m.b.im, .int .i64 m.c.re, .int .i64 m.c.im, .int .i64 m.d.re, .int .i64 m.d.im] 27)).alloc (.cells #[.int .i64 0, .int .i64 0, .int .i64 0, .int .i64 0, .int .i64 0, .int .i64 0, .int .i64 0, .int .i64 0] 27)) := ⟨_, rfl⟩
  have B0 : Blk X (w.heap.size) #[.int .i64 p.a.re, .int .i64 p.a.im, .int .i64 p.b.re, .int .i64 p.b.im, .int .i64 p.c.re, .int .i64 p.c.im, .int .i64 p.d.re, .int .i64 p.d.im] 27 := by rw [hX]; exact Blk.alloc (Blk.alloc (Blk.new (by simp)) _) _
  have B1 : Blk X (w.heap.size + 1) #[.int .i64 m.a.re, .int .i64 m.a.im, .int .i64 m.b.re, .int .i64 m.b.im, .int .i64 m.c.re, .int .i64 m.c.im, .int .i64 m.d.re, .int .i64 m.d.im] 27 := by rw [hX]; exact Blk.alloc (Blk.new (by simp)) _
  have B2 : Blk X (w.heap.size + 1 + 1) #[.int .i64 0, .int .i64 0, .int .i64 0, .int .i64 0, .int .i64 0, .int .i64 0, .int .i64 0, .int .i64 0] 27 := by rw [hX]; exact Blk.new (by simp)
  have k0_0 : ∀ W, Bt (w.heap.size + 1 + 1) 8 27 X W → W.cell? ⟨w.heap.size, 0, none⟩ = some (.int .i64 p.a.re) := fun _ h => (h.old B0 (by omega)).cell rfl
  have k0_1 : ∀ W, Bt (w.heap.size + 1 + 1) 8 27 X W → W.cell? ⟨w.heap.size, 1, none⟩ = some (.int .i64 p.a.im) := fun _ h => (h.old B0 (by omega)).cell rfl
  have k0_2 : ∀ W, Bt (w.heap.size + 1 + 1) 8 27 X W → W.cell? ⟨w.heap.size, 2, none⟩ = some (.int .i64 p.b.re) := fun _ h => (h.old B0 (by omega)).cell rfl
  have k0_3 : ∀ W, Bt (w.heap.size + 1 + 1) 8 27 X W → W.cell? ⟨w.heap.size, 3, none⟩ = some (.int .i64 p.b.im) := fun _ h => (h.old B0 (by omega)).cell rfl
  have k0_4 : ∀ W, Bt (w.heap.size + 1 + 1) 8 27 X W → W.cell? ⟨w.heap.size, 4, none⟩ = some (.int .i64 p.c.re) := fun _ h => (h.old B0 (by omega)).cell rfl
  have k0_5 : ∀ W, Bt (w.heap.size + 1 + 1) 8 27 X W → W.cell? ⟨w.heap.size, 5, none⟩ = some (.int .i64 p.c.im) := fun _ h => (h.old B0 (by omega)).cell rfl
  have k0_6 : ∀ W, Bt (w.heap.size + 1 + 1) 8 27 X W → W.cell? ⟨w.heap.size, 6, none⟩ = some (.int .i64 p.d.re) := fun _ h => (h.old B0 (by omega)).cell rfl
  have k0_7 : ∀ W, Bt (w.heap.size + 1 + 1) 8 27 X W → W.cell? ⟨w.heap.size, 7, none⟩ = some (.int .i64 p.d.im) := fun _ h => (h.old B0 (by omega)).cell rfl
  have k1_0 : ∀ W, Bt (w.heap.size + 1 + 1) 8 27 X W → W.cell? ⟨w.heap.size + 1, 0, none⟩ = some (.int .i64 m.a.re) := fun _ h => (h.old B1 (by omega)).cell rfl
  have k1_1 : ∀ W, Bt (w.heap.size + 1 + 1) 8 27 X W → W.cell? ⟨w.heap.size + 1, 1, none⟩ = some (.int .i64 m.a.im) := fun _ h => (h.old B1 (by omega)).cell rfl
  have k1_2 : ∀ W, Bt (w.heap.size + 1 + 1) 8 27 X W → W.cell? ⟨w.heap.size + 1, 2, none⟩ = some (.int .i64 m.b.re) := fun _ h => (h.old B1 (by omega)).cell rfl
  have k1_3 : ∀ W, Bt (w.heap.size + 1 + 1) 8 27 X W → W.cell? ⟨w.heap.size + 1, 3, none⟩ = some (.int .i64 m.b.im) := fun _ h => (h.old B1 (by omega)).cell rfl
  have k1_4 : ∀ W, Bt (w.heap.size + 1 + 1) 8 27 X W → W.cell? ⟨w.heap.size + 1, 4, none⟩ = some (.int .i64 m.c.re) := fun _ h => (h.old B1 (by omega)).cell rfl
  have k1_5 : ∀ W, Bt (w.heap.size + 1 + 1) 8 27 X W → W.cell? ⟨w.heap.size + 1, 5, none⟩ = some (.int .i64 m.c.im) := fun _ h => (h.old B1 (by omega)).cell rfl
  have k1_6 : ∀ W, Bt (w.heap.size + 1 + 1) 8 27 X W → W.cell? ⟨w.heap.size + 1, 6, none⟩ = some (.int .i64 m.d.re) := fun _ h => (h.old B1 (by omega)).cell rfl
  have k1_7 : ∀ W, Bt (w.heap.size + 1 + 1) 8 27 X W → W.cell? ⟨w.heap.size + 1, 7, none⟩ = some (.int .i64 m.d.im) := fun _ h => (h.old B1 (by omega)).cell rfl
  have g0 : ∀ W, Bt (w.heap.size + 1 + 1) 8 27 X W → W.cell? ⟨w.heap.size + 1 + 1, 0, none⟩ = some (got W (w.heap.size + 1 + 1) 0) := fun _ h => h.cell (by omega)
  have g1 : ∀ W, Bt (w.heap.size + 1 + 1) 8 27 X W → W.cell? ⟨w.heap.size + 1 + 1, 1, none⟩ = some (got W (w.heap.size + 1 + 1) 1) := fun _ h => h.cell (by omega)
  have g2 : ∀ W, Bt (w.heap.size + 1 + 1) 8 27 X W → W.cell? ⟨w.heap.size + 1 + 1, 2, none⟩ = some (got W (w.heap.size + 1 + 1) 2) := fun _ h => h.cell (by omega)
  have g3 : ∀ W, Bt (w.heap.size + 1 + 1) 8 27 X W → W.cell? ⟨w.heap.size + 1 + 1, 3, none⟩ = some (got W (w.heap.size + 1 + 1) 3) := fun _ h => h.cell (by omega)
  have g4 : ∀ W, Bt (w.heap.size + 1 + 1) 8 27 X W → W.cell? ⟨w.heap.size + 1 + 1, 4, none⟩ = some (got W (w.heap.size + 1 + 1) 4) := fun _ h => h.cell (by omega)
  have g5 : ∀ W, Bt (w.heap.size + 1 + 1) 8 27 X W → W.cell? ⟨w.heap.size + 1 + 1, 5, none⟩ = some (got W (w.heap.size + 1 + 1) 5) := fun _ h => h.cell (by omega)
  have g6 : ∀ W, Bt (w.heap.size + 1 + 1) 8 27 X W → W.cell? ⟨w.heap.size + 1 + 1, 6, none⟩ = some (got W (w.heap.size + 1 + 1) 6) := fun _ h => h.cell (by omega)
  have g7 : ∀ W, Bt (w.heap.size + 1 + 1) 8 27 X W → W.cell? ⟨w.heap.size + 1 + 1, 7, none⟩ = some (got W (w.heap.size + 1 + 1) 7) := fun _ h => h.cell (by omega)
  have gf : ∀ W q, Bt (w.heap.size + 1 + 1) 8 27 X W → W.frozen? ⟨w.heap.size + 1 + 1, q, none⟩ = false := fun _ q h => h.frozen q
  have HX : Hid (Below w.heap.size w X) := by rw [hX]; exact (((Below.refl _ _).alloc (by simp <;> omega) _).alloc (by simp <;> omega) _).alloc (by simp <;> omega) _
  have h0 : Bt (w.heap.size + 1 + 1) 8 27 X X := Bt.start B2
  clear B0 B1 B2
  go_enter Try.func84, Try.ntmps84
  go_wp2_with fail
  rw [← hX]
  clear hX
  go_region_held (fun W => Bt (w.heap.size + 1 + 1) 8 27 X W) (first | with_reducible assumption | with_reducible exact Bt.drew ‹_› | with_reducible exact Bt.drewN ‹_› _ | with_reducible exact Bt.set (Bt.set (Bt.set (Bt.set (Bt.set (Bt.set (Bt.set (Bt.set ‹_› _ _) _ _) _ _) _ _) _ _) _ _) _ _) _ _)
    (first | (go_at_call 65; refine (ipass _ _ _ _ _ _ _).mono ?_; rintro e w1 ⟨rfl, hb1⟩; have hR1 := Bt.call ‹_› hb1) | (go_at_call 81; refine (icols _ _ _ _ _).mono ?_; rintro e w1 ⟨rfl, hb1⟩; have hR1 := Bt.call ‹_› hb1))
  have c0 := g0 _ hR1
  have c1 := g1 _ hR1
  have c2 := g2 _ hR1
  have c3 := g3 _ hR1
  have c4 := g4 _ hR1
  have c5 := g5 _ hR1
  have c6 := g6 _ hR1
  have c7 := g7 _ hR1
  clear k0_0 k0_1 k0_2 k0_3 k0_4 k0_5 k0_6 k0_7 k1_0 k1_1 k1_2 k1_3 k1_4 k1_5 k1_6 k1_7 g0 g1 g2 g3 g4 g5 g6 g7 gf
  go_wp2
  refine bodyPost_ret (v := .agg #[.int .i64 ((pmul p m).a.re), .int .i64 ((pmul p m).a.im), .int .i64 ((pmul p m).b.re), .int .i64 ((pmul p m).b.im), .int .i64 ((pmul p m).c.re), .int .i64 ((pmul p m).c.im), .int .i64 ((pmul p m).d.re), .int .i64 ((pmul p m).d.im)]) (by simp [results, Try.results84, go_sem, c0, c1, c2, c3, c4, c5, c6, c7, pmul] <;> (repeat' (first | rfl | apply And.intro))) rfl ⟨rfl, ?_⟩
  exact ((Bt.set (Bt.set (Bt.set (Bt.set (Bt.set (Bt.set (Bt.set (Bt.set hR1 _ _) _ _) _ _) _ _) _ _) _ _) _ _) _ _)).out HX.out (by omega)
set_option maxHeartbeats 1600000 in
theorem iquarter (l : Jn) (w : World) : Calls Try.prog 101 #[.agg #[.int .i64 l.x.re, .int .i64 l.x.im, .int .i64 l.y.re, .int .i64 l.y.im]] w fun e w' => e = .returned (.agg #[.int .i64 l.x.re, .int .i64 l.x.im, .int .i64 ((gmul l.y ⟨0, 1⟩).re), .int .i64 ((gmul l.y ⟨0, 1⟩).im)]) ∧ Below w.heap.size w w' := by
  obtain ⟨X, hX⟩ : ∃ X, X = ((w.alloc (.cells #[.int .i64 l.x.re, .int .i64 l.x.im, .int .i64 l.y.re, .int .i64 l.y.im] 29)).alloc (.cells #[.int .i64 0, .int .i64 0, .int .i64 0, .int .i64 0] 29)) := ⟨_, rfl⟩
  have B0 : Blk X (w.heap.size) #[.int .i64 l.x.re, .int .i64 l.x.im, .int .i64 l.y.re, .int .i64 l.y.im] 29 := by rw [hX]; exact Blk.alloc (Blk.new (by simp)) _
  have B1 : Blk X (w.heap.size + 1) #[.int .i64 0, .int .i64 0, .int .i64 0, .int .i64 0] 29 := by rw [hX]; exact Blk.new (by simp)
  have k0_0 : ∀ W, Bt (w.heap.size + 1) 4 29 X W → W.cell? ⟨w.heap.size, 0, none⟩ = some (.int .i64 l.x.re) := fun _ h => (h.old B0 (by omega)).cell rfl
  have k0_1 : ∀ W, Bt (w.heap.size + 1) 4 29 X W → W.cell? ⟨w.heap.size, 1, none⟩ = some (.int .i64 l.x.im) := fun _ h => (h.old B0 (by omega)).cell rfl
  have k0_2 : ∀ W, Bt (w.heap.size + 1) 4 29 X W → W.cell? ⟨w.heap.size, 2, none⟩ = some (.int .i64 l.y.re) := fun _ h => (h.old B0 (by omega)).cell rfl
  have k0_3 : ∀ W, Bt (w.heap.size + 1) 4 29 X W → W.cell? ⟨w.heap.size, 3, none⟩ = some (.int .i64 l.y.im) := fun _ h => (h.old B0 (by omega)).cell rfl
  have g0 : ∀ W, Bt (w.heap.size + 1) 4 29 X W → W.cell? ⟨w.heap.size + 1, 0, none⟩ = some (got W (w.heap.size + 1) 0) := fun _ h => h.cell (by omega)
  have g1 : ∀ W, Bt (w.heap.size + 1) 4 29 X W → W.cell? ⟨w.heap.size + 1, 1, none⟩ = some (got W (w.heap.size + 1) 1) := fun _ h => h.cell (by omega)
  have g2 : ∀ W, Bt (w.heap.size + 1) 4 29 X W → W.cell? ⟨w.heap.size + 1, 2, none⟩ = some (got W (w.heap.size + 1) 2) := fun _ h => h.cell (by omega)
  have g3 : ∀ W, Bt (w.heap.size + 1) 4 29 X W → W.cell? ⟨w.heap.size + 1, 3, none⟩ = some (got W (w.heap.size + 1) 3) := fun _ h => h.cell (by omega)
  have gf : ∀ W q, Bt (w.heap.size + 1) 4 29 X W → W.frozen? ⟨w.heap.size + 1, q, none⟩ = false := fun _ q h => h.frozen q
  have HX : Hid (Below w.heap.size w X) := by rw [hX]; exact ((Below.refl _ _).alloc (by simp <;> omega) _).alloc (by simp <;> omega) _
  have h0 : Bt (w.heap.size + 1) 4 29 X X := Bt.start B1
  clear B0 B1
  go_enter Try.func101, Try.ntmps101
  go_wp2_with fail
  rw [← hX]
  clear hX
  go_region_held (fun W => Bt (w.heap.size + 1) 4 29 X W) (first | with_reducible assumption | with_reducible exact Bt.drew ‹_› | with_reducible exact Bt.drewN ‹_› _ | with_reducible exact Bt.set (Bt.set (Bt.set (Bt.set ‹_› _ _) _ _) _ _) _ _)
    (first | (go_at_call 96; refine (itimes l.y ⟨0, 1⟩ _).mono ?_; rintro e w1 ⟨rfl, hb1⟩; have hR1 := Bt.call ‹_› hb1))
  have c0 := g0 _ hR1
  have c1 := g1 _ hR1
  have c2 := g2 _ hR1
  have c3 := g3 _ hR1
  clear k0_0 k0_1 k0_2 k0_3 g0 g1 g2 g3 gf
  go_wp2
  refine bodyPost_ret (v := .agg #[.int .i64 l.x.re, .int .i64 l.x.im, .int .i64 ((gmul l.y ⟨0, 1⟩).re), .int .i64 ((gmul l.y ⟨0, 1⟩).im)]) (by simp [results, Try.results101, go_sem, c0, c1, c2, c3] <;> (repeat' (first | rfl | apply And.intro))) rfl ⟨rfl, ?_⟩
  exact ((Bt.set (Bt.set (Bt.set (Bt.set hR1 _ _) _ _) _ _) _ _)).out HX.out (by omega)
set_option maxHeartbeats 1600000 in
theorem ihalf (l : Jn) (w : World) : Calls Try.prog 102 #[.agg #[.int .i64 l.x.re, .int .i64 l.x.im, .int .i64 l.y.re, .int .i64 l.y.im]] w fun e w' => e = .returned (.agg #[.int .i64 l.x.re, .int .i64 l.x.im, .int .i64 ((gmul l.y ⟨-1, 0⟩).re), .int .i64 ((gmul l.y ⟨-1, 0⟩).im)]) ∧ Below w.heap.size w w' := by
  obtain ⟨X, hX⟩ : ∃ X, X = ((w.alloc (.cells #[.int .i64 l.x.re, .int .i64 l.x.im, .int .i64 l.y.re, .int .i64 l.y.im] 29)).alloc (.cells #[.int .i64 0, .int .i64 0, .int .i64 0, .int .i64 0] 29)) := ⟨_, rfl⟩
  have B0 : Blk X (w.heap.size) #[.int .i64 l.x.re, .int .i64 l.x.im, .int .i64 l.y.re, .int .i64 l.y.im] 29 := by rw [hX]; exact Blk.alloc (Blk.new (by simp)) _
  have B1 : Blk X (w.heap.size + 1) #[.int .i64 0, .int .i64 0, .int .i64 0, .int .i64 0] 29 := by rw [hX]; exact Blk.new (by simp)
  have k0_0 : ∀ W, Bt (w.heap.size + 1) 4 29 X W → W.cell? ⟨w.heap.size, 0, none⟩ = some (.int .i64 l.x.re) := fun _ h => (h.old B0 (by omega)).cell rfl
  have k0_1 : ∀ W, Bt (w.heap.size + 1) 4 29 X W → W.cell? ⟨w.heap.size, 1, none⟩ = some (.int .i64 l.x.im) := fun _ h => (h.old B0 (by omega)).cell rfl
  have k0_2 : ∀ W, Bt (w.heap.size + 1) 4 29 X W → W.cell? ⟨w.heap.size, 2, none⟩ = some (.int .i64 l.y.re) := fun _ h => (h.old B0 (by omega)).cell rfl
  have k0_3 : ∀ W, Bt (w.heap.size + 1) 4 29 X W → W.cell? ⟨w.heap.size, 3, none⟩ = some (.int .i64 l.y.im) := fun _ h => (h.old B0 (by omega)).cell rfl
  have g0 : ∀ W, Bt (w.heap.size + 1) 4 29 X W → W.cell? ⟨w.heap.size + 1, 0, none⟩ = some (got W (w.heap.size + 1) 0) := fun _ h => h.cell (by omega)
  have g1 : ∀ W, Bt (w.heap.size + 1) 4 29 X W → W.cell? ⟨w.heap.size + 1, 1, none⟩ = some (got W (w.heap.size + 1) 1) := fun _ h => h.cell (by omega)
  have g2 : ∀ W, Bt (w.heap.size + 1) 4 29 X W → W.cell? ⟨w.heap.size + 1, 2, none⟩ = some (got W (w.heap.size + 1) 2) := fun _ h => h.cell (by omega)
  have g3 : ∀ W, Bt (w.heap.size + 1) 4 29 X W → W.cell? ⟨w.heap.size + 1, 3, none⟩ = some (got W (w.heap.size + 1) 3) := fun _ h => h.cell (by omega)
  have gf : ∀ W q, Bt (w.heap.size + 1) 4 29 X W → W.frozen? ⟨w.heap.size + 1, q, none⟩ = false := fun _ q h => h.frozen q
  have HX : Hid (Below w.heap.size w X) := by rw [hX]; exact ((Below.refl _ _).alloc (by simp <;> omega) _).alloc (by simp <;> omega) _
  have h0 : Bt (w.heap.size + 1) 4 29 X X := Bt.start B1
  clear B0 B1
  go_enter Try.func102, Try.ntmps102
  go_wp2_with fail
  rw [← hX]
  clear hX
  go_region_held (fun W => Bt (w.heap.size + 1) 4 29 X W) (first | with_reducible assumption | with_reducible exact Bt.drew ‹_› | with_reducible exact Bt.drewN ‹_› _ | with_reducible exact Bt.set (Bt.set (Bt.set (Bt.set ‹_› _ _) _ _) _ _) _ _)
    (first | (go_at_call 96; refine (itimes l.y ⟨-1, 0⟩ _).mono ?_; rintro e w1 ⟨rfl, hb1⟩; have hR1 := Bt.call ‹_› hb1))
  have c0 := g0 _ hR1
  have c1 := g1 _ hR1
  have c2 := g2 _ hR1
  have c3 := g3 _ hR1
  clear k0_0 k0_1 k0_2 k0_3 g0 g1 g2 g3 gf
  go_wp2
  refine bodyPost_ret (v := .agg #[.int .i64 l.x.re, .int .i64 l.x.im, .int .i64 ((gmul l.y ⟨-1, 0⟩).re), .int .i64 ((gmul l.y ⟨-1, 0⟩).im)]) (by simp [results, Try.results102, go_sem, c0, c1, c2, c3] <;> (repeat' (first | rfl | apply And.intro))) rfl ⟨rfl, ?_⟩
  exact ((Bt.set (Bt.set (Bt.set (Bt.set hR1 _ _) _ _) _ _) _ _)).out HX.out (by omega)
set_option maxHeartbeats 1600000 in
theorem iturned (l : Jn) (w : World) : Calls Try.prog 103 #[.agg #[.int .i64 l.x.re, .int .i64 l.x.im, .int .i64 l.y.re, .int .i64 l.y.im]] w fun e w' => e = .returned (.agg #[.int .i64 ((gmul l.y ⟨-1, 0⟩).re), .int .i64 ((gmul l.y ⟨-1, 0⟩).im), .int .i64 l.x.re, .int .i64 l.x.im]) ∧ Below w.heap.size w w' := by
  obtain ⟨X, hX⟩ : ∃ X, X = ((w.alloc (.cells #[.int .i64 l.x.re, .int .i64 l.x.im, .int .i64 l.y.re, .int .i64 l.y.im] 29)).alloc (.cells #[.int .i64 0, .int .i64 0, .int .i64 0, .int .i64 0] 29)) := ⟨_, rfl⟩
  have B0 : Blk X (w.heap.size) #[.int .i64 l.x.re, .int .i64 l.x.im, .int .i64 l.y.re, .int .i64 l.y.im] 29 := by rw [hX]; exact Blk.alloc (Blk.new (by simp)) _
  have B1 : Blk X (w.heap.size + 1) #[.int .i64 0, .int .i64 0, .int .i64 0, .int .i64 0] 29 := by rw [hX]; exact Blk.new (by simp)
  have k0_0 : ∀ W, Bt (w.heap.size + 1) 4 29 X W → W.cell? ⟨w.heap.size, 0, none⟩ = some (.int .i64 l.x.re) := fun _ h => (h.old B0 (by omega)).cell rfl
  have k0_1 : ∀ W, Bt (w.heap.size + 1) 4 29 X W → W.cell? ⟨w.heap.size, 1, none⟩ = some (.int .i64 l.x.im) := fun _ h => (h.old B0 (by omega)).cell rfl
  have k0_2 : ∀ W, Bt (w.heap.size + 1) 4 29 X W → W.cell? ⟨w.heap.size, 2, none⟩ = some (.int .i64 l.y.re) := fun _ h => (h.old B0 (by omega)).cell rfl
  have k0_3 : ∀ W, Bt (w.heap.size + 1) 4 29 X W → W.cell? ⟨w.heap.size, 3, none⟩ = some (.int .i64 l.y.im) := fun _ h => (h.old B0 (by omega)).cell rfl
  have g0 : ∀ W, Bt (w.heap.size + 1) 4 29 X W → W.cell? ⟨w.heap.size + 1, 0, none⟩ = some (got W (w.heap.size + 1) 0) := fun _ h => h.cell (by omega)
  have g1 : ∀ W, Bt (w.heap.size + 1) 4 29 X W → W.cell? ⟨w.heap.size + 1, 1, none⟩ = some (got W (w.heap.size + 1) 1) := fun _ h => h.cell (by omega)
  have g2 : ∀ W, Bt (w.heap.size + 1) 4 29 X W → W.cell? ⟨w.heap.size + 1, 2, none⟩ = some (got W (w.heap.size + 1) 2) := fun _ h => h.cell (by omega)
  have g3 : ∀ W, Bt (w.heap.size + 1) 4 29 X W → W.cell? ⟨w.heap.size + 1, 3, none⟩ = some (got W (w.heap.size + 1) 3) := fun _ h => h.cell (by omega)
  have gf : ∀ W q, Bt (w.heap.size + 1) 4 29 X W → W.frozen? ⟨w.heap.size + 1, q, none⟩ = false := fun _ q h => h.frozen q
  have HX : Hid (Below w.heap.size w X) := by rw [hX]; exact ((Below.refl _ _).alloc (by simp <;> omega) _).alloc (by simp <;> omega) _
  have h0 : Bt (w.heap.size + 1) 4 29 X X := Bt.start B1
  clear B0 B1
  go_enter Try.func103, Try.ntmps103
  go_wp2_with fail
  rw [← hX]
  clear hX
  go_region_held (fun W => Bt (w.heap.size + 1) 4 29 X W) (first | with_reducible assumption | with_reducible exact Bt.drew ‹_› | with_reducible exact Bt.drewN ‹_› _ | with_reducible exact Bt.set (Bt.set (Bt.set (Bt.set ‹_› _ _) _ _) _ _) _ _)
    (first | (go_at_call 96; refine (itimes l.y ⟨-1, 0⟩ _).mono ?_; rintro e w1 ⟨rfl, hb1⟩; have hR1 := Bt.call ‹_› hb1))
  have c0 := g0 _ hR1
  have c1 := g1 _ hR1
  have c2 := g2 _ hR1
  have c3 := g3 _ hR1
  clear k0_0 k0_1 k0_2 k0_3 g0 g1 g2 g3 gf
  go_wp2
  refine bodyPost_ret (v := .agg #[.int .i64 ((gmul l.y ⟨-1, 0⟩).re), .int .i64 ((gmul l.y ⟨-1, 0⟩).im), .int .i64 l.x.re, .int .i64 l.x.im]) (by simp [results, Try.results103, go_sem, c0, c1, c2, c3] <;> (repeat' (first | rfl | apply And.intro))) rfl ⟨rfl, ?_⟩
  exact ((Bt.set (Bt.set (Bt.set (Bt.set hR1 _ _) _ _) _ _) _ _)).out HX.out (by omega)
set_option maxHeartbeats 800000 in
theorem ialong (l : Jn) (w : World) : Calls Try.prog 99 #[.agg #[.int .i64 l.x.re, .int .i64 l.x.im, .int .i64 l.y.re, .int .i64 l.y.im]] w fun e w' => e = .returned (.agg #[.int .i64 l.x.re, .int .i64 l.x.im, .int .i64 0, .int .i64 0]) ∧ Below w.heap.size w w' := by
  go_enter Try.func99, Try.ntmps99
  go_wp2
  refine bodyPost_ret (v := .agg #[.int .i64 l.x.re, .int .i64 l.x.im, .int .i64 0, .int .i64 0]) (by simp [results, Try.results99, go_sem] <;> (repeat' (first | rfl | apply And.intro))) rfl ⟨rfl, ?_⟩
  go_grown
set_option maxHeartbeats 800000 in
theorem iacross (l : Jn) (w : World) : Calls Try.prog 100 #[.agg #[.int .i64 l.x.re, .int .i64 l.x.im, .int .i64 l.y.re, .int .i64 l.y.im]] w fun e w' => e = .returned (.agg #[.int .i64 0, .int .i64 0, .int .i64 l.y.re, .int .i64 l.y.im]) ∧ Below w.heap.size w w' := by
  go_enter Try.func100, Try.ntmps100
  go_wp2
  refine bodyPost_ret (v := .agg #[.int .i64 0, .int .i64 0, .int .i64 l.y.re, .int .i64 l.y.im]) (by simp [results, Try.results100, go_sem] <;> (repeat' (first | rfl | apply And.intro))) rfl ⟨rfl, ?_⟩
  go_grown
set_option maxHeartbeats 800000 in
theorem idark (l : Jn) (w : World) : Calls Try.prog 105 #[.agg #[.int .i64 l.x.re, .int .i64 l.x.im, .int .i64 l.y.re, .int .i64 l.y.im]] w fun e w' => e = .returned (.agg #[.int .i64 0, .int .i64 0, .int .i64 0, .int .i64 0]) ∧ Below w.heap.size w w' := by
  go_enter Try.func105, Try.ntmps105
  go_wp2
  refine bodyPost_ret (v := .agg #[.int .i64 0, .int .i64 0, .int .i64 0, .int .i64 0]) (by simp [results, Try.results105, go_sem] <;> (repeat' (first | rfl | apply And.intro))) rfl ⟨rfl, ?_⟩
  go_grown
set_option maxHeartbeats 1600000 in
theorem idimmed (l : Jn) (w : World) : Calls Try.prog 104 #[.agg #[.int .i64 l.x.re, .int .i64 l.x.im, .int .i64 l.y.re, .int .i64 l.y.im]] w fun e w' => e = .returned (.agg #[.int .i64 ((gadd l.x l.y).re), .int .i64 ((gadd l.x l.y).im), .int .i64 ((gadd l.x l.y).re), .int .i64 ((gadd l.x l.y).im)]) ∧ Below w.heap.size w w' := by
  go_enter Try.func104, Try.ntmps104
  have HO : Hid (Below w.heap.size w w) := Below.refl _ _
  go_upto_region 1 with fail
  obtain ⟨v1, hv⟩ : ∃ Xw, Xw = ((w.alloc (.cells #[.int .i64 l.x.re, .int .i64 l.x.im, .int .i64 l.y.re, .int .i64 l.y.im] 29)).alloc (.cells #[.int .i64 0, .int .i64 0, .int .i64 0, .int .i64 0] 29)) := ⟨_, rfl⟩
  rw [← hv]
  have ne_l_r : Hid (w.heap.size ≠ w.heap.size + 1) := by show (w.heap.size : Nat) ≠ w.heap.size + 1; omega
  have B_l : Hid (Blk v1 (w.heap.size) #[.int .i64 l.x.re, .int .i64 l.x.im, .int .i64 l.y.re, .int .i64 l.y.im] 29) := by show Blk v1 (w.heap.size) _ _; rw [hv]; exact (Blk.alloc (Blk.new (by simp)) _)
  have low_l : Hid (w.heap.size ≤ w.heap.size) := by show w.heap.size ≤ w.heap.size; have := HO.out.size; omega
  have B_r : Hid (Blk v1 (w.heap.size + 1) #[.int .i64 0, .int .i64 0, .int .i64 0, .int .i64 0] 29) := by show Blk v1 (w.heap.size + 1) _ _; rw [hv]; exact (Blk.new (by simp))
  have low_r : Hid (w.heap.size ≤ w.heap.size + 1) := by show w.heap.size ≤ w.heap.size + 1; have := HO.out.size; omega
  replace HO : Hid (Below w.heap.size w v1) := by show Below w.heap.size w v1; rw [hv]; exact (below_new (below_new HO.out _) _)
  clear hv
  have l_0 := B_l.out.cell (j := 0) rfl
  have l_1 := B_l.out.cell (j := 1) rfl
  have l_2 := B_l.out.cell (j := 2) rfl
  have l_3 := B_l.out.cell (j := 3) rfl
  have l_f := B_l.out.frozen
  have l_z := B_l.out.lt
  go_wp2_with fail
  refine (iplus l.x l.y _).mono ?_
  rintro e v2 ⟨rfl, hb⟩
  clear l_0 l_1 l_2 l_3 l_f l_z
  replace B_l : Hid (Blk v2 (w.heap.size) #[.int .i64 l.x.re, .int .i64 l.x.im, .int .i64 l.y.re, .int .i64 l.y.im] 29) := by show Blk v2 (w.heap.size) _ _; exact Blk.old B_l.out hb
  replace B_r : Hid (Blk v2 (w.heap.size + 1) #[.int .i64 0, .int .i64 0, .int .i64 0, .int .i64 0] 29) := by show Blk v2 (w.heap.size + 1) _ _; exact Blk.old B_r.out hb
  replace HO : Hid (Below w.heap.size w v2) := box_step HO.out hb (Nat.le_refl _)
  clear hb
  go_upto_region 2 with fail
  obtain ⟨v3, hv⟩ : ∃ Xw, Xw = (v2.alloc (.cells #[.int .i64 ((gadd l.x l.y).re), .int .i64 ((gadd l.x l.y).im)] 25)) := ⟨_, rfl⟩
  rw [← hv]
  have ne_l_b : Hid (w.heap.size ≠ v2.heap.size) := Nat.ne_of_lt (Nat.lt_of_lt_of_le B_l.out.lt (by omega))
  have ne_r_b : Hid (w.heap.size + 1 ≠ v2.heap.size) := Nat.ne_of_lt (Nat.lt_of_lt_of_le B_r.out.lt (by omega))
  have B_b : Hid (Blk v3 (v2.heap.size) #[.int .i64 ((gadd l.x l.y).re), .int .i64 ((gadd l.x l.y).im)] 25) := by show Blk v3 (v2.heap.size) _ _; rw [hv]; exact (Blk.new (by simp))
  have low_b : Hid (w.heap.size ≤ v2.heap.size) := by show w.heap.size ≤ v2.heap.size; have := HO.out.size; omega
  replace B_l : Hid (Blk v3 (w.heap.size) #[.int .i64 l.x.re, .int .i64 l.x.im, .int .i64 l.y.re, .int .i64 l.y.im] 29) := by show Blk v3 (w.heap.size) _ _; rw [hv]; exact (Blk.alloc B_l.out _)
  replace B_r : Hid (Blk v3 (w.heap.size + 1) #[.int .i64 0, .int .i64 0, .int .i64 0, .int .i64 0] 29) := by show Blk v3 (w.heap.size + 1) _ _; rw [hv]; exact (Blk.alloc B_r.out _)
  replace HO : Hid (Below w.heap.size w v3) := by show Below w.heap.size w v3; rw [hv]; exact (below_new HO.out _)
  clear hv
  have b_0 := B_b.out.cell (j := 0) rfl
  have b_1 := B_b.out.cell (j := 1) rfl
  have b_f := B_b.out.frozen
  have b_z := B_b.out.lt
  have r_0 := B_r.out.cell (j := 0) rfl
  have r_1 := B_r.out.cell (j := 1) rfl
  have r_2 := B_r.out.cell (j := 2) rfl
  have r_3 := B_r.out.cell (j := 3) rfl
  have r_f := B_r.out.frozen
  have r_z := B_r.out.lt
  go_wp2
  refine bodyPost_ret (v := .agg #[.int .i64 ((gadd l.x l.y).re), .int .i64 ((gadd l.x l.y).im), .int .i64 ((gadd l.x l.y).re), .int .i64 ((gadd l.x l.y).im)]) (by simp [results, Try.results104, go_sem, b_0, b_1, b_f, b_z, r_0, r_1, r_2, r_3, r_f, r_z] <;> (repeat' (first | rfl | apply And.intro))) rfl ⟨rfl, ?_⟩
  exact (Below.setCell (Below.setCell (Below.setCell (Below.setCell HO.out low_r.out _) low_r.out _) low_r.out _) low_r.out _)
end Go.Proofs.Ytloebnlmeplgbaa
