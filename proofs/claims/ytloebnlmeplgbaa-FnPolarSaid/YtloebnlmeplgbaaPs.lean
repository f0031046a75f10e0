/- Light behind a plate, plates times plates, the named ways of light: contracts of the program. -/
import Derived.Test.YtloebnlmeplgbaaFn
import Derived.Handy
namespace Go.Proofs.Ytloebnlmeplgbaa
open Go.RowKit
set_option linter.unusedVariables false
set_option linter.unusedSimpArgs false
def two (a b c d : Gz) : Gz := gadd (gmul a b) (gmul c d)
def pass (p : Pl) (l : Jn) : Jn := ⟨two p.a l.x p.b l.y, two p.c l.x p.d l.y⟩
def pmul (p m : Pl) : Pl := ⟨two p.a m.a p.b m.c, two p.a m.b p.b m.d, two p.c m.a p.d m.c, two p.c m.b p.d m.d⟩
set_option maxHeartbeats 1600000 in
theorem ipass (a b c d x y : Gz) (w : World) : Calls Try.prog 65 #[.agg #[.int .i64 a.re, .int .i64 a.im, .int .i64 b.re, .int .i64 b.im, .int .i64 c.re, .int .i64 c.im, .int .i64 d.re, .int .i64 d.im], .agg #[.int .i64 x.re, .int .i64 x.im, .int .i64 y.re, .int .i64 y.im]] w fun e w' => e = .returned (.agg #[.int .i64 ((two a x b y).re), .int .i64 ((two a x b y).im), .int .i64 ((two c x d y).re), .int .i64 ((two c x d y).im)]) ∧ Below w.heap.size w w' := by
  obtain ⟨X, hX⟩ : ∃ X, X = (((w.alloc (.cells #[.int .i64 a.re, .int .i64 a.im, .int .i64 b.re, .int .i64 b.im, .int .i64 c.re, .int .i64 c.im, .int .i64 d.re, .int .i64 d.im] 27)).alloc (.cells #[.int .i64 x.re, .int .i64 x.im, .int .i64 y.re, .int .i64 y.im] 29)).alloc (.cells #[.int .i64 0, .int .i64 0, .int .i64 0, .int .i64 0] 29)) := ⟨_, rfl⟩
  have B0 : Blk X (w.heap.size) #[.int .i64 a.re, .int .i64 a.im, .int .i64 b.re, .int .i64 b.im, .int .i64 c.re, .int .i64 c.im, .int .i64 d.re, .int .i64 d.im] 27 := by rw [hX]; exact Blk.alloc (Blk.alloc (Blk.new (by simp)) _) _
  have B1 : Blk X (w.heap.size + 1) #[.int .i64 x.re, .int .i64 x.im, .int .i64 y.re, .int .i64 y.im] 29 := by rw [hX]; exact Blk.alloc (Blk.new (by simp)) _
  have B2 : Blk X (w.heap.size + 1 + 1) #[.int .i64 0, .int .i64 0, .int .i64 0, .int .i64 0] 29 := by rw [hX]; exact Blk.new (by simp)
  have k0_0 : ∀ W, Bt (w.heap.size + 1 + 1) 4 29 X W → W.cell? ⟨w.heap.size, 0, none⟩ = some (.int .i64 a.re) := fun _ h => (h.old B0 (by omega)).cell rfl
  have k0_1 : ∀ W, Bt (w.heap.size + 1 + 1) 4 29 X W → W.cell? ⟨w.heap.size, 1, none⟩ = some (.int .i64 a.im) := fun _ h => (h.old B0 (by omega)).cell rfl
  have k0_2 : ∀ W, Bt (w.heap.size + 1 + 1) 4 29 X W → W.cell? ⟨w.heap.size, 2, none⟩ = some (.int .i64 b.re) := fun _ h => (h.old B0 (by omega)).cell rfl
  have k0_3 : ∀ W, Bt (w.heap.size + 1 + 1) 4 29 X W → W.cell? ⟨w.heap.size, 3, none⟩ = some (.int .i64 b.im) := fun _ h => (h.old B0 (by omega)).cell rfl
  have k0_4 : ∀ W, Bt (w.heap.size + 1 + 1) 4 29 X W → W.cell? ⟨w.heap.size, 4, none⟩ = some (.int .i64 c.re) := fun _ h => (h.old B0 (by omega)).cell rfl
  have k0_5 : ∀ W, Bt (w.heap.size + 1 + 1) 4 29 X W → W.cell? ⟨w.heap.size, 5, none⟩ = some (.int .i64 c.im) := fun _ h => (h.old B0 (by omega)).cell rfl
  have k0_6 : ∀ W, Bt (w.heap.size + 1 + 1) 4 29 X W → W.cell? ⟨w.heap.size, 6, none⟩ = some (.int .i64 d.re) := fun _ h => (h.old B0 (by omega)).cell rfl
  have k0_7 : ∀ W, Bt (w.heap.size + 1 + 1) 4 29 X W → W.cell? ⟨w.heap.size, 7, none⟩ = some (.int .i64 d.im) := fun _ h => (h.old B0 (by omega)).cell rfl
  have k1_0 : ∀ W, Bt (w.heap.size + 1 + 1) 4 29 X W → W.cell? ⟨w.heap.size + 1, 0, none⟩ = some (.int .i64 x.re) := fun _ h => (h.old B1 (by omega)).cell rfl
  have k1_1 : ∀ W, Bt (w.heap.size + 1 + 1) 4 29 X W → W.cell? ⟨w.heap.size + 1, 1, none⟩ = some (.int .i64 x.im) := fun _ h => (h.old B1 (by omega)).cell rfl
  have k1_2 : ∀ W, Bt (w.heap.size + 1 + 1) 4 29 X W → W.cell? ⟨w.heap.size + 1, 2, none⟩ = some (.int .i64 y.re) := fun _ h => (h.old B1 (by omega)).cell rfl
  have k1_3 : ∀ W, Bt (w.heap.size + 1 + 1) 4 29 X W → W.cell? ⟨w.heap.size + 1, 3, none⟩ = some (.int .i64 y.im) := fun _ h => (h.old B1 (by omega)).cell rfl
  have g0 : ∀ W, Bt (w.heap.size + 1 + 1) 4 29 X W → W.cell? ⟨w.heap.size + 1 + 1, 0, none⟩ = some (got W (w.heap.size + 1 + 1) 0) := fun _ h => h.cell (by omega)
  have g1 : ∀ W, Bt (w.heap.size + 1 + 1) 4 29 X W → W.cell? ⟨w.heap.size + 1 + 1, 1, none⟩ = some (got W (w.heap.size + 1 + 1) 1) := fun _ h => h.cell (by omega)
  have g2 : ∀ W, Bt (w.heap.size + 1 + 1) 4 29 X W → W.cell? ⟨w.heap.size + 1 + 1, 2, none⟩ = some (got W (w.heap.size + 1 + 1) 2) := fun _ h => h.cell (by omega)
  have g3 : ∀ W, Bt (w.heap.size + 1 + 1) 4 29 X W → W.cell? ⟨w.heap.size + 1 + 1, 3, none⟩ = some (got W (w.heap.size + 1 + 1) 3) := fun _ h => h.cell (by omega)
  have gf : ∀ W q, Bt (w.heap.size + 1 + 1) 4 29 X W → W.frozen? ⟨w.heap.size + 1 + 1, q, none⟩ = false := fun _ q h => h.frozen q
  have HX : Hid (Below w.heap.size w X) := by rw [hX]; exact (((Below.refl _ _).alloc (by simp <;> omega) _).alloc (by simp <;> omega) _).alloc (by simp <;> omega) _
  have h0 : Bt (w.heap.size + 1 + 1) 4 29 X X := Bt.start B2
  clear B0 B1 B2
  go_enter Try.func65, Try.ntmps65
  go_wp2_with fail
  rw [← hX]
  clear hX
  go_region_held (fun W => Bt (w.heap.size + 1 + 1) 4 29 X W) (first | with_reducible assumption | with_reducible exact Bt.drew ‹_› | with_reducible exact Bt.drewN ‹_› _ | with_reducible exact Bt.set (Bt.set (Bt.set (Bt.set ‹_› _ _) _ _) _ _) _ _)
    (first | (go_at_call 96; refine (itimes _ _ _).mono ?_; rintro e w1 ⟨rfl, hb1⟩; have hR1 := Bt.call ‹_› hb1) | (go_at_call 97; refine (iplus _ _ _).mono ?_; rintro e w1 ⟨rfl, hb1⟩; have hR1 := Bt.call ‹_› hb1))
  have c0 := g0 _ hR1
  have c1 := g1 _ hR1
  have c2 := g2 _ hR1
  have c3 := g3 _ hR1
  clear k0_0 k0_1 k0_2 k0_3 k0_4 k0_5 k0_6 k0_7 k1_0 k1_1 k1_2 k1_3 g0 g1 g2 g3 gf
  go_wp2
  refine bodyPost_ret (v := .agg #[.int .i64 ((two a x b y).re), .int .i64 ((two a x b y).im), .int .i64 ((two c x d y).re), .int .i64 ((two c x d y).im)]) (by simp [results, Try.results65, go_sem, c0, c1, c2, c3, two] <;> (repeat' (first | rfl | apply And.intro))) rfl ⟨rfl, ?_⟩
  exact ((Bt.set (Bt.set (Bt.set (Bt.set hR1 _ _) _ _) _ _) _ _)).out HX.out (by omega)
end Go.Proofs.Ytloebnlmeplgbaa
