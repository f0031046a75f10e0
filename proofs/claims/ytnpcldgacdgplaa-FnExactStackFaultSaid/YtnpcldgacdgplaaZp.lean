/- Signs turned, two products added; plates: their products and determinants: contracts of the specification's and the program's functions. -/
import Derived.Test.YtnpcldgacdgplaaZn
import Derived.Deep.RegionHeld3
namespace Go.Proofs.Ytnpcldgacdgplaa
open Go.RowKit Fl
set_option linter.unusedVariables false
theorem cell_alloc_old {W : World} {o : Obj} {p : Addr} {v : Value} (h : W.cell? p = some v) : (W.alloc o).cell? p = some v :=
  (((Below.refl W.heap.size W).alloc (Nat.le_refl _) o).cell (World.block_lt_of_cell? _ _ h)).trans h
theorem cell_alloc_new {W : World} {c : Array Value} {t : TypeId} {r j : Nat} {v : Value} (hr : r = W.heap.size) (hc : c[j]? = some v) : (W.alloc (.cells c t)).cell? ⟨r, j, none⟩ = some v := by
  subst hr
  simp [hc]
abbrev CP := Option Nat × Option Nat
def negC (p : CP) : CP := (p.1.map (Op.negFloat .f64), p.2.map (Op.negFloat .f64))
theorem cl_neg {x : Nat} (hx : W64 x) : cl (Op.negFloat .f64 x) = (cl x).map (Op.negFloat .f64) := by
  by_cases n : Num x
  · rw [cl_num n, cl_num ((neg_num hx).2 n)]; rfl
  · rw [cl_nan n, cl_nan (fun h => n ((neg_num hx).1 h))]; rfl
theorem zc_neg {a b : Nat} {p : CP} (h : Zc a b p) : Zc (Op.negFloat .f64 a) (Op.negFloat .f64 b) (negC p) := by
  obtain ⟨ha, hb, e⟩ := h
  subst e
  exact ⟨neg_lt ha, neg_lt hb, by rw [cl_neg ha, cl_neg hb]; rfl⟩
theorem cneg_run (a b : Nat) : ∀ wa, (Op.unary .neg (.complex .f64 a b)).run Try.prog wa = .ok (.complex .f64 (Op.negFloat .f64 a) (Op.negFloat .f64 b)) wa := fun _ => rfl
set_option maxHeartbeats 1600000 in
theorem sTwo_any {a b c d e f g i : Nat} {p q r s : CP} (h1 : Zc a b p) (h2 : Zc c d q) (h3 : Zc e f r) (h4 : Zc g i s) (w : World) : ZV 100 #[Zv a b, Zv c d, Zv e f, Zv g i] w (sumC .add (mulC p q) (mulC r s)) := by
  unfold ZV
  have hst := st64
  obtain ⟨X, hX⟩ : ∃ X, X = ((((w.alloc (.cells #[.float .f64 a, .float .f64 b] 41)).alloc (.cells #[.float .f64 c, .float .f64 d] 41)).alloc (.cells #[.float .f64 e, .float .f64 f] 41)).alloc (.cells #[.float .f64 g, .float .f64 i] 41)) := ⟨_, rfl⟩
  have h0 : Own (w.heap.size + 1 + 1 + 1 + 1) X (w.heap.size + 1 + 1 + 1 + 1) 2 41 (X.alloc (.cells #[.float .f64 0, .float .f64 0] 41)) := by
    have := own_made (X := X) (t := 41) #[.float .f64 0, .float .f64 0] (Nat.le_refl _)
    rw [hX] at this ⊢
    simpa using this
  have k0_0 : ∀ W, Own (w.heap.size + 1 + 1 + 1 + 1) X (w.heap.size + 1 + 1 + 1 + 1) 2 41 W → W.cell? ⟨w.heap.size, 0, none⟩ = some (.float .f64 a) := fun _ h => by rw [hX] at h; exact h.old (by simp <;> omega) (cell_alloc_old (cell_alloc_old (cell_alloc_old (cell_alloc_new (by simp) rfl))))
  have k0_1 : ∀ W, Own (w.heap.size + 1 + 1 + 1 + 1) X (w.heap.size + 1 + 1 + 1 + 1) 2 41 W → W.cell? ⟨w.heap.size, 1, none⟩ = some (.float .f64 b) := fun _ h => by rw [hX] at h; exact h.old (by simp <;> omega) (cell_alloc_old (cell_alloc_old (cell_alloc_old (cell_alloc_new (by simp) rfl))))
  have k1_0 : ∀ W, Own (w.heap.size + 1 + 1 + 1 + 1) X (w.heap.size + 1 + 1 + 1 + 1) 2 41 W → W.cell? ⟨w.heap.size + 1, 0, none⟩ = some (.float .f64 c) := fun _ h => by rw [hX] at h; exact h.old (by simp <;> omega) (cell_alloc_old (cell_alloc_old (cell_alloc_new (by simp) rfl)))
  have k1_1 : ∀ W, Own (w.heap.size + 1 + 1 + 1 + 1) X (w.heap.size + 1 + 1 + 1 + 1) 2 41 W → W.cell? ⟨w.heap.size + 1, 1, none⟩ = some (.float .f64 d) := fun _ h => by rw [hX] at h; exact h.old (by simp <;> omega) (cell_alloc_old (cell_alloc_old (cell_alloc_new (by simp) rfl)))
  have k2_0 : ∀ W, Own (w.heap.size + 1 + 1 + 1 + 1) X (w.heap.size + 1 + 1 + 1 + 1) 2 41 W → W.cell? ⟨w.heap.size + 1 + 1, 0, none⟩ = some (.float .f64 e) := fun _ h => by rw [hX] at h; exact h.old (by simp <;> omega) (cell_alloc_old (cell_alloc_new (by simp) rfl))
  have k2_1 : ∀ W, Own (w.heap.size + 1 + 1 + 1 + 1) X (w.heap.size + 1 + 1 + 1 + 1) 2 41 W → W.cell? ⟨w.heap.size + 1 + 1, 1, none⟩ = some (.float .f64 f) := fun _ h => by rw [hX] at h; exact h.old (by simp <;> omega) (cell_alloc_old (cell_alloc_new (by simp) rfl))
  have k3_0 : ∀ W, Own (w.heap.size + 1 + 1 + 1 + 1) X (w.heap.size + 1 + 1 + 1 + 1) 2 41 W → W.cell? ⟨w.heap.size + 1 + 1 + 1, 0, none⟩ = some (.float .f64 g) := fun _ h => by rw [hX] at h; exact h.old (by simp <;> omega) (cell_alloc_new (by simp) rfl)
  have k3_1 : ∀ W, Own (w.heap.size + 1 + 1 + 1 + 1) X (w.heap.size + 1 + 1 + 1 + 1) 2 41 W → W.cell? ⟨w.heap.size + 1 + 1 + 1, 1, none⟩ = some (.float .f64 i) := fun _ h => by rw [hX] at h; exact h.old (by simp <;> omega) (cell_alloc_new (by simp) rfl)
  have g0 : ∀ W, Own (w.heap.size + 1 + 1 + 1 + 1) X (w.heap.size + 1 + 1 + 1 + 1) 2 41 W → W.cell? ⟨w.heap.size + 1 + 1 + 1 + 1, 0, none⟩ = some (got W (w.heap.size + 1 + 1 + 1 + 1) 0) := fun _ h => h.cell (by omega)
  have g1 : ∀ W, Own (w.heap.size + 1 + 1 + 1 + 1) X (w.heap.size + 1 + 1 + 1 + 1) 2 41 W → W.cell? ⟨w.heap.size + 1 + 1 + 1 + 1, 1, none⟩ = some (got W (w.heap.size + 1 + 1 + 1 + 1) 1) := fun _ h => h.cell (by omega)
  have gf : ∀ W j, Own (w.heap.size + 1 + 1 + 1 + 1) X (w.heap.size + 1 + 1 + 1 + 1) 2 41 W → W.frozen? ⟨w.heap.size + 1 + 1 + 1 + 1, j, none⟩ = false := fun _ j h => h.frozen j
  have HX : Hid (Below w.heap.size w X) := by rw [hX]; exact ((((Below.refl _ _).alloc (by simp <;> omega) _).alloc (by simp <;> omega) _).alloc (by simp <;> omega) _).alloc (by simp <;> omega) _
  go_enter Try.func100, Try.ntmps100
  go_wp2_with fail
  rw [← hX]
  obtain ⟨Y, hY⟩ : ∃ Y, Y = X.alloc (.cells #[.float .f64 0, .float .f64 0] 41) := ⟨_, rfl⟩
  rw [← hY] at h0 ⊢
  clear hX hY
  go_region_held (fun W => Own (w.heap.size + 1 + 1 + 1 + 1) X (w.heap.size + 1 + 1 + 1 + 1) 2 41 W) (first | assumption | exact Own.drew ‹_› | exact Own.drewN ‹_› _ | exact Own.set (Own.set ‹_› _ _) _ _)
    (first | (go_at_call 94; refine (sMul_any (by assumption) (by assumption) _).mono ?_; rintro e w1 ⟨x, y, rfl, hz, hb1⟩; have hR1 := Own.call ‹_› hb1) | (go_at_call 51; refine (sAdd_any (by assumption) (by assumption) _).mono ?_; rintro e w1 ⟨x, y, rfl, hz, hb1⟩; have hR1 := Own.call ‹_› hb1))
  have c0 := g0 _ hR1
  have c1 := g1 _ hR1
  clear k0_0 k0_1 k1_0 k1_1 k2_0 k2_1 k3_0 k3_1 g0 g1 gf 
  go_wp2
  refine bodyPost_ret (v := Zv _ _) (by simp [results, Try.results100, go_sem, c0, c1] <;> exact ⟨rfl, rfl⟩) rfl ⟨_, _, rfl, hz, Own.out (by assumption) HX.out (by omega)⟩
set_option maxHeartbeats 1600000 in
theorem iTwo_any {a b c d e f g i : Nat} {p q r s : CP} (h1 : Zc a b p) (h2 : Zc c d q) (h3 : Zc e f r) (h4 : Zc g i s) (w : World) : ZV 112 #[Zv a b, Zv c d, Zv e f, Zv g i] w (sumC .add (mulC p q) (mulC r s)) := by
  unfold ZV
  have hst := st64
  obtain ⟨X, hX⟩ : ∃ X, X = ((((w.alloc (.cells #[.float .f64 a, .float .f64 b] 41)).alloc (.cells #[.float .f64 c, .float .f64 d] 41)).alloc (.cells #[.float .f64 e, .float .f64 f] 41)).alloc (.cells #[.float .f64 g, .float .f64 i] 41)) := ⟨_, rfl⟩
  have h0 : Own (w.heap.size + 1 + 1 + 1 + 1) X (w.heap.size + 1 + 1 + 1 + 1) 2 41 (X.alloc (.cells #[.float .f64 0, .float .f64 0] 41)) := by
    have := own_made (X := X) (t := 41) #[.float .f64 0, .float .f64 0] (Nat.le_refl _)
    rw [hX] at this ⊢
    simpa using this
  have k0_0 : ∀ W, Own (w.heap.size + 1 + 1 + 1 + 1) X (w.heap.size + 1 + 1 + 1 + 1) 2 41 W → W.cell? ⟨w.heap.size, 0, none⟩ = some (.float .f64 a) := fun _ h => by rw [hX] at h; exact h.old (by simp <;> omega) (cell_alloc_old (cell_alloc_old (cell_alloc_old (cell_alloc_new (by simp) rfl))))
  have k0_1 : ∀ W, Own (w.heap.size + 1 + 1 + 1 + 1) X (w.heap.size + 1 + 1 + 1 + 1) 2 41 W → W.cell? ⟨w.heap.size, 1, none⟩ = some (.float .f64 b) := fun _ h => by rw [hX] at h; exact h.old (by simp <;> omega) (cell_alloc_old (cell_alloc_old (cell_alloc_old (cell_alloc_new (by simp) rfl))))
  have k1_0 : ∀ W, Own (w.heap.size + 1 + 1 + 1 + 1) X (w.heap.size + 1 + 1 + 1 + 1) 2 41 W → W.cell? ⟨w.heap.size + 1, 0, none⟩ = some (.float .f64 c) := fun _ h => by rw [hX] at h; exact h.old (by simp <;> omega) (cell_alloc_old (cell_alloc_old (cell_alloc_new (by simp) rfl)))
  have k1_1 : ∀ W, Own (w.heap.size + 1 + 1 + 1 + 1) X (w.heap.size + 1 + 1 + 1 + 1) 2 41 W → W.cell? ⟨w.heap.size + 1, 1, none⟩ = some (.float .f64 d) := fun _ h => by rw [hX] at h; exact h.old (by simp <;> omega) (cell_alloc_old (cell_alloc_old (cell_alloc_new (by simp) rfl)))
  have k2_0 : ∀ W, Own (w.heap.size + 1 + 1 + 1 + 1) X (w.heap.size + 1 + 1 + 1 + 1) 2 41 W → W.cell? ⟨w.heap.size + 1 + 1, 0, none⟩ = some (.float .f64 e) := fun _ h => by rw [hX] at h; exact h.old (by simp <;> omega) (cell_alloc_old (cell_alloc_new (by simp) rfl))
  have k2_1 : ∀ W, Own (w.heap.size + 1 + 1 + 1 + 1) X (w.heap.size + 1 + 1 + 1 + 1) 2 41 W → W.cell? ⟨w.heap.size + 1 + 1, 1, none⟩ = some (.float .f64 f) := fun _ h => by rw [hX] at h; exact h.old (by simp <;> omega) (cell_alloc_old (cell_alloc_new (by simp) rfl))
  have k3_0 : ∀ W, Own (w.heap.size + 1 + 1 + 1 + 1) X (w.heap.size + 1 + 1 + 1 + 1) 2 41 W → W.cell? ⟨w.heap.size + 1 + 1 + 1, 0, none⟩ = some (.float .f64 g) := fun _ h => by rw [hX] at h; exact h.old (by simp <;> omega) (cell_alloc_new (by simp) rfl)
  have k3_1 : ∀ W, Own (w.heap.size + 1 + 1 + 1 + 1) X (w.heap.size + 1 + 1 + 1 + 1) 2 41 W → W.cell? ⟨w.heap.size + 1 + 1 + 1, 1, none⟩ = some (.float .f64 i) := fun _ h => by rw [hX] at h; exact h.old (by simp <;> omega) (cell_alloc_new (by simp) rfl)
  have g0 : ∀ W, Own (w.heap.size + 1 + 1 + 1 + 1) X (w.heap.size + 1 + 1 + 1 + 1) 2 41 W → W.cell? ⟨w.heap.size + 1 + 1 + 1 + 1, 0, none⟩ = some (got W (w.heap.size + 1 + 1 + 1 + 1) 0) := fun _ h => h.cell (by omega)
  have g1 : ∀ W, Own (w.heap.size + 1 + 1 + 1 + 1) X (w.heap.size + 1 + 1 + 1 + 1) 2 41 W → W.cell? ⟨w.heap.size + 1 + 1 + 1 + 1, 1, none⟩ = some (got W (w.heap.size + 1 + 1 + 1 + 1) 1) := fun _ h => h.cell (by omega)
  have gf : ∀ W j, Own (w.heap.size + 1 + 1 + 1 + 1) X (w.heap.size + 1 + 1 + 1 + 1) 2 41 W → W.frozen? ⟨w.heap.size + 1 + 1 + 1 + 1, j, none⟩ = false := fun _ j h => h.frozen j
  have HX : Hid (Below w.heap.size w X) := by rw [hX]; exact ((((Below.refl _ _).alloc (by simp <;> omega) _).alloc (by simp <;> omega) _).alloc (by simp <;> omega) _).alloc (by simp <;> omega) _
  go_enter Try.func112, Try.ntmps112
  go_wp2_with fail
  rw [← hX]
  obtain ⟨Y, hY⟩ : ∃ Y, Y = X.alloc (.cells #[.float .f64 0, .float .f64 0] 41) := ⟨_, rfl⟩
  rw [← hY] at h0 ⊢
  clear hX hY
  go_region_held (fun W => Own (w.heap.size + 1 + 1 + 1 + 1) X (w.heap.size + 1 + 1 + 1 + 1) 2 41 W) (first | assumption | exact Own.drew ‹_› | exact Own.drewN ‹_› _ | exact Own.set (Own.set ‹_› _ _) _ _)
    (first | (go_at_call 98; refine (iMul_any (by assumption) (by assumption) _).mono ?_; rintro e w1 ⟨x, y, rfl, hz, hb1⟩; have hR1 := Own.call ‹_› hb1) | (go_at_call 56; refine (iAdd_any (by assumption) (by assumption) _).mono ?_; rintro e w1 ⟨x, y, rfl, hz, hb1⟩; have hR1 := Own.call ‹_› hb1))
  have c0 := g0 _ hR1
  have c1 := g1 _ hR1
  clear k0_0 k0_1 k1_0 k1_1 k2_0 k2_1 k3_0 k3_1 g0 g1 gf 
  go_wp2
  refine bodyPost_ret (v := Zv _ _) (by simp [results, Try.results112, go_sem, c0, c1] <;> exact ⟨rfl, rfl⟩) rfl ⟨_, _, rfl, hz, Own.out (by assumption) HX.out (by omega)⟩
/-- A plate; four classes. -/
abbrev Pv (a0 a1 a2 a3 a4 a5 a6 a7 : Nat) : Value := .agg #[.float .f64 a0, .float .f64 a1, .float .f64 a2, .float .f64 a3, .float .f64 a4, .float .f64 a5, .float .f64 a6, .float .f64 a7]
structure P4 where
  A : CP
  B : CP
  C : CP
  D : CP
structure Pc (a0 a1 a2 a3 a4 a5 a6 a7 : Nat) (o : P4) : Prop where
  z0 : Zc a0 a1 o.A
  z1 : Zc a2 a3 o.B
  z2 : Zc a4 a5 o.C
  z3 : Zc a6 a7 o.D
def PV (fn : FuncId) (args : Array Value) (w : World) (o : P4) : Prop :=
  Calls Try.prog fn args w fun e w' => ∃ a0 a1 a2 a3 a4 a5 a6 a7, e = .returned (Pv a0 a1 a2 a3 a4 a5 a6 a7) ∧ Pc a0 a1 a2 a3 a4 a5 a6 a7 o ∧ Below w.heap.size w w'
def detC (p : P4) : CP := sumC .sub (mulC p.A p.D) (mulC p.B p.C)
def mulP (p q : P4) : P4 := ⟨sumC .add (mulC p.A q.A) (mulC p.B q.C), sumC .add (mulC p.A q.B) (mulC p.B q.D), sumC .add (mulC p.C q.A) (mulC p.D q.C), sumC .add (mulC p.C q.B) (mulC p.D q.D)⟩
end Go.Proofs.Ytnpcldgacdgplaa
