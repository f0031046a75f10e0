/- Complex numbers: sums, differences, products, signs turned: contracts of the specification's and the program's functions. -/
import Derived.Test.YtgidoceflkdklaaOwn
import Derived.Deep.RegionHeld3
namespace Go.Proofs.Ytgidoceflkdklaa
open Go.RowKit Fl
set_option linter.unusedVariables false
/-- Products and sums of classes. -/
def mulC (p q : Option Nat × Option Nat) : Option Nat × Option Nat := (mulRe p.1 p.2 q.1 q.2, mulIm p.1 p.2 q.1 q.2)
def sumC (op : BinOp) (p q : Option Nat × Option Nat) : Option Nat × Option Nat := (opC op p.1 q.1, opC op p.2 q.2)
theorem cmul_fun {a b c d : Nat} {p q : Option Nat × Option Nat} (h : Zc a b p) (k : Zc c d q) : ∃ E F n : World → Nat, (∀ t w, (binOp .mul t (.complex .f64 a b) (.complex .f64 c d)).run Try.prog w = .ok (.complex .f64 (E w) (F w)) (w.drewN (n w))) ∧
    (∀ w, Zc (E w) (F w) (mulC p q)) := by
  have g := fun w => cmul_step (P := Try.prog) 0 h.lx h.ly k.lx k.ly w
  refine ⟨fun w => (g w).choose, fun w => (g w).choose_spec.choose, fun w => (g w).choose_spec.choose_spec.choose, fun t w => ?_, fun w => ?_⟩
  · exact (g w).choose_spec.choose_spec.choose_spec.1
  · obtain ⟨_, h1, h2, h3, h4⟩ := (g w).choose_spec.choose_spec.choose_spec
    exact ⟨h1, h2, by rw [h3, h4, ← h.c, ← k.c]; rfl⟩
theorem csum_fun (op : BinOp) (hop : op = .add ∨ op = .sub) {a b c d : Nat} {p q : Option Nat × Option Nat} (h : Zc a b p) (k : Zc c d q) : ∃ E F n : World → Nat, (∀ t w, (binOp op t (.complex .f64 a b) (.complex .f64 c d)).run Try.prog w = .ok (.complex .f64 (E w) (F w)) (w.drewN (n w))) ∧
    (∀ w, Zc (E w) (F w) (sumC op p q)) := by
  have g := fun w => csum_step (P := Try.prog) op hop 0 h.lx h.ly k.lx k.ly w
  refine ⟨fun w => (g w).choose, fun w => (g w).choose_spec.choose, fun w => (g w).choose_spec.choose_spec.choose, fun t w => ?_, fun w => ?_⟩
  · have := (g w).choose_spec.choose_spec.choose_spec.1
    rcases hop with rfl | rfl <;> exact this
  · obtain ⟨_, h1, h2, h3, h4⟩ := (g w).choose_spec.choose_spec.choose_spec
    exact ⟨h1, h2, by rw [h3, h4, ← h.c, ← k.c]; rfl⟩
set_option maxHeartbeats 1600000 in
theorem sMul_any {a b c d : Nat} {p q : Option Nat × Option Nat} (h : Zc a b p) (k : Zc c d q) (w : World) : ZV 66 #[Zv a b, Zv c d] w (mulC p q) := by
  unfold ZV
  have hst := st64
  have hmul := mul_run
  have hsub := sub_run
  have hadd := add_run
  have hc1 := cell_opW
  have hc2 := frozen_opW
  have hc3 := size_opW
  go_enter Try.func66, Try.ntmps66
  go_wp2
  refine bodyPost_ret (v := Zv _ _) (by (simp [results, Try.results66, go_sem, hc1]); exact ⟨rfl, rfl⟩) rfl ⟨_, _, rfl, ⟨opV_lt _ _ _ _, opV_lt _ _ _ _, ?_⟩, ?_⟩
  · obtain ⟨ha, hb, e1⟩ := h
    obtain ⟨hc, hd, e2⟩ := k
    subst e1
    subst e2
    rw [opV_cl _ (opV_lt _ _ _ _) (opV_lt _ _ _ _), opV_cl _ (opV_lt _ _ _ _) (opV_lt _ _ _ _), opV_cl _ ha hc, opV_cl _ hb hd, opV_cl _ ha hd, opV_cl _ hb hc]
    rfl
  · repeat (first | (refine Below.setCell ?_ (by simp; omega) _) | (refine below_opW ?_) | (refine Below.alloc ?_ (by simp <;> omega) _) | exact Below.refl _ _)
set_option maxHeartbeats 1600000 in
theorem sAdd_any {a b c d : Nat} {p q : Option Nat × Option Nat} (h : Zc a b p) (k : Zc c d q) (w : World) : ZV 77 #[Zv a b, Zv c d] w (sumC .add p q) := by
  unfold ZV
  have hst := st64
  have hadd := add_run
  have hc1 := cell_opW
  have hc2 := frozen_opW
  have hc3 := size_opW
  go_enter Try.func77, Try.ntmps77
  go_wp2
  refine bodyPost_ret (v := Zv _ _) (by (simp [results, Try.results77, go_sem, hc1]); exact ⟨rfl, rfl⟩) rfl ⟨_, _, rfl, ⟨opV_lt _ _ _ _, opV_lt _ _ _ _, ?_⟩, ?_⟩
  · obtain ⟨ha, hb, e1⟩ := h
    obtain ⟨hc, hd, e2⟩ := k
    subst e1
    subst e2
    rw [opV_cl _ ha hc, opV_cl _ hb hd]
    rfl
  · repeat (first | (refine Below.setCell ?_ (by simp; omega) _) | (refine below_opW ?_) | (refine Below.alloc ?_ (by simp <;> omega) _) | exact Below.refl _ _)
set_option maxHeartbeats 1600000 in
theorem sSub_any {a b c d : Nat} {p q : Option Nat × Option Nat} (h : Zc a b p) (k : Zc c d q) (w : World) : ZV 78 #[Zv a b, Zv c d] w (sumC .sub p q) := by
  unfold ZV
  have hst := st64
  have hsub := sub_run
  have hc1 := cell_opW
  have hc2 := frozen_opW
  have hc3 := size_opW
  go_enter Try.func78, Try.ntmps78
  go_wp2
  refine bodyPost_ret (v := Zv _ _) (by (simp [results, Try.results78, go_sem, hc1]); exact ⟨rfl, rfl⟩) rfl ⟨_, _, rfl, ⟨opV_lt _ _ _ _, opV_lt _ _ _ _, ?_⟩, ?_⟩
  · obtain ⟨ha, hb, e1⟩ := h
    obtain ⟨hc, hd, e2⟩ := k
    subst e1
    subst e2
    rw [opV_cl _ ha hc, opV_cl _ hb hd]
    rfl
  · repeat (first | (refine Below.setCell ?_ (by simp; omega) _) | (refine below_opW ?_) | (refine Below.alloc ?_ (by simp <;> omega) _) | exact Below.refl _ _)
set_option maxHeartbeats 1600000 in
theorem iMul_any {a b c d : Nat} {p q : Option Nat × Option Nat} (h : Zc a b p) (k : Zc c d q) (w : World) : ZV 68 #[Zv a b, Zv c d] w (mulC p q) := by
  obtain ⟨E, F, n, hop, HC⟩ := cmul_fun h k
  unfold ZV
  have hst := st64
  obtain ⟨X, hX⟩ : ∃ X, X = ((w.alloc (.cells #[.float .f64 a, .float .f64 b] 75)).alloc (.cells #[.float .f64 c, .float .f64 d] 75)) := ⟨_, rfl⟩
  have h0 : Own (w.heap.size + 1 + 1) X (w.heap.size + 1 + 1) 2 75 (X.alloc (.cells #[.float .f64 0, .float .f64 0] 75)) := by
    have := own_made (X := X) (t := 75) #[.float .f64 0, .float .f64 0] (Nat.le_refl _)
    rw [hX] at this ⊢
    simpa using this
  have k0_0 : ∀ W, Own (w.heap.size + 1 + 1) X (w.heap.size + 1 + 1) 2 75 W → W.cell? ⟨w.heap.size, 0, none⟩ = some (.float .f64 a) := fun _ h => by rw [hX] at h; exact h.old (by simp <;> omega) (by simp)
  have k0_1 : ∀ W, Own (w.heap.size + 1 + 1) X (w.heap.size + 1 + 1) 2 75 W → W.cell? ⟨w.heap.size, 1, none⟩ = some (.float .f64 b) := fun _ h => by rw [hX] at h; exact h.old (by simp <;> omega) (by simp)
  have k1_0 : ∀ W, Own (w.heap.size + 1 + 1) X (w.heap.size + 1 + 1) 2 75 W → W.cell? ⟨w.heap.size + 1, 0, none⟩ = some (.float .f64 c) := fun _ h => by rw [hX] at h; exact h.old (by simp <;> omega) (by simp)
  have k1_1 : ∀ W, Own (w.heap.size + 1 + 1) X (w.heap.size + 1 + 1) 2 75 W → W.cell? ⟨w.heap.size + 1, 1, none⟩ = some (.float .f64 d) := fun _ h => by rw [hX] at h; exact h.old (by simp <;> omega) (by simp)
  have g0 : ∀ W, Own (w.heap.size + 1 + 1) X (w.heap.size + 1 + 1) 2 75 W → W.cell? ⟨w.heap.size + 1 + 1, 0, none⟩ = some (got W (w.heap.size + 1 + 1) 0) := fun _ h => h.cell (by omega)
  have g1 : ∀ W, Own (w.heap.size + 1 + 1) X (w.heap.size + 1 + 1) 2 75 W → W.cell? ⟨w.heap.size + 1 + 1, 1, none⟩ = some (got W (w.heap.size + 1 + 1) 1) := fun _ h => h.cell (by omega)
  have gf : ∀ W j, Own (w.heap.size + 1 + 1) X (w.heap.size + 1 + 1) 2 75 W → W.frozen? ⟨w.heap.size + 1 + 1, j, none⟩ = false := fun _ j h => h.frozen j
  have HX : Hid (Below w.heap.size w X) := by rw [hX]; exact ((Below.refl _ _).alloc (by simp <;> omega) _).alloc (by simp <;> omega) _
  go_enter Try.func68, Try.ntmps68
  go_wp2_with fail
  rw [← hX]
  obtain ⟨Y, hY⟩ : ∃ Y, Y = X.alloc (.cells #[.float .f64 0, .float .f64 0] 75) := ⟨_, rfl⟩
  rw [← hY] at h0 ⊢
  clear hX hY
  go_region_held (fun W => Own (w.heap.size + 1 + 1) X (w.heap.size + 1 + 1) 2 75 W) (first | assumption | exact Own.drew ‹_› | exact Own.drewN ‹_› _ | exact Own.set (Own.set ‹_› _ _) _ _)
    (first | (go_at_call 87; refine (complexOf_any _ _ _).mono ?_; rintro e w1 ⟨rfl, hb1⟩; have hR1 := Own.call ‹_› hb1) | (go_at_call 86; refine (zOf_any _ _ _).mono ?_; rintro e w1 ⟨rfl, hb1⟩; have hR1 := Own.call ‹_› hb1))
  have c0 := g0 _ hR1
  have c1 := g1 _ hR1
  clear k0_0 k0_1 k1_0 k1_1 g0 g1 gf 
  go_wp2
  refine bodyPost_ret (v := Zv _ _) (by (simp [results, Try.results68, go_sem, c0, c1]); exact ⟨rfl, rfl⟩) rfl ⟨_, _, rfl, HC _, Own.out (by assumption) HX.out (by omega)⟩
set_option maxHeartbeats 1600000 in
theorem iAdd_any {a b c d : Nat} {p q : Option Nat × Option Nat} (h : Zc a b p) (k : Zc c d q) (w : World) : ZV 92 #[Zv a b, Zv c d] w (sumC .add p q) := by
  obtain ⟨E, F, n, hop, HC⟩ := csum_fun .add (Or.inl rfl) h k
  unfold ZV
  have hst := st64
  obtain ⟨X, hX⟩ : ∃ X, X = ((w.alloc (.cells #[.float .f64 a, .float .f64 b] 75)).alloc (.cells #[.float .f64 c, .float .f64 d] 75)) := ⟨_, rfl⟩
  have h0 : Own (w.heap.size + 1 + 1) X (w.heap.size + 1 + 1) 2 75 (X.alloc (.cells #[.float .f64 0, .float .f64 0] 75)) := by
    have := own_made (X := X) (t := 75) #[.float .f64 0, .float .f64 0] (Nat.le_refl _)
    rw [hX] at this ⊢
    simpa using this
  have k0_0 : ∀ W, Own (w.heap.size + 1 + 1) X (w.heap.size + 1 + 1) 2 75 W → W.cell? ⟨w.heap.size, 0, none⟩ = some (.float .f64 a) := fun _ h => by rw [hX] at h; exact h.old (by simp <;> omega) (by simp)
  have k0_1 : ∀ W, Own (w.heap.size + 1 + 1) X (w.heap.size + 1 + 1) 2 75 W → W.cell? ⟨w.heap.size, 1, none⟩ = some (.float .f64 b) := fun _ h => by rw [hX] at h; exact h.old (by simp <;> omega) (by simp)
  have k1_0 : ∀ W, Own (w.heap.size + 1 + 1) X (w.heap.size + 1 + 1) 2 75 W → W.cell? ⟨w.heap.size + 1, 0, none⟩ = some (.float .f64 c) := fun _ h => by rw [hX] at h; exact h.old (by simp <;> omega) (by simp)
  have k1_1 : ∀ W, Own (w.heap.size + 1 + 1) X (w.heap.size + 1 + 1) 2 75 W → W.cell? ⟨w.heap.size + 1, 1, none⟩ = some (.float .f64 d) := fun _ h => by rw [hX] at h; exact h.old (by simp <;> omega) (by simp)
  have g0 : ∀ W, Own (w.heap.size + 1 + 1) X (w.heap.size + 1 + 1) 2 75 W → W.cell? ⟨w.heap.size + 1 + 1, 0, none⟩ = some (got W (w.heap.size + 1 + 1) 0) := fun _ h => h.cell (by omega)
  have g1 : ∀ W, Own (w.heap.size + 1 + 1) X (w.heap.size + 1 + 1) 2 75 W → W.cell? ⟨w.heap.size + 1 + 1, 1, none⟩ = some (got W (w.heap.size + 1 + 1) 1) := fun _ h => h.cell (by omega)
  have gf : ∀ W j, Own (w.heap.size + 1 + 1) X (w.heap.size + 1 + 1) 2 75 W → W.frozen? ⟨w.heap.size + 1 + 1, j, none⟩ = false := fun _ j h => h.frozen j
  have HX : Hid (Below w.heap.size w X) := by rw [hX]; exact ((Below.refl _ _).alloc (by simp <;> omega) _).alloc (by simp <;> omega) _
  go_enter Try.func92, Try.ntmps92
  go_wp2_with fail
  rw [← hX]
  obtain ⟨Y, hY⟩ : ∃ Y, Y = X.alloc (.cells #[.float .f64 0, .float .f64 0] 75) := ⟨_, rfl⟩
  rw [← hY] at h0 ⊢
  clear hX hY
  go_region_held (fun W => Own (w.heap.size + 1 + 1) X (w.heap.size + 1 + 1) 2 75 W) (first | assumption | exact Own.drew ‹_› | exact Own.drewN ‹_› _ | exact Own.set (Own.set ‹_› _ _) _ _)
    (first | (go_at_call 87; refine (complexOf_any _ _ _).mono ?_; rintro e w1 ⟨rfl, hb1⟩; have hR1 := Own.call ‹_› hb1) | (go_at_call 86; refine (zOf_any _ _ _).mono ?_; rintro e w1 ⟨rfl, hb1⟩; have hR1 := Own.call ‹_› hb1))
  have c0 := g0 _ hR1
  have c1 := g1 _ hR1
  clear k0_0 k0_1 k1_0 k1_1 g0 g1 gf 
  go_wp2
  refine bodyPost_ret (v := Zv _ _) (by (simp [results, Try.results92, go_sem, c0, c1]); exact ⟨rfl, rfl⟩) rfl ⟨_, _, rfl, HC _, Own.out (by assumption) HX.out (by omega)⟩
set_option maxHeartbeats 1600000 in
theorem iSub_any {a b c d : Nat} {p q : Option Nat × Option Nat} (h : Zc a b p) (k : Zc c d q) (w : World) : ZV 93 #[Zv a b, Zv c d] w (sumC .sub p q) := by
  obtain ⟨E, F, n, hop, HC⟩ := csum_fun .sub (Or.inr rfl) h k
  unfold ZV
  have hst := st64
  obtain ⟨X, hX⟩ : ∃ X, X = ((w.alloc (.cells #[.float .f64 a, .float .f64 b] 75)).alloc (.cells #[.float .f64 c, .float .f64 d] 75)) := ⟨_, rfl⟩
  have h0 : Own (w.heap.size + 1 + 1) X (w.heap.size + 1 + 1) 2 75 (X.alloc (.cells #[.float .f64 0, .float .f64 0] 75)) := by
    have := own_made (X := X) (t := 75) #[.float .f64 0, .float .f64 0] (Nat.le_refl _)
    rw [hX] at this ⊢
    simpa using this
  have k0_0 : ∀ W, Own (w.heap.size + 1 + 1) X (w.heap.size + 1 + 1) 2 75 W → W.cell? ⟨w.heap.size, 0, none⟩ = some (.float .f64 a) := fun _ h => by rw [hX] at h; exact h.old (by simp <;> omega) (by simp)
  have k0_1 : ∀ W, Own (w.heap.size + 1 + 1) X (w.heap.size + 1 + 1) 2 75 W → W.cell? ⟨w.heap.size, 1, none⟩ = some (.float .f64 b) := fun _ h => by rw [hX] at h; exact h.old (by simp <;> omega) (by simp)
  have k1_0 : ∀ W, Own (w.heap.size + 1 + 1) X (w.heap.size + 1 + 1) 2 75 W → W.cell? ⟨w.heap.size + 1, 0, none⟩ = some (.float .f64 c) := fun _ h => by rw [hX] at h; exact h.old (by simp <;> omega) (by simp)
  have k1_1 : ∀ W, Own (w.heap.size + 1 + 1) X (w.heap.size + 1 + 1) 2 75 W → W.cell? ⟨w.heap.size + 1, 1, none⟩ = some (.float .f64 d) := fun _ h => by rw [hX] at h; exact h.old (by simp <;> omega) (by simp)
  have g0 : ∀ W, Own (w.heap.size + 1 + 1) X (w.heap.size + 1 + 1) 2 75 W → W.cell? ⟨w.heap.size + 1 + 1, 0, none⟩ = some (got W (w.heap.size + 1 + 1) 0) := fun _ h => h.cell (by omega)
  have g1 : ∀ W, Own (w.heap.size + 1 + 1) X (w.heap.size + 1 + 1) 2 75 W → W.cell? ⟨w.heap.size + 1 + 1, 1, none⟩ = some (got W (w.heap.size + 1 + 1) 1) := fun _ h => h.cell (by omega)
  have gf : ∀ W j, Own (w.heap.size + 1 + 1) X (w.heap.size + 1 + 1) 2 75 W → W.frozen? ⟨w.heap.size + 1 + 1, j, none⟩ = false := fun _ j h => h.frozen j
  have HX : Hid (Below w.heap.size w X) := by rw [hX]; exact ((Below.refl _ _).alloc (by simp <;> omega) _).alloc (by simp <;> omega) _
  go_enter Try.func93, Try.ntmps93
  go_wp2_with fail
  rw [← hX]
  obtain ⟨Y, hY⟩ : ∃ Y, Y = X.alloc (.cells #[.float .f64 0, .float .f64 0] 75) := ⟨_, rfl⟩
  rw [← hY] at h0 ⊢
  clear hX hY
  go_region_held (fun W => Own (w.heap.size + 1 + 1) X (w.heap.size + 1 + 1) 2 75 W) (first | assumption | exact Own.drew ‹_› | exact Own.drewN ‹_› _ | exact Own.set (Own.set ‹_› _ _) _ _)
    (first | (go_at_call 87; refine (complexOf_any _ _ _).mono ?_; rintro e w1 ⟨rfl, hb1⟩; have hR1 := Own.call ‹_› hb1) | (go_at_call 86; refine (zOf_any _ _ _).mono ?_; rintro e w1 ⟨rfl, hb1⟩; have hR1 := Own.call ‹_› hb1))
  have c0 := g0 _ hR1
  have c1 := g1 _ hR1
  clear k0_0 k0_1 k1_0 k1_1 g0 g1 gf 
  go_wp2
  refine bodyPost_ret (v := Zv _ _) (by (simp [results, Try.results93, go_sem, c0, c1]); exact ⟨rfl, rfl⟩) rfl ⟨_, _, rfl, HC _, Own.out (by assumption) HX.out (by omega)⟩
end Go.Proofs.Ytgidoceflkdklaa
