/- The specification's reckoning of chapter 7: right or not, and the fraction. -/
import Derived.Test.YtkkajcdjkfbcgaaOw
namespace Go.Proofs.Ytkkajcdjkfbcgaa
open Go.RowKit
set_option linter.unusedVariables false
set_option linter.unusedSimpArgs false
def aK (k : Bool) (x : Q) (l : Bool) (y : Q) : Bool := k && l && addK x y
def aQ (k : Bool) (x : Q) (l : Bool) (y : Q) : Q := if (k && l) = true then addQ x y else zQ
def dK (k : Bool) (x y : Q) : Bool := k && divK x y
def dQ (k : Bool) (x y : Q) : Q := if k = true then divQ x y else zQ
def nQ (x : Q) : Q := ⟨-x.n, x.d⟩
def twK (a b c d : Q) : Bool := aK (mulK a b) (mulQ a b) (mulK c d) (mulQ c d)
def twQ (a b c d : Q) : Q := aQ (mulK a b) (mulQ a b) (mulK c d) (mulQ c d)
def leK (k : Bool) (x : Q) (l : Bool) (y : Q) : Bool := aK k x l (nQ y)
def leQ (k : Bool) (x : Q) (l : Bool) (y : Q) : Q := aQ k x l (nQ y)
def tC (k : Bool) : Int := if k = true then 0 else 3
def tQ (k : Bool) (x : Q) : Q := if k = true then x else zQ
set_option maxHeartbeats 1600000 in
theorem sof (x : Q) (w : World) : Calls Try.prog 65 #[.agg #[.int .i64 x.n, .int .i64 x.d]] w fun e w' => e = .returned (.agg #[.bool x.ok, .int .i64 x.n, .int .i64 x.d]) ∧ Below w.heap.size w w' := by
  have q := fault_eq x.n x.d
  unfold Q.ok
  obtain ⟨X, hX⟩ : ∃ X, X = (w.alloc (.cells #[.int .i64 x.n, .int .i64 x.d] 32)) := ⟨_, rfl⟩
  have h0 : Own (w.heap.size + 1) X (w.heap.size + 1) 3 98 (X.alloc (.cells #[.bool false, .int .i64 0, .int .i64 0] 98)) := by
    have := own_made (X := X) (t := 98) #[.bool false, .int .i64 0, .int .i64 0] (Nat.le_refl _)
    rw [hX] at this ⊢
    simpa using this
  have k0_0 : ∀ W, Own (w.heap.size + 1) X (w.heap.size + 1) 3 98 W → W.cell? ⟨w.heap.size, 0, none⟩ = some (.int .i64 x.n) := fun _ h => by rw [hX] at h; exact h.old (by simp <;> omega) (cell_new (by simp) rfl)
  have k0_1 : ∀ W, Own (w.heap.size + 1) X (w.heap.size + 1) 3 98 W → W.cell? ⟨w.heap.size, 1, none⟩ = some (.int .i64 x.d) := fun _ h => by rw [hX] at h; exact h.old (by simp <;> omega) (cell_new (by simp) rfl)
  have g0 : ∀ W, Own (w.heap.size + 1) X (w.heap.size + 1) 3 98 W → W.cell? ⟨w.heap.size + 1, 0, none⟩ = some (got W (w.heap.size + 1) 0) := fun _ h => h.cell (by omega)
  have g1 : ∀ W, Own (w.heap.size + 1) X (w.heap.size + 1) 3 98 W → W.cell? ⟨w.heap.size + 1, 1, none⟩ = some (got W (w.heap.size + 1) 1) := fun _ h => h.cell (by omega)
  have g2 : ∀ W, Own (w.heap.size + 1) X (w.heap.size + 1) 3 98 W → W.cell? ⟨w.heap.size + 1, 2, none⟩ = some (got W (w.heap.size + 1) 2) := fun _ h => h.cell (by omega)
  have gf : ∀ W j, Own (w.heap.size + 1) X (w.heap.size + 1) 3 98 W → W.frozen? ⟨w.heap.size + 1, j, none⟩ = false := fun _ j h => h.frozen j
  have HX : Hid (Below w.heap.size w X) := by rw [hX]; exact (Below.refl _ _).alloc (by simp <;> omega) _
  go_enter Try.func65, Try.ntmps65
  go_wp2_with fail
  rw [← hX]
  obtain ⟨Y, hY⟩ : ∃ Y, Y = X.alloc (.cells #[.bool false, .int .i64 0, .int .i64 0] 98) := ⟨_, rfl⟩
  rw [← hY] at h0 ⊢
  clear hX hY
  go_region_held (fun W => Own (w.heap.size + 1) X (w.heap.size + 1) 3 98 W) (first | with_reducible assumption | with_reducible exact Own.drew ‹_› | with_reducible exact Own.drewN ‹_› _ | with_reducible exact Own.set (Own.set (Own.set ‹_› _ _) _ _) _ _)
    (first | (go_at_call 105; refine (sfaultq x _).mono ?_; rintro e w1 ⟨rfl, hb1⟩; have hR1 := Own.call ‹_› hb1))
  have c0 := g0 _ hR1
  have c1 := g1 _ hR1
  have c2 := g2 _ hR1
  clear k0_0 k0_1 g0 g1 g2 gf
  go_wp2
  refine bodyPost_ret (v := .agg #[.bool x.ok, .int .i64 x.n, .int .i64 x.d]) (by simp [results, Try.results65, go_sem, c0, c1, c2] <;> (repeat' (first | rfl | apply And.intro))) rfl ⟨rfl, ?_⟩
  exact Own.out (Own.set (Own.set (Own.set hR1 0 _) 1 _) 2 _) HX.out (by omega)
set_option maxHeartbeats 400000 in
theorem smul7 (x y : Q) (w : World) : Calls Try.prog 62 #[.agg #[.int .i64 x.n, .int .i64 x.d], .agg #[.int .i64 y.n, .int .i64 y.d]] w fun e w' => e = .returned (.agg #[.bool (mulK x y), .int .i64 (mulQ x y).n, .int .i64 (mulQ x y).d]) ∧ Below w.heap.size w w' := by
  unfold mulK
  go_enter Try.func62, Try.ntmps62
  go_wp2_with fail
  refine (smulq x y _).mono ?_
  rintro e w1 ⟨rfl, hb1⟩
  have s1 : w.heap.size + 1 + 1 < w1.heap.size := by have := hb1.size; simp at this; omega
  have c0 : w1.cell? ⟨w.heap.size, 0, none⟩ = some (.int .i64 x.n) := (hb1.cell (p := ⟨w.heap.size, 0, none⟩) (by first | (simp; done) | (simp; omega))).trans (by go_simp)
  have c1 : w1.cell? ⟨w.heap.size, 1, none⟩ = some (.int .i64 x.d) := (hb1.cell (p := ⟨w.heap.size, 1, none⟩) (by first | (simp; done) | (simp; omega))).trans (by go_simp)
  have c2 : w1.cell? ⟨w.heap.size + 1, 0, none⟩ = some (.int .i64 y.n) := (hb1.cell (p := ⟨w.heap.size + 1, 0, none⟩) (by first | (simp; done) | (simp; omega))).trans (by go_simp)
  have c3 : w1.cell? ⟨w.heap.size + 1, 1, none⟩ = some (.int .i64 y.d) := (hb1.cell (p := ⟨w.heap.size + 1, 1, none⟩) (by first | (simp; done) | (simp; omega))).trans (by go_simp)
  have c4 : w1.cell? ⟨w.heap.size + 1 + 1, 0, none⟩ = some (.bool false) := (hb1.cell (p := ⟨w.heap.size + 1 + 1, 0, none⟩) (by first | (simp; done) | (simp; omega))).trans (by go_simp)
  have c5 : w1.cell? ⟨w.heap.size + 1 + 1, 1, none⟩ = some (.int .i64 0) := (hb1.cell (p := ⟨w.heap.size + 1 + 1, 1, none⟩) (by first | (simp; done) | (simp; omega))).trans (by go_simp)
  have c6 : w1.cell? ⟨w.heap.size + 1 + 1, 2, none⟩ = some (.int .i64 0) := (hb1.cell (p := ⟨w.heap.size + 1 + 1, 2, none⟩) (by first | (simp; done) | (simp; omega))).trans (by go_simp)
  have f0 : w1.frozen? ⟨w.heap.size + 1 + 1, 0, none⟩ = false := (hb1.frozen (p := ⟨w.heap.size + 1 + 1, 0, none⟩) (by first | (simp; done) | (simp; omega))).trans (by go_simp)
  have f1 : w1.frozen? ⟨w.heap.size + 1 + 1, 1, none⟩ = false := (hb1.frozen (p := ⟨w.heap.size + 1 + 1, 1, none⟩) (by first | (simp; done) | (simp; omega))).trans (by go_simp)
  have f2 : w1.frozen? ⟨w.heap.size + 1 + 1, 2, none⟩ = false := (hb1.frozen (p := ⟨w.heap.size + 1 + 1, 2, none⟩) (by first | (simp; done) | (simp; omega))).trans (by go_simp)
  have B1 : Hid (Below w.heap.size w w1) := by refine box_step ?_ hb1 (by simp <;> omega); go_grown
  clear hb1
  go_wp2
  refine bodyPost_ret (v := .agg #[.bool (mulK x y), .int .i64 (mulQ x y).n, .int .i64 (mulQ x y).d]) (by simp [results, Try.results62, go_sem, c4, c5, c6, s1, World.cell?_alloc_lt] <;> (repeat' (first | rfl | apply And.intro))) rfl ⟨rfl, ?_⟩
  have h := B1.out
  go_grown
set_option maxHeartbeats 400000 in
theorem sneg (x : Q) (w : World) (h1 : -1000000000 ≤ x.n) (h2 : x.n ≤ 1000000000) : Calls Try.prog 108 #[.agg #[.int .i64 x.n, .int .i64 x.d]] w fun e w' => e = .returned (.agg #[.int .i64 (nQ x).n, .int .i64 (nQ x).d]) ∧ Below w.heap.size w w' := by
  unfold nQ
  go_enter Try.func108, Try.ntmps108
  go_wp2
  refine bodyPost_ret (v := .agg #[.int .i64 (nQ x).n, .int .i64 (nQ x).d]) (by simp [results, Try.results108, go_sem] <;> (repeat' (first | rfl | apply And.intro))) rfl ⟨rfl, ?_⟩
  go_grown
set_option maxHeartbeats 400000 in
theorem sint (n : Int) (w : World) : Calls Try.prog 66 #[.int .i64 n] w fun e w' => e = .returned (.agg #[.int .i64 n, .int .i64 1]) ∧ Below w.heap.size w w' := by
  go_enter Try.func66, Try.ntmps66
  go_wp2
  refine bodyPost_ret (v := .agg #[.int .i64 n, .int .i64 1]) (by simp [results, Try.results66, go_sem] <;> (repeat' (first | rfl | apply And.intro))) rfl ⟨rfl, ?_⟩
  go_grown
set_option maxHeartbeats 400000 in
theorem sadd7_tt (x y : Q) (w : World) : Calls Try.prog 64 #[.agg #[.bool true, .int .i64 x.n, .int .i64 x.d], .agg #[.bool true, .int .i64 y.n, .int .i64 y.d]] w fun e w' => e = .returned (.agg #[.bool (addK x y), .int .i64 (addQ x y).n, .int .i64 (addQ x y).d]) ∧ Below w.heap.size w w' := by
  unfold addK
  go_enter Try.func64, Try.ntmps64
  go_wp2_with fail
  refine (saddq x y _).mono ?_
  rintro e w1 ⟨rfl, hb1⟩
  have s1 : w.heap.size + 1 + 1 < w1.heap.size := by have := hb1.size; simp at this; omega
  have c0 : w1.cell? ⟨w.heap.size, 0, none⟩ = some (.bool true) := (hb1.cell (p := ⟨w.heap.size, 0, none⟩) (by first | (simp; done) | (simp; omega))).trans (by go_simp)
  have c1 : w1.cell? ⟨w.heap.size, 1, none⟩ = some (.int .i64 x.n) := (hb1.cell (p := ⟨w.heap.size, 1, none⟩) (by first | (simp; done) | (simp; omega))).trans (by go_simp)
  have c2 : w1.cell? ⟨w.heap.size, 2, none⟩ = some (.int .i64 x.d) := (hb1.cell (p := ⟨w.heap.size, 2, none⟩) (by first | (simp; done) | (simp; omega))).trans (by go_simp)
  have c3 : w1.cell? ⟨w.heap.size + 1, 0, none⟩ = some (.bool true) := (hb1.cell (p := ⟨w.heap.size + 1, 0, none⟩) (by first | (simp; done) | (simp; omega))).trans (by go_simp)
  have c4 : w1.cell? ⟨w.heap.size + 1, 1, none⟩ = some (.int .i64 y.n) := (hb1.cell (p := ⟨w.heap.size + 1, 1, none⟩) (by first | (simp; done) | (simp; omega))).trans (by go_simp)
  have c5 : w1.cell? ⟨w.heap.size + 1, 2, none⟩ = some (.int .i64 y.d) := (hb1.cell (p := ⟨w.heap.size + 1, 2, none⟩) (by first | (simp; done) | (simp; omega))).trans (by go_simp)
  have c6 : w1.cell? ⟨w.heap.size + 1 + 1, 0, none⟩ = some (.bool false) := (hb1.cell (p := ⟨w.heap.size + 1 + 1, 0, none⟩) (by first | (simp; done) | (simp; omega))).trans (by go_simp)
  have c7 : w1.cell? ⟨w.heap.size + 1 + 1, 1, none⟩ = some (.int .i64 0) := (hb1.cell (p := ⟨w.heap.size + 1 + 1, 1, none⟩) (by first | (simp; done) | (simp; omega))).trans (by go_simp)
  have c8 : w1.cell? ⟨w.heap.size + 1 + 1, 2, none⟩ = some (.int .i64 0) := (hb1.cell (p := ⟨w.heap.size + 1 + 1, 2, none⟩) (by first | (simp; done) | (simp; omega))).trans (by go_simp)
  have f0 : w1.frozen? ⟨w.heap.size + 1 + 1, 0, none⟩ = false := (hb1.frozen (p := ⟨w.heap.size + 1 + 1, 0, none⟩) (by first | (simp; done) | (simp; omega))).trans (by go_simp)
  have f1 : w1.frozen? ⟨w.heap.size + 1 + 1, 1, none⟩ = false := (hb1.frozen (p := ⟨w.heap.size + 1 + 1, 1, none⟩) (by first | (simp; done) | (simp; omega))).trans (by go_simp)
  have f2 : w1.frozen? ⟨w.heap.size + 1 + 1, 2, none⟩ = false := (hb1.frozen (p := ⟨w.heap.size + 1 + 1, 2, none⟩) (by first | (simp; done) | (simp; omega))).trans (by go_simp)
  have B1 : Hid (Below w.heap.size w w1) := by refine box_step ?_ hb1 (by simp <;> omega); go_grown
  clear hb1
  go_wp2
  refine bodyPost_ret (v := .agg #[.bool (addK x y), .int .i64 (addQ x y).n, .int .i64 (addQ x y).d]) (by simp [results, Try.results64, go_sem, c6, c7, c8, s1, World.cell?_alloc_lt] <;> (repeat' (first | rfl | apply And.intro))) rfl ⟨rfl, ?_⟩
  have h := B1.out
  go_grown
set_option maxHeartbeats 400000 in
theorem sadd7_tf (x y : Q) (w : World) : Calls Try.prog 64 #[.agg #[.bool true, .int .i64 x.n, .int .i64 x.d], .agg #[.bool false, .int .i64 y.n, .int .i64 y.d]] w fun e w' => e = .returned (.agg #[.bool false, .int .i64 0, .int .i64 0]) ∧ Below w.heap.size w w' := by
  go_enter Try.func64, Try.ntmps64
  go_wp2
  refine bodyPost_ret (v := .agg #[.bool false, .int .i64 0, .int .i64 0]) (by simp [results, Try.results64, go_sem] <;> (repeat' (first | rfl | apply And.intro))) rfl ⟨rfl, ?_⟩
  go_grown
set_option maxHeartbeats 400000 in
theorem sadd7_f (x y : Q) (l : Bool) (w : World) : Calls Try.prog 64 #[.agg #[.bool false, .int .i64 x.n, .int .i64 x.d], .agg #[.bool l, .int .i64 y.n, .int .i64 y.d]] w fun e w' => e = .returned (.agg #[.bool false, .int .i64 0, .int .i64 0]) ∧ Below w.heap.size w w' := by
  go_enter Try.func64, Try.ntmps64
  go_wp2
  refine bodyPost_ret (v := .agg #[.bool false, .int .i64 0, .int .i64 0]) (by simp [results, Try.results64, go_sem] <;> (repeat' (first | rfl | apply And.intro))) rfl ⟨rfl, ?_⟩
  go_grown
theorem sadd7 (k : Bool) (x : Q) (l : Bool) (y : Q) (w : World) : Calls Try.prog 64 #[.agg #[.bool k, .int .i64 x.n, .int .i64 x.d], .agg #[.bool l, .int .i64 y.n, .int .i64 y.d]] w fun e w' => e = .returned (.agg #[.bool (aK k x l y), .int .i64 (aQ k x l y).n, .int .i64 (aQ k x l y).d]) ∧ Below w.heap.size w w' := by
  cases k
  · exact sadd7_f x y l w
  · cases l
    · exact sadd7_tf x y w
    · exact sadd7_tt x y w
set_option maxHeartbeats 400000 in
theorem sdiv7_t (x y : Q) (w : World) : Calls Try.prog 106 #[.agg #[.bool true, .int .i64 x.n, .int .i64 x.d], .agg #[.int .i64 y.n, .int .i64 y.d]] w fun e w' => e = .returned (.agg #[.bool (divK x y), .int .i64 (divQ x y).n, .int .i64 (divQ x y).d]) ∧ Below w.heap.size w w' := by
  unfold divK
  go_enter Try.func106, Try.ntmps106
  go_wp2_with fail
  refine (sdivq x y _).mono ?_
  rintro e w1 ⟨rfl, hb1⟩
  have s1 : w.heap.size + 1 + 1 < w1.heap.size := by have := hb1.size; simp at this; omega
  have c0 : w1.cell? ⟨w.heap.size, 0, none⟩ = some (.bool true) := (hb1.cell (p := ⟨w.heap.size, 0, none⟩) (by first | (simp; done) | (simp; omega))).trans (by go_simp)
  have c1 : w1.cell? ⟨w.heap.size, 1, none⟩ = some (.int .i64 x.n) := (hb1.cell (p := ⟨w.heap.size, 1, none⟩) (by first | (simp; done) | (simp; omega))).trans (by go_simp)
  have c2 : w1.cell? ⟨w.heap.size, 2, none⟩ = some (.int .i64 x.d) := (hb1.cell (p := ⟨w.heap.size, 2, none⟩) (by first | (simp; done) | (simp; omega))).trans (by go_simp)
  have c3 : w1.cell? ⟨w.heap.size + 1, 0, none⟩ = some (.int .i64 y.n) := (hb1.cell (p := ⟨w.heap.size + 1, 0, none⟩) (by first | (simp; done) | (simp; omega))).trans (by go_simp)
  have c4 : w1.cell? ⟨w.heap.size + 1, 1, none⟩ = some (.int .i64 y.d) := (hb1.cell (p := ⟨w.heap.size + 1, 1, none⟩) (by first | (simp; done) | (simp; omega))).trans (by go_simp)
  have c5 : w1.cell? ⟨w.heap.size + 1 + 1, 0, none⟩ = some (.bool false) := (hb1.cell (p := ⟨w.heap.size + 1 + 1, 0, none⟩) (by first | (simp; done) | (simp; omega))).trans (by go_simp)
  have c6 : w1.cell? ⟨w.heap.size + 1 + 1, 1, none⟩ = some (.int .i64 0) := (hb1.cell (p := ⟨w.heap.size + 1 + 1, 1, none⟩) (by first | (simp; done) | (simp; omega))).trans (by go_simp)
  have c7 : w1.cell? ⟨w.heap.size + 1 + 1, 2, none⟩ = some (.int .i64 0) := (hb1.cell (p := ⟨w.heap.size + 1 + 1, 2, none⟩) (by first | (simp; done) | (simp; omega))).trans (by go_simp)
  have f0 : w1.frozen? ⟨w.heap.size + 1 + 1, 0, none⟩ = false := (hb1.frozen (p := ⟨w.heap.size + 1 + 1, 0, none⟩) (by first | (simp; done) | (simp; omega))).trans (by go_simp)
  have f1 : w1.frozen? ⟨w.heap.size + 1 + 1, 1, none⟩ = false := (hb1.frozen (p := ⟨w.heap.size + 1 + 1, 1, none⟩) (by first | (simp; done) | (simp; omega))).trans (by go_simp)
  have f2 : w1.frozen? ⟨w.heap.size + 1 + 1, 2, none⟩ = false := (hb1.frozen (p := ⟨w.heap.size + 1 + 1, 2, none⟩) (by first | (simp; done) | (simp; omega))).trans (by go_simp)
  have B1 : Hid (Below w.heap.size w w1) := by refine box_step ?_ hb1 (by simp <;> omega); go_grown
  clear hb1
  go_wp2
  refine bodyPost_ret (v := .agg #[.bool (divK x y), .int .i64 (divQ x y).n, .int .i64 (divQ x y).d]) (by simp [results, Try.results106, go_sem, c5, c6, c7, s1, World.cell?_alloc_lt] <;> (repeat' (first | rfl | apply And.intro))) rfl ⟨rfl, ?_⟩
  have h := B1.out
  go_grown
set_option maxHeartbeats 400000 in
theorem sdiv7_f (x y : Q) (w : World) : Calls Try.prog 106 #[.agg #[.bool false, .int .i64 x.n, .int .i64 x.d], .agg #[.int .i64 y.n, .int .i64 y.d]] w fun e w' => e = .returned (.agg #[.bool false, .int .i64 0, .int .i64 0]) ∧ Below w.heap.size w w' := by
  go_enter Try.func106, Try.ntmps106
  go_wp2
  refine bodyPost_ret (v := .agg #[.bool false, .int .i64 0, .int .i64 0]) (by simp [results, Try.results106, go_sem] <;> (repeat' (first | rfl | apply And.intro))) rfl ⟨rfl, ?_⟩
  go_grown
theorem sdiv7 (k : Bool) (x y : Q) (w : World) : Calls Try.prog 106 #[.agg #[.bool k, .int .i64 x.n, .int .i64 x.d], .agg #[.int .i64 y.n, .int .i64 y.d]] w fun e w' => e = .returned (.agg #[.bool (dK k x y), .int .i64 (dQ k x y).n, .int .i64 (dQ k x y).d]) ∧ Below w.heap.size w w' := by
  cases k
  · exact sdiv7_f x y w
  · exact sdiv7_t x y w
set_option maxHeartbeats 1600000 in
theorem stwo (a b c d : Q) (w : World) : Calls Try.prog 117 #[.agg #[.int .i64 a.n, .int .i64 a.d], .agg #[.int .i64 b.n, .int .i64 b.d], .agg #[.int .i64 c.n, .int .i64 c.d], .agg #[.int .i64 d.n, .int .i64 d.d]] w fun e w' => e = .returned (.agg #[.bool (twK a b c d), .int .i64 (twQ a b c d).n, .int .i64 (twQ a b c d).d]) ∧ Below w.heap.size w w' := by
  obtain ⟨X, hX⟩ : ∃ X, X = ((((w.alloc (.cells #[.int .i64 a.n, .int .i64 a.d] 32)).alloc (.cells #[.int .i64 b.n, .int .i64 b.d] 32)).alloc (.cells #[.int .i64 c.n, .int .i64 c.d] 32)).alloc (.cells #[.int .i64 d.n, .int .i64 d.d] 32)) := ⟨_, rfl⟩
  have h0 : Own (w.heap.size + 1 + 1 + 1 + 1) X (w.heap.size + 1 + 1 + 1 + 1) 3 98 (X.alloc (.cells #[.bool false, .int .i64 0, .int .i64 0] 98)) := by
    have := own_made (X := X) (t := 98) #[.bool false, .int .i64 0, .int .i64 0] (Nat.le_refl _)
    rw [hX] at this ⊢
    simpa using this
  have k0_0 : ∀ W, Own (w.heap.size + 1 + 1 + 1 + 1) X (w.heap.size + 1 + 1 + 1 + 1) 3 98 W → W.cell? ⟨w.heap.size, 0, none⟩ = some (.int .i64 a.n) := fun _ h => by rw [hX] at h; exact h.old (by simp <;> omega) (cell_old (cell_old (cell_old (cell_new (by simp) rfl))))
  have k0_1 : ∀ W, Own (w.heap.size + 1 + 1 + 1 + 1) X (w.heap.size + 1 + 1 + 1 + 1) 3 98 W → W.cell? ⟨w.heap.size, 1, none⟩ = some (.int .i64 a.d) := fun _ h => by rw [hX] at h; exact h.old (by simp <;> omega) (cell_old (cell_old (cell_old (cell_new (by simp) rfl))))
  have k1_0 : ∀ W, Own (w.heap.size + 1 + 1 + 1 + 1) X (w.heap.size + 1 + 1 + 1 + 1) 3 98 W → W.cell? ⟨w.heap.size + 1, 0, none⟩ = some (.int .i64 b.n) := fun _ h => by rw [hX] at h; exact h.old (by simp <;> omega) (cell_old (cell_old (cell_new (by simp) rfl)))
  have k1_1 : ∀ W, Own (w.heap.size + 1 + 1 + 1 + 1) X (w.heap.size + 1 + 1 + 1 + 1) 3 98 W → W.cell? ⟨w.heap.size + 1, 1, none⟩ = some (.int .i64 b.d) := fun _ h => by rw [hX] at h; exact h.old (by simp <;> omega) (cell_old (cell_old (cell_new (by simp) rfl)))
  have k2_0 : ∀ W, Own (w.heap.size + 1 + 1 + 1 + 1) X (w.heap.size + 1 + 1 + 1 + 1) 3 98 W → W.cell? ⟨w.heap.size + 1 + 1, 0, none⟩ = some (.int .i64 c.n) := fun _ h => by rw [hX] at h; exact h.old (by simp <;> omega) (cell_old (cell_new (by simp) rfl))
  have k2_1 : ∀ W, Own (w.heap.size + 1 + 1 + 1 + 1) X (w.heap.size + 1 + 1 + 1 + 1) 3 98 W → W.cell? ⟨w.heap.size + 1 + 1, 1, none⟩ = some (.int .i64 c.d) := fun _ h => by rw [hX] at h; exact h.old (by simp <;> omega) (cell_old (cell_new (by simp) rfl))
  have k3_0 : ∀ W, Own (w.heap.size + 1 + 1 + 1 + 1) X (w.heap.size + 1 + 1 + 1 + 1) 3 98 W → W.cell? ⟨w.heap.size + 1 + 1 + 1, 0, none⟩ = some (.int .i64 d.n) := fun _ h => by rw [hX] at h; exact h.old (by simp <;> omega) (cell_new (by simp) rfl)
  have k3_1 : ∀ W, Own (w.heap.size + 1 + 1 + 1 + 1) X (w.heap.size + 1 + 1 + 1 + 1) 3 98 W → W.cell? ⟨w.heap.size + 1 + 1 + 1, 1, none⟩ = some (.int .i64 d.d) := fun _ h => by rw [hX] at h; exact h.old (by simp <;> omega) (cell_new (by simp) rfl)
  have g0 : ∀ W, Own (w.heap.size + 1 + 1 + 1 + 1) X (w.heap.size + 1 + 1 + 1 + 1) 3 98 W → W.cell? ⟨w.heap.size + 1 + 1 + 1 + 1, 0, none⟩ = some (got W (w.heap.size + 1 + 1 + 1 + 1) 0) := fun _ h => h.cell (by omega)
  have g1 : ∀ W, Own (w.heap.size + 1 + 1 + 1 + 1) X (w.heap.size + 1 + 1 + 1 + 1) 3 98 W → W.cell? ⟨w.heap.size + 1 + 1 + 1 + 1, 1, none⟩ = some (got W (w.heap.size + 1 + 1 + 1 + 1) 1) := fun _ h => h.cell (by omega)
  have g2 : ∀ W, Own (w.heap.size + 1 + 1 + 1 + 1) X (w.heap.size + 1 + 1 + 1 + 1) 3 98 W → W.cell? ⟨w.heap.size + 1 + 1 + 1 + 1, 2, none⟩ = some (got W (w.heap.size + 1 + 1 + 1 + 1) 2) := fun _ h => h.cell (by omega)
  have gf : ∀ W j, Own (w.heap.size + 1 + 1 + 1 + 1) X (w.heap.size + 1 + 1 + 1 + 1) 3 98 W → W.frozen? ⟨w.heap.size + 1 + 1 + 1 + 1, j, none⟩ = false := fun _ j h => h.frozen j
  have HX : Hid (Below w.heap.size w X) := by rw [hX]; exact ((((Below.refl _ _).alloc (by simp <;> omega) _).alloc (by simp <;> omega) _).alloc (by simp <;> omega) _).alloc (by simp <;> omega) _
  go_enter Try.func117, Try.ntmps117
  go_wp2_with fail
  rw [← hX]
  obtain ⟨Y, hY⟩ : ∃ Y, Y = X.alloc (.cells #[.bool false, .int .i64 0, .int .i64 0] 98) := ⟨_, rfl⟩
  rw [← hY] at h0 ⊢
  clear hX hY
  go_region_held (fun W => Own (w.heap.size + 1 + 1 + 1 + 1) X (w.heap.size + 1 + 1 + 1 + 1) 3 98 W) (first | with_reducible assumption | with_reducible exact Own.drew ‹_› | with_reducible exact Own.drewN ‹_› _ | with_reducible exact Own.set (Own.set (Own.set ‹_› _ _) _ _) _ _)
    (first | (go_at_call 62; refine (smul7 _ _ _).mono ?_; rintro e w1 ⟨rfl, hb1⟩; have hR1 := Own.call ‹_› hb1) | (go_at_call 64; refine (sadd7 _ _ _ _ _).mono ?_; rintro e w1 ⟨rfl, hb1⟩; have hR1 := Own.call ‹_› hb1))
  have c0 := g0 _ hR1
  have c1 := g1 _ hR1
  have c2 := g2 _ hR1
  clear k0_0 k0_1 k1_0 k1_1 k2_0 k2_1 k3_0 k3_1 g0 g1 g2 gf
  go_wp2
  refine bodyPost_ret (v := .agg #[.bool (twK a b c d), .int .i64 (twQ a b c d).n, .int .i64 (twQ a b c d).d]) (by simp [results, Try.results117, go_sem, c0, c1, c2] <;> (repeat' (first | rfl | apply And.intro))) rfl ⟨rfl, ?_⟩
  exact Own.out (Own.set (Own.set (Own.set hR1 0 _) 1 _) 2 _) HX.out (by omega)
set_option maxHeartbeats 1600000 in
theorem sless (k : Bool) (x : Q) (l : Bool) (y : Q) (w : World) (h1 : -1000000000 ≤ y.n) (h2 : y.n ≤ 1000000000) : Calls Try.prog 63 #[.agg #[.bool k, .int .i64 x.n, .int .i64 x.d], .agg #[.bool l, .int .i64 y.n, .int .i64 y.d]] w fun e w' => e = .returned (.agg #[.bool (leK k x l y), .int .i64 (leQ k x l y).n, .int .i64 (leQ k x l y).d]) ∧ Below w.heap.size w w' := by
  obtain ⟨X, hX⟩ : ∃ X, X = ((w.alloc (.cells #[.bool k, .int .i64 x.n, .int .i64 x.d] 98)).alloc (.cells #[.bool l, .int .i64 y.n, .int .i64 y.d] 98)) := ⟨_, rfl⟩
  have h0 : Own (w.heap.size + 1 + 1) X (w.heap.size + 1 + 1) 3 98 (X.alloc (.cells #[.bool false, .int .i64 0, .int .i64 0] 98)) := by
    have := own_made (X := X) (t := 98) #[.bool false, .int .i64 0, .int .i64 0] (Nat.le_refl _)
    rw [hX] at this ⊢
    simpa using this
  have k0_0 : ∀ W, Own (w.heap.size + 1 + 1) X (w.heap.size + 1 + 1) 3 98 W → W.cell? ⟨w.heap.size, 0, none⟩ = some (.bool k) := fun _ h => by rw [hX] at h; exact h.old (by simp <;> omega) (cell_old (cell_new (by simp) rfl))
  have k0_1 : ∀ W, Own (w.heap.size + 1 + 1) X (w.heap.size + 1 + 1) 3 98 W → W.cell? ⟨w.heap.size, 1, none⟩ = some (.int .i64 x.n) := fun _ h => by rw [hX] at h; exact h.old (by simp <;> omega) (cell_old (cell_new (by simp) rfl))
  have k0_2 : ∀ W, Own (w.heap.size + 1 + 1) X (w.heap.size + 1 + 1) 3 98 W → W.cell? ⟨w.heap.size, 2, none⟩ = some (.int .i64 x.d) := fun _ h => by rw [hX] at h; exact h.old (by simp <;> omega) (cell_old (cell_new (by simp) rfl))
  have k1_0 : ∀ W, Own (w.heap.size + 1 + 1) X (w.heap.size + 1 + 1) 3 98 W → W.cell? ⟨w.heap.size + 1, 0, none⟩ = some (.bool l) := fun _ h => by rw [hX] at h; exact h.old (by simp <;> omega) (cell_new (by simp) rfl)
  have k1_1 : ∀ W, Own (w.heap.size + 1 + 1) X (w.heap.size + 1 + 1) 3 98 W → W.cell? ⟨w.heap.size + 1, 1, none⟩ = some (.int .i64 y.n) := fun _ h => by rw [hX] at h; exact h.old (by simp <;> omega) (cell_new (by simp) rfl)
  have k1_2 : ∀ W, Own (w.heap.size + 1 + 1) X (w.heap.size + 1 + 1) 3 98 W → W.cell? ⟨w.heap.size + 1, 2, none⟩ = some (.int .i64 y.d) := fun _ h => by rw [hX] at h; exact h.old (by simp <;> omega) (cell_new (by simp) rfl)
  have g0 : ∀ W, Own (w.heap.size + 1 + 1) X (w.heap.size + 1 + 1) 3 98 W → W.cell? ⟨w.heap.size + 1 + 1, 0, none⟩ = some (got W (w.heap.size + 1 + 1) 0) := fun _ h => h.cell (by omega)
  have g1 : ∀ W, Own (w.heap.size + 1 + 1) X (w.heap.size + 1 + 1) 3 98 W → W.cell? ⟨w.heap.size + 1 + 1, 1, none⟩ = some (got W (w.heap.size + 1 + 1) 1) := fun _ h => h.cell (by omega)
  have g2 : ∀ W, Own (w.heap.size + 1 + 1) X (w.heap.size + 1 + 1) 3 98 W → W.cell? ⟨w.heap.size + 1 + 1, 2, none⟩ = some (got W (w.heap.size + 1 + 1) 2) := fun _ h => h.cell (by omega)
  have gf : ∀ W j, Own (w.heap.size + 1 + 1) X (w.heap.size + 1 + 1) 3 98 W → W.frozen? ⟨w.heap.size + 1 + 1, j, none⟩ = false := fun _ j h => h.frozen j
  have HX : Hid (Below w.heap.size w X) := by rw [hX]; exact ((Below.refl _ _).alloc (by simp <;> omega) _).alloc (by simp <;> omega) _
  go_enter Try.func63, Try.ntmps63
  go_wp2_with fail
  rw [← hX]
  obtain ⟨Y, hY⟩ : ∃ Y, Y = X.alloc (.cells #[.bool false, .int .i64 0, .int .i64 0] 98) := ⟨_, rfl⟩
  rw [← hY] at h0 ⊢
  clear hX hY
  go_region_held (fun W => Own (w.heap.size + 1 + 1) X (w.heap.size + 1 + 1) 3 98 W) (first | with_reducible assumption | with_reducible exact Own.drew ‹_› | with_reducible exact Own.drewN ‹_› _ | with_reducible exact Own.set (Own.set (Own.set ‹_› _ _) _ _) _ _)
    (first | (go_at_call 108; refine (sneg _ _ (by omega) (by omega)).mono ?_; rintro e w1 ⟨rfl, hb1⟩; have hR1 := Own.call ‹_› hb1) | (go_at_call 64; refine (sadd7 _ _ _ _ _).mono ?_; rintro e w1 ⟨rfl, hb1⟩; have hR1 := Own.call ‹_› hb1))
  have c0 := g0 _ hR1
  have c1 := g1 _ hR1
  have c2 := g2 _ hR1
  clear k0_0 k0_1 k0_2 k1_0 k1_1 k1_2 g0 g1 g2 gf
  go_wp2
  refine bodyPost_ret (v := .agg #[.bool (leK k x l y), .int .i64 (leQ k x l y).n, .int .i64 (leQ k x l y).d]) (by simp [results, Try.results63, go_sem, c0, c1, c2] <;> (repeat' (first | rfl | apply And.intro))) rfl ⟨rfl, ?_⟩
  exact Own.out (Own.set (Own.set (Own.set hR1 0 _) 1 _) 2 _) HX.out (by omega)
end Go.Proofs.Ytkkajcdjkfbcgaa
