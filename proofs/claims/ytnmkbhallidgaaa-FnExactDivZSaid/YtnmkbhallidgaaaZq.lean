/- Complex quotients: contracts of the specification's and the program's. -/
import Derived.Test.YtnmkbhallidgaaaZd
import Derived.Deep.RegionHeld3
import Derived.Deep.DeepCutAuto
namespace Go.Proofs.Ytnmkbhallidgaaa
open Go.RowKit Fl
set_option linter.unusedVariables false
/-- The quotient of classes. -/
def divK (p q : Option Nat × Option Nat) : Option Nat × Option Nat := match p.1, p.2, q.1, q.2 with
  | some a, some b, some c, some d => quoC a b c d
  | _, _, _, _ => (none, none)
theorem divK_num {a b c d : Nat} (na : Num a) (nb : Num b) (nc : Num c) (nd : Num d) : divK (cl a, cl b) (cl c, cl d) = quoC a b c d := by
  unfold divK
  rw [cl_num na, cl_num nb, cl_num nc, cl_num nd]
theorem divK_nan {a b c d : Nat} (h : ¬ Num a ∨ ¬ Num b ∨ ¬ Num c ∨ ¬ Num d) : divK (cl a, cl b) (cl c, cl d) = (none, none) := by
  unfold divK
  rcases h with h | h | h | h <;> rw [cl_nan h]
  · cases cl a <;> rfl
  · cases cl a <;> cases cl b <;> rfl
  · cases cl a <;> cases cl b <;> cases cl c <;> rfl
theorem mNaN_any (w : World) : Calls Try.prog 73 #[] w fun e w' => e = .returned (.float .f64 9221120237041090561) ∧ w = w' := by
  have h : ∀ w, (callFunc 90 #[.int .u64 9221120237041090561]).run Try.prog w = .ok (.value (.float .f64 9221120237041090561)) w := bits50 9221120237041090561
  go_enter Try.func73, Try.ntmps73
  go_wp2
  go_ret
  exact ⟨rfl, rfl⟩
theorem inan_t {x : Nat} (hx : W64 x) (n : ¬ Num x) : Says 72 x true := fun w => by
  have := isNaN_any hx w
  rw [decide_eq_true n] at this
  exact this
theorem inan_f {x : Nat} (hx : W64 x) (n : Num x) : Says 72 x false := fun w => by
  have := isNaN_any hx w
  rw [decide_eq_false (by simpa using n)] at this
  exact this
theorem cquo_fun {a b c d : Nat} (ha : W64 a) (hb : W64 b) (hc : W64 c) (hd : W64 d) (na : Num a) (nb : Num b) (nc : Num c) (nd : Num d) : ∃ E F n : World → Nat, (∀ t w, (binOp .quo t (.complex .f64 a b) (.complex .f64 c d)).run Try.prog w = .ok (.complex .f64 (E w) (F w)) (w.drewN (n w))) ∧
    (∀ w, Zc (E w) (F w) (quoC a b c d)) := by
  have g := fun w => cquo_step (P := Try.prog) 0 ha hb hc hd na nb nc nd w
  refine ⟨fun w => (g w).choose, fun w => (g w).choose_spec.choose, fun w => (g w).choose_spec.choose_spec.choose, fun t w => ?_, fun w => ?_⟩
  · exact (g w).choose_spec.choose_spec.choose_spec.1
  · obtain ⟨_, h1, h2, h3⟩ := (g w).choose_spec.choose_spec.choose_spec
    exact ⟨h1, h2, h3⟩
set_option maxHeartbeats 800000 in
theorem iDiv_nan0 {a b c d : Nat} (Na : Says 72 a true) (w : World) : ZV 28 #[Zv a b, Zv c d] w (none, none) := by
  unfold ZV
  have hst := st64
  have Ha : Hid (Says 72 a true) := Na
  clear Na
  go_enter Try.func28, Try.ntmps28
  go_wp2_with (first | (go_at_call_of 72 (Value.float FloatKind.f64 a); refine (Ha.out _).mono ?_; rintro e w1 ⟨rfl, rfl⟩) | (go_at_call 73; refine (mNaN_any _).mono ?_; rintro e w1 ⟨rfl, rfl⟩))
  refine bodyPost_ret (v := Zv _ _) (by (simp [results, Try.results28, go_sem]); exact ⟨rfl, rfl⟩) rfl ⟨_, _, rfl, ⟨by omega, by omega, by decide⟩, ?_⟩
  go_grown
set_option maxHeartbeats 800000 in
theorem iDiv_nan1 {a b c d : Nat} (Na : Says 72 a false) (Nb : Says 72 b true) (w : World) : ZV 28 #[Zv a b, Zv c d] w (none, none) := by
  unfold ZV
  have hst := st64
  have Ha : Hid (Says 72 a false) := Na
  clear Na
  have Hb : Hid (Says 72 b true) := Nb
  clear Nb
  go_enter Try.func28, Try.ntmps28
  go_wp2_with (first | (go_at_call_of 72 (Value.float FloatKind.f64 a); refine (Ha.out _).mono ?_; rintro e w1 ⟨rfl, rfl⟩) | (go_at_call_of 72 (Value.float FloatKind.f64 b); refine (Hb.out _).mono ?_; rintro e w1 ⟨rfl, rfl⟩) | (go_at_call 73; refine (mNaN_any _).mono ?_; rintro e w1 ⟨rfl, rfl⟩))
  refine bodyPost_ret (v := Zv _ _) (by (simp [results, Try.results28, go_sem]); exact ⟨rfl, rfl⟩) rfl ⟨_, _, rfl, ⟨by omega, by omega, by decide⟩, ?_⟩
  go_grown
set_option maxHeartbeats 800000 in
theorem iDiv_nan2 {a b c d : Nat} (Na : Says 72 a false) (Nb : Says 72 b false) (Nc : Says 72 c true) (w : World) : ZV 28 #[Zv a b, Zv c d] w (none, none) := by
  unfold ZV
  have hst := st64
  have Ha : Hid (Says 72 a false) := Na
  clear Na
  have Hb : Hid (Says 72 b false) := Nb
  clear Nb
  have Hc : Hid (Says 72 c true) := Nc
  clear Nc
  go_enter Try.func28, Try.ntmps28
  go_wp2_with (first | (go_at_call_of 72 (Value.float FloatKind.f64 a); refine (Ha.out _).mono ?_; rintro e w1 ⟨rfl, rfl⟩) | (go_at_call_of 72 (Value.float FloatKind.f64 b); refine (Hb.out _).mono ?_; rintro e w1 ⟨rfl, rfl⟩) | (go_at_call_of 72 (Value.float FloatKind.f64 c); refine (Hc.out _).mono ?_; rintro e w1 ⟨rfl, rfl⟩) | (go_at_call 73; refine (mNaN_any _).mono ?_; rintro e w1 ⟨rfl, rfl⟩))
  refine bodyPost_ret (v := Zv _ _) (by (simp [results, Try.results28, go_sem]); exact ⟨rfl, rfl⟩) rfl ⟨_, _, rfl, ⟨by omega, by omega, by decide⟩, ?_⟩
  go_grown
set_option maxHeartbeats 800000 in
theorem iDiv_nan3 {a b c d : Nat} (Na : Says 72 a false) (Nb : Says 72 b false) (Nc : Says 72 c false) (Nd : Says 72 d true) (w : World) : ZV 28 #[Zv a b, Zv c d] w (none, none) := by
  unfold ZV
  have hst := st64
  have Ha : Hid (Says 72 a false) := Na
  clear Na
  have Hb : Hid (Says 72 b false) := Nb
  clear Nb
  have Hc : Hid (Says 72 c false) := Nc
  clear Nc
  have Hd : Hid (Says 72 d true) := Nd
  clear Nd
  go_enter Try.func28, Try.ntmps28
  go_wp2_with (first | (go_at_call_of 72 (Value.float FloatKind.f64 a); refine (Ha.out _).mono ?_; rintro e w1 ⟨rfl, rfl⟩) | (go_at_call_of 72 (Value.float FloatKind.f64 b); refine (Hb.out _).mono ?_; rintro e w1 ⟨rfl, rfl⟩) | (go_at_call_of 72 (Value.float FloatKind.f64 c); refine (Hc.out _).mono ?_; rintro e w1 ⟨rfl, rfl⟩) | (go_at_call_of 72 (Value.float FloatKind.f64 d); refine (Hd.out _).mono ?_; rintro e w1 ⟨rfl, rfl⟩) | (go_at_call 73; refine (mNaN_any _).mono ?_; rintro e w1 ⟨rfl, rfl⟩))
  refine bodyPost_ret (v := Zv _ _) (by (simp [results, Try.results28, go_sem]); exact ⟨rfl, rfl⟩) rfl ⟨_, _, rfl, ⟨by omega, by omega, by decide⟩, ?_⟩
  go_grown
set_option maxHeartbeats 1600000 in
theorem iDiv_num {a b c d : Nat} (ha : W64 a) (hb : W64 b) (hc : W64 c) (hd : W64 d) (na : Num a) (nb : Num b) (nc : Num c) (nd : Num d) (w : World) : ZV 28 #[Zv a b, Zv c d] w (quoC a b c d) := by
  obtain ⟨E, F, n, hop, HC⟩ := cquo_fun ha hb hc hd na nb nc nd
  have Ha : Hid (Says 72 a false) := inan_f ha na
  have Hb : Hid (Says 72 b false) := inan_f hb nb
  have Hc : Hid (Says 72 c false) := inan_f hc nc
  have Hd : Hid (Says 72 d false) := inan_f hd nd
  clear ha hb hc hd na nb nc nd
  unfold ZV
  have hst := st64
  obtain ⟨X, hX⟩ : ∃ X, X = ((w.alloc (.cells #[.float .f64 a, .float .f64 b] 28)).alloc (.cells #[.float .f64 c, .float .f64 d] 28)) := ⟨_, rfl⟩
  have h0 : Own (w.heap.size + 1 + 1) X (w.heap.size + 1 + 1) 2 28 (X.alloc (.cells #[.float .f64 0, .float .f64 0] 28)) := by
    have := own_made (X := X) (t := 28) #[.float .f64 0, .float .f64 0] (Nat.le_refl _)
    rw [hX] at this ⊢
    simpa using this
  have k0_0 : ∀ W, Own (w.heap.size + 1 + 1) X (w.heap.size + 1 + 1) 2 28 W → W.cell? ⟨w.heap.size, 0, none⟩ = some (.float .f64 a) := fun _ h => by rw [hX] at h; exact h.old (by simp <;> omega) (by simp)
  have k0_1 : ∀ W, Own (w.heap.size + 1 + 1) X (w.heap.size + 1 + 1) 2 28 W → W.cell? ⟨w.heap.size, 1, none⟩ = some (.float .f64 b) := fun _ h => by rw [hX] at h; exact h.old (by simp <;> omega) (by simp)
  have k1_0 : ∀ W, Own (w.heap.size + 1 + 1) X (w.heap.size + 1 + 1) 2 28 W → W.cell? ⟨w.heap.size + 1, 0, none⟩ = some (.float .f64 c) := fun _ h => by rw [hX] at h; exact h.old (by simp <;> omega) (by simp)
  have k1_1 : ∀ W, Own (w.heap.size + 1 + 1) X (w.heap.size + 1 + 1) 2 28 W → W.cell? ⟨w.heap.size + 1, 1, none⟩ = some (.float .f64 d) := fun _ h => by rw [hX] at h; exact h.old (by simp <;> omega) (by simp)
  have g0 : ∀ W, Own (w.heap.size + 1 + 1) X (w.heap.size + 1 + 1) 2 28 W → W.cell? ⟨w.heap.size + 1 + 1, 0, none⟩ = some (got W (w.heap.size + 1 + 1) 0) := fun _ h => h.cell (by omega)
  have g1 : ∀ W, Own (w.heap.size + 1 + 1) X (w.heap.size + 1 + 1) 2 28 W → W.cell? ⟨w.heap.size + 1 + 1, 1, none⟩ = some (got W (w.heap.size + 1 + 1) 1) := fun _ h => h.cell (by omega)
  have gf : ∀ W j, Own (w.heap.size + 1 + 1) X (w.heap.size + 1 + 1) 2 28 W → W.frozen? ⟨w.heap.size + 1 + 1, j, none⟩ = false := fun _ j h => h.frozen j
  have HX : Hid (Below w.heap.size w X) := by rw [hX]; exact ((Below.refl _ _).alloc (by simp <;> omega) _).alloc (by simp <;> omega) _
  go_enter Try.func28, Try.ntmps28
  go_wp2_with (first | (go_at_call_of 72 (Value.float FloatKind.f64 a); refine (Ha.out _).mono ?_; rintro e w1 ⟨rfl, rfl⟩) | (go_at_call_of 72 (Value.float FloatKind.f64 b); refine (Hb.out _).mono ?_; rintro e w1 ⟨rfl, rfl⟩) | (go_at_call_of 72 (Value.float FloatKind.f64 c); refine (Hc.out _).mono ?_; rintro e w1 ⟨rfl, rfl⟩) | (go_at_call_of 72 (Value.float FloatKind.f64 d); refine (Hd.out _).mono ?_; rintro e w1 ⟨rfl, rfl⟩))
  rw [← hX]
  obtain ⟨Y, hY⟩ : ∃ Y, Y = X.alloc (.cells #[.float .f64 0, .float .f64 0] 28) := ⟨_, rfl⟩
  rw [← hY] at h0 ⊢
  clear hX hY
  go_region_held (fun W => Own (w.heap.size + 1 + 1) X (w.heap.size + 1 + 1) 2 28 W) (first | assumption | exact Own.drew ‹_› | exact Own.drewN ‹_› _ | exact Own.set (Own.set ‹_› _ _) _ _)
    (first | (go_at_call 62; refine (complexOf_any _ _ _).mono ?_; rintro e w1 ⟨rfl, hb1⟩; have hR1 := Own.call ‹_› hb1) | (go_at_call 63; refine (zOf_any _ _ _).mono ?_; rintro e w1 ⟨rfl, hb1⟩; have hR1 := Own.call ‹_› hb1))
  have c0 := g0 _ hR1
  have c1 := g1 _ hR1
  clear k0_0 k0_1 k1_0 k1_1 g0 g1 gf 
  go_wp2
  refine bodyPost_ret (v := Zv _ _) (by (simp [results, Try.results28, go_sem, c0, c1]); exact ⟨rfl, rfl⟩) rfl ⟨_, _, rfl, HC _, Own.out (by assumption) HX.out (by omega)⟩
theorem iDiv_any {a b c d : Nat} {p q : Option Nat × Option Nat} (h : Zc a b p) (k : Zc c d q) (w : World) : ZV 28 #[Zv a b, Zv c d] w (divK p q) := by
  obtain ⟨ha, hb, e1⟩ := h
  obtain ⟨hc, hd, e2⟩ := k
  subst e1
  subst e2
  by_cases na : Num a
  · by_cases nb : Num b
    · by_cases nc : Num c
      · by_cases nd : Num d
        · rw [divK_num na nb nc nd]; exact iDiv_num ha hb hc hd na nb nc nd w
        · rw [divK_nan (by simp [nd])]; exact iDiv_nan3 (inan_f ha na) (inan_f hb nb) (inan_f hc nc) (inan_t hd nd) w
      · rw [divK_nan (by simp [nc])]; exact iDiv_nan2 (inan_f ha na) (inan_f hb nb) (inan_t hc nc) w
    · rw [divK_nan (by simp [nb])]; exact iDiv_nan1 (inan_f ha na) (inan_t hb nb) w
  · rw [divK_nan (by simp [na])]; exact iDiv_nan0 (inan_t ha na) w
end Go.Proofs.Ytnmkbhallidgaaa
