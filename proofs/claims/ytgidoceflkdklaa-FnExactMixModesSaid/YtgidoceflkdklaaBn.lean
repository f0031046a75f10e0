/- Phases of a lens: both packages. -/
import Derived.Test.YtgidoceflkdklaaCs
namespace Go.Proofs.Ytgidoceflkdklaa
open Go.RowKit Fl
set_option linter.unusedVariables false
set_option linter.unusedSimpArgs false
theorem tmod_mod (a : Int) {n : Int} (hn : 0 < n) : (if a.tmod n < 0 then a.tmod n + n else a.tmod n) = a % n := by
  have h1 := Int.emod_nonneg a (show n ≠ 0 by omega)
  have h2 := Int.emod_lt_of_pos a hn
  rw [Int.tmod_eq_emod]
  split <;> split <;> omega
theorem tmod_lo (a : Int) {n : Int} (hn : 0 < n) : -n < a.tmod n := by
  have h1 := Int.emod_nonneg a (show n ≠ 0 by omega)
  have h2 := Int.emod_lt_of_pos a hn
  rw [Int.tmod_eq_emod]
  split <;> omega
theorem tmod_hi (a : Int) {n : Int} (hn : 0 < n) : a.tmod n < n := by
  have h1 := Int.emod_nonneg a (show n ≠ 0 by omega)
  have h2 := Int.emod_lt_of_pos a hn
  rw [Int.tmod_eq_emod]
  split <;> omega
theorem modulo_any (a n : Int) (hn : 0 < n) (hn2 : n ≤ 9223372036854775807) (w : World) : Calls Try.prog 89 #[.int .i64 a, .int .i64 n] w fun e w' => e = .returned (.int .i64 (a % n)) ∧ w = w' := by
  have h1 := tmod_lo a hn
  have h2 := tmod_hi a hn
  have h3 : (n == 0) = false := by rw [beq_eq_false_iff_ne]; omega
  rw [← tmod_mod a hn]
  by_cases h : a.tmod n < 0
  · rw [if_pos h]
    go_enter Try.func89, Try.ntmps89
    go_wp2
    go_ret
    exact ⟨rfl, rfl⟩
  · rw [if_neg h]
    go_enter Try.func89, Try.ntmps89
    go_wp2
    go_ret
    exact ⟨rfl, rfl⟩
/-- What is left of a number by a turn. -/
def tm (p : Int) : Int := p % 1048576
theorem tm_bd (p : Int) : 0 ≤ tm p ∧ tm p < 1048576 := by unfold tm; omega
theorem modT_any (a : Int) (w : World) : Calls Try.prog 89 #[.int .i64 a, .int .i64 1048576] w fun e w' => e = .returned (.int .i64 (tm a)) ∧ w = w' := modulo_any a 1048576 (by decide) (by decide) w
theorem tm_two (p : Int) : (p.tmod 1048576 + 1048576).tmod 1048576 = tm p := by
  have h1 := tmod_lo p (show (0 : Int) < 1048576 by decide)
  have h2 := tmod_mod p (show (0 : Int) < 1048576 by decide)
  unfold tm
  rw [Int.tmod_eq_emod_of_nonneg (by omega)]
  rw [← h2]
  have h3 := tmod_hi p (show (0 : Int) < 1048576 by decide)
  split <;> omega
theorem l12Turn_any (p : Int) (w : World) : Calls Try.prog 70 #[.int .i64 p] w fun e w' => e = .returned (.int .i64 (tm p)) ∧ w = w' := by
  have h1 := tmod_lo p (show (0 : Int) < 1048576 by decide)
  have h2 := tmod_hi p (show (0 : Int) < 1048576 by decide)
  have h3 := tm_two p
  obtain ⟨q, hq⟩ : ∃ q, q = p.tmod 1048576 := ⟨_, rfl⟩
  rw [← hq] at h1 h2 h3
  have h0 : (0 : Int) ≤ q + 1048576 := by omega
  have h4 : (q + 1048576) % 1048576 = tm p := by rw [← h3, Int.tmod_eq_emod_of_nonneg h0]
  have hq' := hq.symm
  clear hq
  go_enter Try.func70, Try.ntmps70
  go_wp2
  go_ret
  exact ⟨rfl, rfl⟩
/-- The phase at a distance d. -/
def sqP (p d : Int) : Int := tm p * (d * d) % 1048576
theorem sqP_bd (p d : Int) : 0 ≤ sqP p d ∧ sqP p d < 1048576 := by unfold sqP; omega
theorem mul_bd {a d A D : Int} (h0 : -A ≤ a) (h1 : a ≤ A) (h2 : -D ≤ d) (h3 : d ≤ D) : -(A * D) ≤ a * d ∧ a * d ≤ A * D := by
  have hA : 0 ≤ A := by omega
  have hD : 0 ≤ D := by omega
  have k1 : a.natAbs ≤ A.natAbs := by omega
  have k2 : d.natAbs ≤ D.natAbs := by omega
  have k3 : (a * d).natAbs ≤ (A * D).natAbs := by rw [Int.natAbs_mul, Int.natAbs_mul]; exact Nat.mul_le_mul k1 k2
  have k4 : 0 ≤ A * D := Int.mul_nonneg hA hD
  omega
theorem sq_nn (d : Int) : 0 ≤ d * d := by
  rcases Int.le_total 0 d with h | h
  · exact Int.mul_nonneg h h
  · exact Int.mul_nonneg_of_nonpos_of_nonpos h h
set_option maxHeartbeats 1600000 in
theorem iSq_any (p d : Int) (h0 : -1024 ≤ d) (h1 : d ≤ 1024) (w : World) : Calls Try.prog 72 #[.int .i64 p, .int .i64 d] w fun e w' => e = .returned (.int .i64 (sqP p d)) ∧ w = w' := by
  have e : sqP p d = (tm p * d * d).tmod 1048576 := by
    unfold sqP
    rw [Int.tmod_eq_emod_of_nonneg (by rw [Int.mul_assoc]; exact Int.mul_nonneg (tm_bd p).1 (sq_nn d)), Int.mul_assoc]
  obtain ⟨ta, tb⟩ := tm_bd p
  obtain ⟨q1, hq1⟩ : ∃ q, q = tm p * d := ⟨_, rfl⟩
  obtain ⟨q2, hq2⟩ : ∃ q, q = tm p * d * d := ⟨_, rfl⟩
  have b1 := mul_bd (a := tm p) (d := d) (A := 1048576) (D := 1024) (by omega) (by omega) h0 h1
  rw [← hq1] at b1
  have b2 := mul_bd (a := q1) (d := d) (A := 1048576 * 1024) (D := 1024) (by omega) (by omega) h0 h1
  rw [show q1 * d = q2 by rw [hq2, hq1]] at b2
  have n2 : 0 ≤ q2 := by rw [hq2, Int.mul_assoc]; exact Int.mul_nonneg ta (sq_nn d)
  rw [← hq2] at e
  have e2 : q2 % 1048576 = sqP p d := by rw [e, Int.tmod_eq_emod_of_nonneg n2]
  have e1 : q2.tmod 1048576 = sqP p d := e.symm
  have r1 : tm p * d = q1 := hq1.symm
  have r2 : q1 * d = q2 := by rw [hq2, hq1]
  clear e hq1 hq2
  generalize sqP p d = R at *
  go_enter Try.func72, Try.ntmps72
  go_wp2_with (first | (go_at_call 89; refine (modT_any _ _).mono ?_; rintro e w1 ⟨rfl, rfl⟩))
  go_ret
  exact ⟨rfl, rfl⟩
/-- What is answered: a list of numbers in memory of its own. -/
def LI (fn : FuncId) (args : Array Value) (w : World) (n : Nat) (F : Nat → Int) : Prop :=
  Calls Try.prog fn args w fun e w' => ∃ v, e = .returned v ∧ OwS 2 w.heap.size w'.heap.size w' v n (fun i => .int .i64 (F i)) ∧ Below w.heap.size w w'
set_option maxHeartbeats 1600000 in
theorem sBent_bad (n p : Int) (h : n < 1 ∨ 1024 < n) (w : World) : LI 37 #[.int .i64 n, .int .i64 p] w 0 (fun _ => 0) := by
  unfold LI
  go_enter Try.func37, Try.ntmps37
  by_cases h1 : n < 1
  · go_wp2
    go_ret
    exact ⟨_, rfl, Or.inl ⟨rfl, rfl⟩, Below.refl _ _⟩
  by_cases h2 : 1024 < n
  · go_wp2
    go_ret
    exact ⟨_, rfl, Or.inl ⟨rfl, rfl⟩, Below.refl _ _⟩
  omega
set_option maxHeartbeats 1600000 in
theorem iBent_bad (n p : Int) (h : n < 1 ∨ 1024 < n) (w : World) : LI 38 #[.int .i64 n, .int .i64 p] w 0 (fun _ => 0) := by
  unfold LI
  go_enter Try.func38, Try.ntmps38
  by_cases h1 : n < 1
  · go_wp2
    go_ret
    exact ⟨_, rfl, Or.inl ⟨rfl, rfl⟩, Below.refl _ _⟩
  by_cases h2 : 1024 < n
  · go_wp2
    go_ret
    exact ⟨_, rfl, Or.inl ⟨rfl, rfl⟩, Below.refl _ _⟩
  omega
set_option maxRecDepth 20000 in
set_option maxHeartbeats 3200000 in
theorem iBent_good (n : Nat) (p : Int) (h1 : 1 ≤ n) (h2 : n ≤ 1024) (w : World) : LI 38 #[.int .i64 n, .int .i64 p] w n (fun i => sqP p ((i : Int) - (n : Int) / 2)) := by
  unfold LI
  have hmk := run_make_row' (P := Try.prog) 26 2 (.int .i64 0) 8 Try.underlying26 info2 rfl .i64 .i64 n (by omega) (by omega)
  go_enter Try.func38, Try.ntmps38
  go_wp2_with fail
  clear hmk
  go_loopw [16] (fun i wr => ∃ k : Nat, k ≤ n ∧ i = .int .i64 k ∧ Seg wr w.heap.size 2 0 n (fun j => if j < k then .int .i64 (sqP p ((j : Int) - (n : Int) / 2)) else .int .i64 0) ∧ Below w.heap.size w wr ∧ wr.heap.size = w.heap.size + 1) (fun i _ => n - (intOf i).toNat)
  case atStart => exact ⟨0, Nat.zero_le _, rfl, (seg_made w _ n 2).congr (fun j _ => by simp), (Below.refl _ _).alloc (Nat.le_refl _) _, by simp⟩
  case round =>
    obtain ⟨k, hk, rfl, hs, hb, hz⟩ := hrel
    by_cases hkn : k < n
    · have g2 : wr.cell? ⟨w.heap.size, k, none⟩ = some (.int .i64 0) := by simpa using hs.cell hkn
      have g3 : wr.frozen? ⟨w.heap.size, k, none⟩ = false := hs.frozen k
      have HS : Hid (Seg wr w.heap.size 2 0 n (fun j => if j < k then .int .i64 (sqP p ((j : Int) - (n : Int) / 2)) else .int .i64 0) ∧ Below w.heap.size w wr ∧ wr.heap.size = w.heap.size + 1) := ⟨hs, hb, hz⟩
      have CQ : Hid (∀ w, Calls Try.prog 72 #[.int .i64 p, .int .i64 ((k : Int) - (n : Int) / 2)] w fun e w' => e = .returned (.int .i64 (sqP p ((k : Int) - (n : Int) / 2))) ∧ w = w') := fun w => iSq_any p _ (by omega) (by omega) w
      obtain ⟨R, hR⟩ : ∃ R, R = sqP p ((k : Int) - (n : Int) / 2) := ⟨_, rfl⟩
      rw [← hR] at CQ
      have HR : Hid (R = sqP p ((k : Int) - (n : Int) / 2)) := hR
      clear hs hb hz hR
      go_wp2_with (first | (go_at_call 72; refine (CQ.out _).mono ?_; rintro e w1 ⟨rfl, rfl⟩))
      go_roundw
      case rel =>
        obtain ⟨hs, hb, hz⟩ := HS.out
        refine ⟨k + 1, by omega, by simp, ?_, hb.setCell (Nat.le_refl _) _, by simpa using hz⟩
        have := hs.set k hkn (.int .i64 R)
        rw [Nat.zero_add] at this
        refine this.congr fun j hj => ?_
        by_cases e : j = k
        · subst e; simp [HR.out]
        · by_cases e2 : j < k
          · simp [e, e2, Nat.lt_succ_of_lt e2]
          · simp [e, e2]; intro h; omega
      case measure => simp [intOf]; omega
    · obtain rfl : k = n := by omega
      go_wp2
      go_ret
      exact ⟨_, rfl, Or.inr ⟨_, _, rfl, Nat.le_refl _, by omega, hs.congr fun j hj => by simp [hj]⟩, hb⟩
set_option maxRecDepth 20000 in
set_option maxHeartbeats 3200000 in
theorem sBent_good (n : Nat) (p : Int) (h1 : 1 ≤ n) (h2 : n ≤ 1024) (w : World) : LI 37 #[.int .i64 n, .int .i64 p] w n (fun i => sqP p ((i : Int) - (n : Int) / 2)) := by
  unfold LI
  go_enter Try.func37, Try.ntmps37
  go_wp2_with fail
  go_loopw [5, 6] (fun v i wr => ∃ k : Nat, k ≤ n ∧ i = .int .i64 k ∧ Hid (wr.ownsRow w.heap.size 2 1 v k (il (fun i => sqP p ((i : Int) - (n : Int) / 2)) k) ∧ Below w.heap.size w wr)) (fun _ i _ => n - (intOf i).toNat)
  case atStart => exact ⟨0, Nat.zero_le _, rfl, owns_empty w 2 1, (Below.refl _ _).alloc (Nat.le_refl _) _⟩
  case round =>
    obtain ⟨k, hk, rfl, HB⟩ := hrel
    by_cases hkn : k < n
    · obtain ⟨d, hd⟩ : ∃ d, d = (k : Int) - (n : Int) / 2 := ⟨_, rfl⟩
      have hd0 : -1024 ≤ d := by omega
      have hd1 : d ≤ 1024 := by omega
      have hdI : (k : Int) - (n : Int) / 2 = d := hd.symm
      obtain ⟨D, hD⟩ : ∃ D, D = d * d := ⟨_, rfl⟩
      have hDI : d * d = D := hD.symm
      have D0 : 0 ≤ D := by rw [hD]; exact sq_nn d
      have D1 : D ≤ 1048576 := by rw [hD]; exact (mul_bd (A := 1024) (D := 1024) hd0 hd1 hd0 hd1).2
      obtain ⟨E, hE⟩ : ∃ E, E = tm p * D := ⟨_, rfl⟩
      have E0 : 0 ≤ E := by rw [hE]; exact Int.mul_nonneg (tm_bd p).1 D0
      have E1 : E ≤ 1048576 * 1048576 := by rw [hE]; have := tm_bd p; exact (mul_bd (A := 1048576) (D := 1048576) (by omega) (by omega) (by omega) D1).2
      have hEI : tm p * D = E := hE.symm
      obtain ⟨R, hR⟩ : ∃ R, R = sqP p d := ⟨_, rfl⟩
      have hRI : E % 1048576 = R := by rw [hR, hE, hD]; rfl
      have hRt : E.tmod 1048576 = R := by rw [Int.tmod_eq_emod_of_nonneg E0]; exact hRI
      have HR : Hid (R = sqP p ((k : Int) - (n : Int) / 2)) := by rw [hR, hd]; rfl
      have O1 : Hid (wr.ownsRow w.heap.size 2 1 u5 k (il (fun i => sqP p ((i : Int) - (n : Int) / 2)) k)) := HB.out.1
      have z1 : w.heap.size ≤ wr.heap.size := HB.out.2.size
      have hk9 : k ≤ 1000000000 := by omega
      clear hd hD hE hR
      go_wp2_with (first | (go_at_call 70; refine (l12Turn_any _ _).mono ?_; rintro e w1 ⟨rfl, rfl⟩) | (at_builtin; refine push_law rfl (.tmp 24) (.tmp 32) 26 rfl 2 (.int .i64 0) 1 8 Try.underlying26 info2 rfl (by decide) (by decide) wr [.int .i64 R] rfl (by intro u hu; simp at hu; subst hu; rfl) w.heap.size u5 k _ rfl O1.out 1 rfl hk9 z1 ?_; intro v1 w3 own3 grow3 _))
      have HN : Hid (w3.ownsRow w.heap.size 2 1 v1 (k + 1) (il (fun i => sqP p ((i : Int) - (n : Int) / 2)) (k + 1)) ∧ Below w.heap.size w w3) := by
        refine ⟨?_, push_below O1.out grow3 HB.out.2 z1⟩
        rw [← il_push]
        show w3.ownsRow w.heap.size 2 1 v1 (k + 1) (il _ k ++ [.int .i64 (sqP p ((k : Int) - (n : Int) / 2))])
        rw [← HR.out]
        exact own3
      clear own3 grow3 HB O1 z1
      go_wp2
      go_roundw
      case rel => exact ⟨k + 1, by omega, by simp, HN⟩
      case measure => simp [intOf]; omega
    · obtain rfl : k = n := by omega
      go_wp2
      go_ret
      exact ⟨_, rfl, owned_il HB.out.1, HB.out.2⟩
end Go.Proofs.Ytgidoceflkdklaa
