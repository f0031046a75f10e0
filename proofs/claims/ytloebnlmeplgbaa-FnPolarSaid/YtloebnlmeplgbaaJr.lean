/- Whole roots of the specification; the light that the program takes to be the one. -/
import Derived.Test.YtloebnlmeplgbaaJm
import Derived.Handy
namespace Go.Proofs.Ytloebnlmeplgbaa
open Go.RowKit
set_option linter.unusedVariables false
set_option linter.unusedSimpArgs false
theorem half_of {x : Int} (h0 : 0 ≤ x) : x.tdiv 2 = x / 2 := Int.tdiv_eq_ediv_of_nonneg h0
set_option maxHeartbeats 1600000 in
theorem sroot (n : Int) (h0 : 0 ≤ n) (hn : n ≤ 2000000000) (w : World) : Calls Try.prog 75 #[.int .i64 n] w fun e w' => ∃ x : Int, e = .returned (.int .i64 x) ∧ ((0 ≤ x ∧ x ≤ 100000 ∧ x * x = n) ∨ (x = -1 ∧ ∀ r : Int, 0 ≤ r → r * r ≠ n)) ∧ Below w.heap.size w w' := by
  have HN : Hid (0 ≤ n ∧ n ≤ 2000000000) := ⟨h0, hn⟩
  clear h0 hn
  go_enter Try.func75, Try.ntmps75
  go_wp2_with fail
  go_loopw [3, 4] (fun a b wr => wr = w ∧ ∃ lo hi : Int, a = .int .i64 lo ∧ b = .int .i64 hi ∧ 0 ≤ lo ∧ lo ≤ hi ∧ hi ≤ 100000 ∧ lo * lo ≤ n ∧ n < (hi + 1) * (hi + 1)) (fun a b _ => (intOf b - intOf a).toNat)
  case atStart => exact ⟨rfl, 0, 100000, rfl, rfl, by omega, by omega, by omega, by have := HN.out; omega, by have := HN.out; omega⟩
  case round =>
    obtain ⟨rfl, lo, hi, rfl, rfl, l0, l1, l2, l3, l4⟩ := hrel
    by_cases hlt : lo < hi
    · obtain ⟨S1, hS1⟩ : ∃ x, x = lo + hi := ⟨_, rfl⟩
      have e1 : wrap64 (lo + hi) = S1 := by rw [hS1]; exact w64 (by omega) (by omega)
      obtain ⟨S2, hS2⟩ : ∃ x, x = S1 + 1 := ⟨_, rfl⟩
      have e2 : wrap64 (S1 + 1) = S2 := by rw [hS2]; exact w64 (by omega) (by omega)
      obtain ⟨M, hM⟩ : ∃ x, x = S2 / 2 := ⟨_, rfl⟩
      have e3 : S2.tdiv 2 = M := by rw [hM]; exact half_of (by omega)
      have e3' : wrap64 M = M := w64 (by omega) (by omega)
      have hMb : lo < M ∧ M ≤ hi := by omega
      have hM2 : M * M ≤ 100000 * 100000 := sq_le (m := 100000) (by omega) (by omega)
      have hM0 := sq_pos M
      obtain ⟨M2, hM2e⟩ : ∃ x, x = M * M := ⟨_, rfl⟩
      have e4 : wrap64 (M * M) = M2 := by rw [hM2e]; exact w64 (by omega) (by omega)
      obtain ⟨M1, hM1⟩ : ∃ x, x = M - 1 := ⟨_, rfl⟩
      have e5 : wrap64 (M - 1) = M1 := by rw [hM1]; exact w64 (by omega) (by omega)
      have HH : Hid (lo < M ∧ M ≤ hi ∧ hi ≤ 100000 ∧ 0 ≤ lo ∧ M1 = M - 1 ∧ M2 = M * M ∧ lo * lo ≤ n ∧ n < (hi + 1) * (hi + 1)) := ⟨hMb.1, hMb.2, l2, l0, hM1, hM2e, l3, l4⟩
      clear hS1 hS2 hM hM1 hM2e hM2 hM0 hMb l0 l1 l2 l3 l4
      by_cases hc : M2 ≤ n
      · go_wp2
        go_roundw
        case rel => exact ⟨by trivial, M, hi, by first | rfl | simp [e3'], rfl, by have := HH.out; omega, by have := HH.out; omega, by have := HH.out; omega, by have := HH.out; omega, HH.out.2.2.2.2.2.2.2⟩
        case measure => have := HH.out; simp [intOf]; omega
      · go_wp2
        go_roundw
        case rel => exact ⟨by trivial, lo, M1, rfl, by first | rfl | simp [e5], by have := HH.out; omega, by have := HH.out; omega, by have := HH.out; omega, HH.out.2.2.2.2.2.2.1, by have := HH.out; rw [show M1 + 1 = M by omega]; omega⟩
        case measure => have := HH.out; simp [intOf]; omega
    · have hle : hi = lo := by omega
      subst hle
      have hL2 : hi * hi ≤ 100000 * 100000 := sq_le (m := 100000) (by omega) (by omega)
      have hL0 := sq_pos hi
      obtain ⟨L2, hL⟩ : ∃ x, x = hi * hi := ⟨_, rfl⟩
      have e6 : wrap64 (hi * hi) = L2 := by rw [hL]; exact w64 (by omega) (by omega)
      have HH : Hid (0 ≤ hi ∧ hi ≤ 100000 ∧ L2 = hi * hi ∧ hi * hi ≤ n ∧ n < (hi + 1) * (hi + 1)) := ⟨l0, l2, hL, l3, l4⟩
      clear l0 l1 l2 l3 l4 hL hL2 hL0
      by_cases hc : L2 = n
      · go_wp2
        go_ret
        exact ⟨hi, rfl, Or.inl ⟨HH.out.1, HH.out.2.1, by rw [← HH.out.2.2.1]; exact hc⟩, Below.refl _ _⟩
      · go_wp2
        go_ret
        refine ⟨-1, rfl, Or.inr ⟨rfl, fun r hr e => ?_⟩, Below.refl _ _⟩
        obtain ⟨p1, p2, p3, p4, p5⟩ := HH.out
        rcases Int.lt_trichotomy r hi with h | h | h
        · have := Int.mul_lt_mul' (Int.le_of_lt h) h hr (by omega)
          omega
        · rw [h] at e; omega
        · have h' : hi + 1 ≤ r := h
          have : (hi + 1) * (hi + 1) ≤ r * r := Int.mul_le_mul h' h' (by omega) hr
          omega
theorem iroot_any (n : Int) (h0 : 0 ≤ n) (hn : n ≤ 2000000000) (w : World) : Calls Try.prog 98 #[.int .i64 n] w fun e w' => ∃ x : Int, e = .returned (.int .i64 x) ∧ 0 ≤ x ∧ x ≤ 50000 ∧ (∀ r : Int, 0 ≤ r → r ≤ 30000 → r * r = n → x = r) ∧ Below w.heap.size w w' := by
  obtain ⟨m, rfl⟩ : ∃ m : Nat, n = (m : Int) := ⟨n.toNat, by omega⟩
  refine (iroot m (by omega) w).mono ?_
  rintro e w' ⟨T, rfl, h1, h2, rfl⟩
  refine ⟨T, rfl, by omega, by omega, fun r r0 r1 e => ?_, Below.refl _ _⟩
  obtain ⟨k, rfl⟩ : ∃ k : Nat, r = (k : Int) := ⟨r.toNat, by omega⟩
  have := h2 k (by omega) (by exact_mod_cast e)
  omega
theorem scode_t {a : Sk} (h : scode a = 0) : (-2000000000 ≤ a.i ∧ a.i ≤ 2000000000) ∧ (-2000000000 ≤ a.q ∧ a.q ≤ 2000000000) ∧ (-2000000000 ≤ a.u ∧ a.u ≤ 2000000000) ∧ (-2000000000 ≤ a.v ∧ a.v ≤ 2000000000) ∧ 0 ≤ a.i ∧ a.q ≤ a.i ∧ -a.i ≤ a.q := by
  unfold scode at h
  split at h
  · rename_i hw
    simp only [Bool.and_eq_true] at hw
    split at h
    · cases h
    · rename_i hn
      have h1 := sq_pos a.u
      have h2 := sq_pos a.v
      refine ⟨wide_t hw.1.1.1, wide_t hw.1.1.2, wide_t hw.1.2, wide_t hw.2, by omega, ?_, ?_⟩
      · rcases Int.lt_or_le a.i a.q with h3 | h3
        · have := Int.mul_lt_mul' (Int.le_of_lt h3) h3 (by omega) (by omega)
          omega
        · exact h3
      · rcases Int.lt_or_le a.q (-a.i) with h3 | h3
        · have h4 : a.i < -a.q := by omega
          have := Int.mul_lt_mul' (Int.le_of_lt h4) h4 (by omega) (by omega)
          rw [Int.neg_mul_neg] at this
          omega
        · exact h3
  · cases h
/-- A light that is the only one that may have these numbers. -/
def Lik (a : Sk) (l : Jn) : Prop := l.x.im = 0 ∧ 0 ≤ l.x.re ∧ (l.x.re = 0 → l.y.im = 0 ∧ 0 ≤ l.y.re) ∧ ∀ m, Fnd a m → l = m
theorem lik_nought {a : Sk} {x y : Int} (hx : x = 0) (hX : ∀ r : Int, 0 ≤ r → r ≤ 30000 → r * r = (a.i + a.q) / 2 → x = r) (hy : 0 ≤ y) (hY : ∀ r : Int, 0 ≤ r → r ≤ 30000 → r * r = (a.i - a.q) / 2 → y = r) : Lik a ⟨⟨0, 0⟩, ⟨y, 0⟩⟩ := by
  refine ⟨rfl, Int.le_refl _, fun _ => ⟨rfl, hy⟩, fun m hm => ?_⟩
  obtain ⟨h1, h2, h3, h4, h5, h6, _⟩ := hm.eqs
  have e : m.x.re = 0 := by have := hX m.x.re hm.xr h5 (by omega); omega
  obtain ⟨p1, p2⟩ := hm.yn e
  have e2 : y = m.y.re := hY m.y.re p2 h6 (by rw [p1] at h2; simp at h2; omega)
  obtain ⟨⟨b1, b2⟩, ⟨b3, b4⟩⟩ := m
  have := hm.xi
  simp only at e e2 p1 this
  subst e e2 p1 this
  rfl
theorem lik_some {a : Sk} {x p q : Int} (hx : 0 < x) (hX : ∀ r : Int, 0 ≤ r → r ≤ 30000 → r * r = (a.i + a.q) / 2 → x = r) (hp : p = a.u.tdiv (2 * x)) (hq : q = (-a.v).tdiv (2 * x)) : Lik a ⟨⟨x, 0⟩, ⟨p, q⟩⟩ := by
  refine ⟨rfl, Int.le_of_lt hx, fun h => absurd h (by show ¬ x = 0; omega), fun m hm => ?_⟩
  obtain ⟨h1, h2, h3, h4, h5, h6, _⟩ := hm.eqs
  have e : x = m.x.re := hX m.x.re hm.xr h5 (by omega)
  have e3 : p = m.y.re := by rw [hp, h3, ← e]; exact Int.mul_tdiv_cancel_left _ (by omega)
  have e4 : q = m.y.im := by rw [hq, h4, Int.neg_neg, ← e]; exact Int.mul_tdiv_cancel_left _ (by omega)
  obtain ⟨⟨b1, b2⟩, ⟨b3, b4⟩⟩ := m
  have := hm.xi
  simp only at e e3 e4 this
  subst e e3 e4 this
  rfl
end Go.Proofs.Ytloebnlmeplgbaa
