/- Sums of lists of floats by halves: contracts of the specification's and the program's. -/
import Derived.Test.YtbhpdlhmkmkbhaaSliceOp
namespace Go.Proofs.Ytbhpdlhmkmkbhaa
open Go.RowKit Fl
theorem wraps_i64' (n : Nat) (h : n ≤ 1000000000000) : IntKind.i64.wrap (n : Int) = n := by rw [IntKind.wrap_i64]; omega
/-- The sum of n floats f by halves, all NaNs being one; k: how often halves are made at most. -/
def pairF : Nat → Nat → (Nat → Nat) → Option Nat
  | 0, _, _ => cl 0
  | k + 1, n, f => if n = 0 then cl 0 else if n = 1 then cl (f 0) else opC .add (pairF k (n / 2) f) (pairF k (n - n / 2) (fun i => f (n / 2 + i)))
theorem pairF_same : ∀ (k k' n : Nat) (f : Nat → Nat), n ≤ k → n ≤ k' → pairF k n f = pairF k' n f
  | 0, 0, _, _, _, _ => rfl
  | 0, k' + 1, n, f, h, _ => by
    obtain rfl : n = 0 := by omega
    simp [pairF]
  | k + 1, 0, n, f, _, h => by
    obtain rfl : n = 0 := by omega
    simp [pairF]
  | k + 1, k' + 1, n, f, h, h' => by
    simp only [pairF]
    by_cases c0 : n = 0
    · rw [if_pos c0, if_pos c0]
    · by_cases c1 : n = 1
      · rw [if_neg c0, if_pos c1, if_neg c0, if_pos c1]
      · rw [if_neg c0, if_neg c1, if_neg c0, if_neg c1, pairF_same k k' (n / 2) f (by omega) (by omega), pairF_same k k' (n - n / 2) _ (by omega) (by omega)]
def pairC (n : Nat) (f : Nat → Nat) : Option Nat := pairF n n f
theorem pairC_zero (f : Nat → Nat) : pairC 0 f = cl 0 := rfl
theorem pairC_one (f : Nat → Nat) : pairC 1 f = cl (f 0) := rfl
theorem pairC_more {n : Nat} (h : 2 ≤ n) (f : Nat → Nat) : pairC n f = opC .add (pairC (n / 2) f) (pairC (n - n / 2) (fun i => f (n / 2 + i))) := by
  obtain ⟨k, rfl⟩ : ∃ k, n = k + 1 := ⟨n - 1, by omega⟩
  unfold pairC
  conv => lhs; unfold pairF
  rw [if_neg (by omega), if_neg (by omega), pairF_same k ((k + 1) / 2) _ f (by omega) (by omega), pairF_same k (k + 1 - (k + 1) / 2) _ _ (by omega) (by omega)]
theorem tdiv2 (n : Nat) : (n : Int).tdiv 2 = (n : Int) / 2 := Int.tdiv_eq_ediv_of_nonneg (by omega)
theorem sPair_zero (ao : Option Addr) (cap : Nat) (f : Nat → Nat) (w : World) : FV 43 #[.slice ao 0 cap] w (pairC 0 f) := by
  unfold FV
  rw [pairC_zero]
  go_enter Try.func43, Try.ntmps43
  go_wp2
  go_ret
  exact ⟨0, rfl, by omega, rfl, Below.refl _ _⟩
theorem sPair_one (b off cap x : Nat) (f : Nat → Nat) (w : World) (hc : w.cell? ⟨b, off, none⟩ = some (.float .f64 x)) (hx : x < 18446744073709551616) (hf : x = f 0) : FV 43 #[.slice (some ⟨b, off, none⟩) 1 cap] w (pairC 1 f) := by
  unfold FV
  rw [pairC_one, ← hf]
  clear hf
  go_enter Try.func43, Try.ntmps43
  go_wp2
  go_ret
  exact ⟨x, rfl, hx, rfl, Below.refl _ _⟩
set_option maxHeartbeats 400000 in
theorem sPair_more (b off n cap h : Nat) (o1 o2 : Option Nat) (w : World) (h2 : 2 ≤ n) (hcap : n ≤ cap) (hcap2 : cap ≤ 1000000000000) (hh : h < n) (hh0 : 1 ≤ h) (hd : (n : Int).tdiv 2 = (h : Int))
    (H1 : Hid (∀ W, Below w.heap.size w W → Calls Try.prog 43 #[.slice (some ⟨b, off, none⟩) h cap] W fun e w' => ∃ v, e = .returned (.float .f64 v) ∧ Hid (v < 18446744073709551616 ∧ cl v = o1) ∧ Below w.heap.size w w'))
    (H2 : Hid (∀ W, Below w.heap.size w W → Calls Try.prog 43 #[.slice (some ⟨b, off + h, none⟩) (n - h) (cap - h)] W fun e w' => ∃ v, e = .returned (.float .f64 v) ∧ Hid (v < 18446744073709551616 ∧ cl v = o2) ∧ Below w.heap.size w w')) :
    FV 43 #[.slice (some ⟨b, off, none⟩) n cap] w (opC .add o1 o2) := by
  unfold FV
  have hadd := add_run
  have hw := wraps_i64' h (by omega)
  have c1 : ¬ cap = 0 := by omega
  have c2 : ¬ cap = h := by omega
  have c3 : ¬ h = 0 := by omega
  have c4 : h ≤ cap := by omega
  have z1 : (0 : Int) ≤ (h : Int) := by omega
  have z2 : (h : Int) ≤ (n : Int) := by omega
  have z3 : (h : Int) ≤ (cap : Int) := by omega
  go_enter Try.func43, Try.ntmps43
  go_wp2
  go_region_held (fun W => Below w.heap.size w W) (first | assumption | (repeat (first | assumption | exact Below.refl _ _ | refine below_opW ?_ | refine Below.drew ?_)))
    (first | (go_at_call_of 43 (off + h); refine (H2.out _ (by assumption)).mono ?_; rintro e w1 ⟨v2, rfl, HV2, hb2⟩) | (go_at_call 43; refine (H1.out _ (by assumption)).mono ?_; rintro e w1 ⟨v1, rfl, HV1, hb1⟩))
  all_goals
    go_wp2
    go_ret
    exact ⟨_, rfl, opV_lt _ _ _ _, by rw [opV_cl _ HV1.out.1 HV2.out.1, HV1.out.2, HV2.out.2], below_opW (by assumption)⟩
theorem sPair_any : ∀ (n b off cap : Nat) (f : Nat → Nat) (w : World), n ≤ cap → cap ≤ 1000000000000 → (∀ i, i < n → w.cell? ⟨b, off + i, none⟩ = some (.float .f64 (f i))) → (∀ i, i < n → f i < 18446744073709551616) →
    FV 43 #[.slice (some ⟨b, off, none⟩) n cap] w (pairC n f) := by
  intro n
  induction n using Nat.strongRecOn with
  | ind n ih =>
    intro b off cap f w h1 h2 hc hf
    by_cases c0 : n = 0
    · subst c0
      exact sPair_zero _ cap f w
    · by_cases c1 : n = 1
      · subst c1
        exact sPair_one b off cap (f 0) f w (hc 0 (by omega)) (hf 0 (by omega)) rfl
      · rw [pairC_more (by omega)]
        refine sPair_more b off n cap (n / 2) _ _ w (by omega) h1 h2 (by omega) (by omega) (by rw [tdiv2]; omega) (fun W hW => ?_) (fun W hW => ?_)
        · refine (ih (n / 2) (by omega) b off cap f W (by omega) h2 (fun i hi => (cells_later hc hW i (by omega))) (fun i hi => hf i (by omega))).mono ?_
          rintro e w' ⟨v, rfl, a1, a2, a3⟩
          exact ⟨v, rfl, ⟨a1, a2⟩, hW.trans (a3.mono hW.size)⟩
        · refine (ih (n - n / 2) (by omega) b (off + n / 2) (cap - n / 2) (fun i => f (n / 2 + i)) W (by omega) (by omega) (fun i hi => ?_) (fun i hi => hf _ (by omega))).mono ?_
          · rw [Nat.add_assoc]
            exact cells_later hc hW (n / 2 + i) (by omega)
          · rintro e w' ⟨v, rfl, a1, a2, a3⟩
            exact ⟨v, rfl, ⟨a1, a2⟩, hW.trans (a3.mono hW.size)⟩
theorem iPair_zero (ao : Option Addr) (cap : Nat) (f : Nat → Nat) (w : World) : FV 44 #[.slice ao 0 cap] w (pairC 0 f) := by
  unfold FV
  rw [pairC_zero]
  go_enter Try.func44, Try.ntmps44
  go_wp2
  go_ret
  exact ⟨0, rfl, by omega, rfl, Below.refl _ _⟩
theorem iPair_one (b off cap x : Nat) (f : Nat → Nat) (w : World) (hc : w.cell? ⟨b, off, none⟩ = some (.float .f64 x)) (hx : x < 18446744073709551616) (hf : x = f 0) : FV 44 #[.slice (some ⟨b, off, none⟩) 1 cap] w (pairC 1 f) := by
  unfold FV
  rw [pairC_one, ← hf]
  clear hf
  go_enter Try.func44, Try.ntmps44
  go_wp2
  go_ret
  exact ⟨x, rfl, hx, rfl, Below.refl _ _⟩
set_option maxHeartbeats 400000 in
theorem iPair_more (b off n cap h : Nat) (o1 o2 : Option Nat) (w : World) (h2 : 2 ≤ n) (hcap : n ≤ cap) (hcap2 : cap ≤ 1000000000000) (hh : h < n) (hh0 : 1 ≤ h) (hd : (n : Int).tdiv 2 = (h : Int))
    (H1 : Hid (∀ W, Below w.heap.size w W → Calls Try.prog 44 #[.slice (some ⟨b, off, none⟩) h cap] W fun e w' => ∃ v, e = .returned (.float .f64 v) ∧ Hid (v < 18446744073709551616 ∧ cl v = o1) ∧ Below w.heap.size w w'))
    (H2 : Hid (∀ W, Below w.heap.size w W → Calls Try.prog 44 #[.slice (some ⟨b, off + h, none⟩) (n - h) (cap - h)] W fun e w' => ∃ v, e = .returned (.float .f64 v) ∧ Hid (v < 18446744073709551616 ∧ cl v = o2) ∧ Below w.heap.size w w')) :
    FV 44 #[.slice (some ⟨b, off, none⟩) n cap] w (opC .add o1 o2) := by
  unfold FV
  have hadd := add_run
  have hw := wraps_i64' h (by omega)
  have c1 : ¬ cap = 0 := by omega
  have c2 : ¬ cap = h := by omega
  have c3 : ¬ h = 0 := by omega
  have c4 : h ≤ cap := by omega
  have z1 : (0 : Int) ≤ (h : Int) := by omega
  have z2 : (h : Int) ≤ (n : Int) := by omega
  have z3 : (h : Int) ≤ (cap : Int) := by omega
  go_enter Try.func44, Try.ntmps44
  go_wp2
  go_region_held (fun W => Below w.heap.size w W) (first | assumption | (repeat (first | assumption | exact Below.refl _ _ | refine below_opW ?_ | refine Below.drew ?_)))
    (first | (go_at_call_of 44 (off + h); refine (H2.out _ (by assumption)).mono ?_; rintro e w1 ⟨v2, rfl, HV2, hb2⟩) | (go_at_call 44; refine (H1.out _ (by assumption)).mono ?_; rintro e w1 ⟨v1, rfl, HV1, hb1⟩))
  all_goals
    go_wp2
    go_ret
    exact ⟨_, rfl, opV_lt _ _ _ _, by rw [opV_cl _ HV1.out.1 HV2.out.1, HV1.out.2, HV2.out.2], below_opW (by assumption)⟩
theorem iPair_any : ∀ (n b off cap : Nat) (f : Nat → Nat) (w : World), n ≤ cap → cap ≤ 1000000000000 → (∀ i, i < n → w.cell? ⟨b, off + i, none⟩ = some (.float .f64 (f i))) → (∀ i, i < n → f i < 18446744073709551616) →
    FV 44 #[.slice (some ⟨b, off, none⟩) n cap] w (pairC n f) := by
  intro n
  induction n using Nat.strongRecOn with
  | ind n ih =>
    intro b off cap f w h1 h2 hc hf
    by_cases c0 : n = 0
    · subst c0
      exact iPair_zero _ cap f w
    · by_cases c1 : n = 1
      · subst c1
        exact iPair_one b off cap (f 0) f w (hc 0 (by omega)) (hf 0 (by omega)) rfl
      · rw [pairC_more (by omega)]
        refine iPair_more b off n cap (n / 2) _ _ w (by omega) h1 h2 (by omega) (by omega) (by rw [tdiv2]; omega) (fun W hW => ?_) (fun W hW => ?_)
        · refine (ih (n / 2) (by omega) b off cap f W (by omega) h2 (fun i hi => (cells_later hc hW i (by omega))) (fun i hi => hf i (by omega))).mono ?_
          rintro e w' ⟨v, rfl, a1, a2, a3⟩
          exact ⟨v, rfl, ⟨a1, a2⟩, hW.trans (a3.mono hW.size)⟩
        · refine (ih (n - n / 2) (by omega) b (off + n / 2) (cap - n / 2) (fun i => f (n / 2 + i)) W (by omega) (by omega) (fun i hi => ?_) (fun i hi => hf _ (by omega))).mono ?_
          · rw [Nat.add_assoc]
            exact cells_later hc hW (n / 2 + i) (by omega)
          · rintro e w' ⟨v, rfl, a1, a2, a3⟩
            exact ⟨v, rfl, ⟨a1, a2⟩, hW.trans (a3.mono hW.size)⟩
end Go.Proofs.Ytbhpdlhmkmkbhaa

