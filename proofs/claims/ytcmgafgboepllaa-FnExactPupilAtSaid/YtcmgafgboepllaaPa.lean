/- The numbers at a place of the pupil: both packages. -/
import Derived.Test.YtcmgafgboepllaaPi
namespace Go.Proofs.Ytcmgafgboepllaa
open Go.RowKit Fl
set_option linter.unusedVariables false
set_option linter.unusedSimpArgs false
theorem sDot_l (ao ao' : Option Addr) (cap m cap' : Nat) (hm : m ≤ 1000000000000) (w : World) : FV 77 #[.slice ao 0 cap, .slice ao' m cap'] w (cl 0) := by
  unfold FV
  go_enter Try.func77, Try.ntmps77
  by_cases h : 0 < m
  · have hI : ¬ (m : Int) < 0 := by omega
    have hJ : (0 : Int) < m := by omega
    go_wp2_with fail
    refine wp_loop_rounds 1 ?_
    rw [rounds_succ]
    go_wp2
    go_ret
    exact ⟨0, rfl, fc_own (by decide), Below.refl _ _⟩
  · obtain rfl : m = 0 := by omega
    go_wp2_with fail
    refine wp_loop_rounds 1 ?_
    rw [rounds_succ]
    go_wp2
    go_ret
    exact ⟨0, rfl, fc_own (by decide), Below.refl _ _⟩
theorem sDot_r (ao ao' : Option Addr) (n cap cap' : Nat) (hn : n ≤ 1000000000000) (h0 : 0 < n) (w : World) : FV 77 #[.slice ao n cap, .slice ao' 0 cap'] w (cl 0) := by
  unfold FV
  go_enter Try.func77, Try.ntmps77
  have hJ : (0 : Int) < n := by omega
  go_wp2_with fail
  refine wp_loop_rounds 1 ?_
  rw [rounds_succ]
  go_wp2
  go_ret
  exact ⟨0, rfl, fc_own (by decide), Below.refl _ _⟩
theorem sDot_rd {w : World} {v v' : Value} {n m : Nat} {f g : Nat → Nat} (h : RdF w v n f) (h' : RdF w v' m g) (hn : n ≤ 1000000000000) (hm : m ≤ 1000000000000) (hf : ∀ i, i < n → f i < 18446744073709551616) (hg : ∀ i, i < m → g i < 18446744073709551616) :
    FV 77 #[v, v'] w (dotC f g (min n m)) := by
  by_cases h0 : n = 0
  · subst h0
    rw [Nat.zero_min]
    obtain ⟨ao, cap, rfl⟩ : ∃ ao cap, v = .slice ao 0 cap := by
      rcases h with ⟨ao, cap, rfl, _⟩ | ⟨b, off, cap, rfl, _⟩
      · exact ⟨_, _, rfl⟩
      · exact ⟨_, _, rfl⟩
    obtain ⟨ao', cap', rfl⟩ : ∃ ao cap, v' = .slice ao m cap := by
      rcases h' with ⟨ao, cap, rfl, rfl⟩ | ⟨b, off, cap, rfl, _⟩
      · exact ⟨_, _, rfl⟩
      · exact ⟨_, _, rfl⟩
    exact sDot_l ao ao' cap m cap' hm w
  by_cases h1 : m = 0
  · subst h1
    rw [Nat.min_zero]
    obtain ⟨ao, cap, rfl⟩ : ∃ ao cap, v = .slice ao n cap := by
      rcases h with ⟨ao, cap, rfl, rfl⟩ | ⟨b, off, cap, rfl, _⟩
      · exact ⟨_, _, rfl⟩
      · exact ⟨_, _, rfl⟩
    obtain ⟨ao', cap', rfl⟩ : ∃ ao cap, v' = .slice ao 0 cap := by
      rcases h' with ⟨ao, cap, rfl, _⟩ | ⟨b, off, cap, rfl, _⟩
      · exact ⟨_, _, rfl⟩
      · exact ⟨_, _, rfl⟩
    exact sDot_r ao ao' n cap cap' hn (by omega) w
  rcases h with ⟨ao, cap, rfl, rfl⟩ | ⟨b, off, cap, rfl, hc⟩
  · exact absurd rfl h0
  rcases h' with ⟨ao, cap', rfl, rfl⟩ | ⟨b', off', cap', rfl, hc'⟩
  · exact absurd rfl h1
  exact sDot_any b off n cap b' off' m cap' f g w hn hm hc hc' hf hg
theorem iDot_l (ao ao' : Option Addr) (cap m cap' : Nat) (hm : m ≤ 1000000000000) (w : World) : FV 78 #[.slice ao 0 cap, .slice ao' m cap'] w (cl 0) := by
  unfold FV
  go_enter Try.func78, Try.ntmps78
  by_cases h : 0 < m
  · have hI : ¬ (m : Int) < 0 := by omega
    have hJ : (0 : Int) < m := by omega
    go_wp2_with fail
    refine wp_loop_rounds 1 ?_
    rw [rounds_succ]
    go_wp2
    go_ret
    exact ⟨0, rfl, fc_own (by decide), Below.refl _ _⟩
  · obtain rfl : m = 0 := by omega
    go_wp2_with fail
    refine wp_loop_rounds 1 ?_
    rw [rounds_succ]
    go_wp2
    go_ret
    exact ⟨0, rfl, fc_own (by decide), Below.refl _ _⟩
theorem iDot_r (ao ao' : Option Addr) (n cap cap' : Nat) (hn : n ≤ 1000000000000) (h0 : 0 < n) (w : World) : FV 78 #[.slice ao n cap, .slice ao' 0 cap'] w (cl 0) := by
  unfold FV
  go_enter Try.func78, Try.ntmps78
  have hJ : (0 : Int) < n := by omega
  go_wp2_with fail
  refine wp_loop_rounds 1 ?_
  rw [rounds_succ]
  go_wp2
  go_ret
  exact ⟨0, rfl, fc_own (by decide), Below.refl _ _⟩
theorem iDot_rd {w : World} {v v' : Value} {n m : Nat} {f g : Nat → Nat} (h : RdF w v n f) (h' : RdF w v' m g) (hn : n ≤ 1000000000000) (hm : m ≤ 1000000000000) (hf : ∀ i, i < n → f i < 18446744073709551616) (hg : ∀ i, i < m → g i < 18446744073709551616) :
    FV 78 #[v, v'] w (dotC f g (min n m)) := by
  by_cases h0 : n = 0
  · subst h0
    rw [Nat.zero_min]
    obtain ⟨ao, cap, rfl⟩ : ∃ ao cap, v = .slice ao 0 cap := by
      rcases h with ⟨ao, cap, rfl, _⟩ | ⟨b, off, cap, rfl, _⟩
      · exact ⟨_, _, rfl⟩
      · exact ⟨_, _, rfl⟩
    obtain ⟨ao', cap', rfl⟩ : ∃ ao cap, v' = .slice ao m cap := by
      rcases h' with ⟨ao, cap, rfl, rfl⟩ | ⟨b, off, cap, rfl, _⟩
      · exact ⟨_, _, rfl⟩
      · exact ⟨_, _, rfl⟩
    exact iDot_l ao ao' cap m cap' hm w
  by_cases h1 : m = 0
  · subst h1
    rw [Nat.min_zero]
    obtain ⟨ao, cap, rfl⟩ : ∃ ao cap, v = .slice ao n cap := by
      rcases h with ⟨ao, cap, rfl, rfl⟩ | ⟨b, off, cap, rfl, _⟩
      · exact ⟨_, _, rfl⟩
      · exact ⟨_, _, rfl⟩
    obtain ⟨ao', cap', rfl⟩ : ∃ ao cap, v' = .slice ao 0 cap := by
      rcases h' with ⟨ao, cap, rfl, _⟩ | ⟨b, off, cap, rfl, _⟩
      · exact ⟨_, _, rfl⟩
      · exact ⟨_, _, rfl⟩
    exact iDot_r ao ao' n cap cap' hn (by omega) w
  rcases h with ⟨ao, cap, rfl, rfl⟩ | ⟨b, off, cap, rfl, hc⟩
  · exact absurd rfl h0
  rcases h' with ⟨ao, cap', rfl, rfl⟩ | ⟨b', off', cap', rfl, hc'⟩
  · exact absurd rfl h1
  exact iDot_any b off n cap b' off' m cap' f g w hn hm hc hc' hf hg
/-- Products of classes, summed. -/
def dotO (F G : Nat → Option Nat) : Nat → Option Nat
  | 0 => cl 0
  | k + 1 => opC .add (dotO F G k) (opC .mul (F k) (G k))
theorem dot_same {f g : Nat → Nat} {F G : Nat → Option Nat} : ∀ k, (∀ i, i < k → cl (f i) = F i) → (∀ i, i < k → cl (g i) = G i) → dotC f g k = dotO F G k
  | 0, _, _ => rfl
  | k + 1, h, h' => by rw [dotC, dotO, dot_same k (fun i hi => h i (by omega)) (fun i hi => h' i (by omega)), h k (by omega), h' k (by omega)]
def atC (F : Nat → Option Nat) (n : Nat) (X Y : Option Nat) (d : Int) : Option Nat := dotO F (fun i => (degC X Y d).getD i none) (min n (degC X Y d).length)
set_option maxRecDepth 20000 in
theorem sAt_any {w : World} {v : Value} {n : Nat} {f : Nat → Nat} {F : Nat → Option Nat} (h : RdF w v n f) (hn : n ≤ 1000000000000) (hf : ∀ i, i < n → Fc (f i) (F i)) (d : Int) {x y : Nat} {X Y : Option Nat} (hx : Fc x X) (hy : Fc y Y) :
    FV 40 #[v, .int .i64 d, .float .f64 x, .float .f64 y] w (atC F n X Y d) := by
  have HT : Hid (TV 28 #[.int .i64 d, .float .f64 x, .float .f64 y] w (degC X Y d)) := sTerms_any hx hy d w
  have HR : Hid (RdF w v n f ∧ ∀ i, i < n → Fc (f i) (F i)) := ⟨h, hf⟩
  have HL : Hid ((degC X Y d).length ≤ 21) := degC_len X Y d
  unfold FV atC
  clear h hf hx hy
  generalize degC X Y d = cs at HT HL ⊢
  go_enter Try.func40, Try.ntmps40
  go_wp2_with fail
  refine HT.out.mono ?_
  rintro e w1 ⟨vt, ft, rfl, ot, ct, b⟩
  have HD : Hid (FV 77 #[v, vt] w1 (dotO F (fun i => cs.getD i none) (min n cs.length))) := by
    have := sDot_rd (HR.out.1.later b) ot.rd hn (by have := HL.out; omega) (fun i hi => (HR.out.2 i hi).lx) (fun i hi => (ct i hi).lx)
    rwa [dot_same (F := F) (G := fun i => cs.getD i none) _ (fun i hi => (HR.out.2 i (by omega)).c) (fun i hi => (ct i (by omega)).c)] at this
  have HB : Hid (Below w.heap.size w w1) := b
  clear ot ct b HT HR HL
  go_wp2_with fail
  refine HD.out.mono ?_
  rintro e w2 ⟨z, rfl, hz, b⟩
  have HZ : Hid (Fc z (dotO F (fun i => cs.getD i none) (min n cs.length)) ∧ Below w.heap.size w w2) := ⟨hz, HB.out.trans (b.mono HB.out.size)⟩
  clear HD HB hz b
  go_wp2
  go_ret
  exact ⟨z, rfl, HZ.out.1, HZ.out.2⟩
set_option maxRecDepth 20000 in
theorem iAt_any {w : World} {v : Value} {n : Nat} {f : Nat → Nat} {F : Nat → Option Nat} (h : RdF w v n f) (hn : n ≤ 1000000000000) (hf : ∀ i, i < n → Fc (f i) (F i)) (d : Int) {x y : Nat} {X Y : Option Nat} (hx : Fc x X) (hy : Fc y Y) :
    FV 41 #[v, .int .i64 d, .float .f64 x, .float .f64 y] w (atC F n X Y d) := by
  have HT : Hid (TV 29 #[.int .i64 d, .float .f64 x, .float .f64 y] w (degC X Y d)) := iTerms_any hx hy d w
  have HR : Hid (RdF w v n f ∧ ∀ i, i < n → Fc (f i) (F i)) := ⟨h, hf⟩
  have HL : Hid ((degC X Y d).length ≤ 21) := degC_len X Y d
  unfold FV atC
  clear h hf hx hy
  generalize degC X Y d = cs at HT HL ⊢
  go_enter Try.func41, Try.ntmps41
  go_wp2_with fail
  refine HT.out.mono ?_
  rintro e w1 ⟨vt, ft, rfl, ot, ct, b⟩
  have HD : Hid (FV 78 #[v, vt] w1 (dotO F (fun i => cs.getD i none) (min n cs.length))) := by
    have := iDot_rd (HR.out.1.later b) ot.rd hn (by have := HL.out; omega) (fun i hi => (HR.out.2 i hi).lx) (fun i hi => (ct i hi).lx)
    rwa [dot_same (F := F) (G := fun i => cs.getD i none) _ (fun i hi => (HR.out.2 i (by omega)).c) (fun i hi => (ct i (by omega)).c)] at this
  have HB : Hid (Below w.heap.size w w1) := b
  clear ot ct b HT HR HL
  go_wp2_with fail
  refine HD.out.mono ?_
  rintro e w2 ⟨z, rfl, hz, b⟩
  have HZ : Hid (Fc z (dotO F (fun i => cs.getD i none) (min n cs.length)) ∧ Below w.heap.size w w2) := ⟨hz, HB.out.trans (b.mono HB.out.size)⟩
  clear HD HB hz b
  go_wp2
  go_ret
  exact ⟨z, rfl, HZ.out.1, HZ.out.2⟩
end Go.Proofs.Ytcmgafgboepllaa
