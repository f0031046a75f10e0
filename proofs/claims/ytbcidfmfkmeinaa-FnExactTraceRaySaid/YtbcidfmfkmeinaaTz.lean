/- Answers of a trace: compared, marked, looked for marks. -/
import Derived.Test.YtbcidfmfkmeinaaLm
import Derived.Test.YtbcidfmfkmeinaaTp
namespace Go.Proofs.Ytbcidfmfkmeinaa
open Go.RowKit Fl
set_option linter.unusedVariables false
set_option linter.unusedSimpArgs false
theorem OwR.form {W : World} {lo : Nat} {v : Value} {n : Nat} {R : Nat → Nat → Nat} (h : OwR W lo v n R) : ∃ ao cap, v = .slice ao n cap := by
  rcases h with ⟨rfl, ao, cap, rfl⟩ | ⟨g, cap, rfl, _⟩
  · exact ⟨_, _, rfl⟩
  · exact ⟨_, _, rfl⟩
theorem OwR.later {W W' : World} {lo : Nat} {v : Value} {n : Nat} {R : Nat → Nat → Nat} (h : OwR W lo v n R) (b : Below W.heap.size W W') : OwR W' lo v n R := by
  rcases h with h | ⟨g, cap, rfl, h1, h2⟩
  · exact Or.inl h
  · exact Or.inr ⟨g, cap, rfl, h1, h2.below b⟩
theorem eqRs_any {W : World} {lo lo' n : Nat} {v v' : Value} {R R' : Nat → Nat → Nat} {A : Nat → Nat → Option Nat} (hn : n ≤ 1000000000000) (h : OwR W lo v n R) (k : OwR W lo' v' n R') (hR : ∀ i, i < n → Rc (R i) (A i)) (hR' : ∀ i, i < n → Rc (R' i) (A i)) :
    Calls Try.prog 20 #[v, v'] W fun e w' => e = .returned (.bool true) ∧ Below W.heap.size W w' := by
  by_cases h0 : n = 0
  · subst h0
    obtain ⟨ao, cap, rfl⟩ := h.form
    obtain ⟨ao', cap', rfl⟩ := k.form
    exact eqRas_none ao ao' cap cap' W
  · rcases h with ⟨rfl, _⟩ | ⟨g, cap, rfl, _, h2⟩
    · exact absurd rfl h0
    rcases k with ⟨rfl, _⟩ | ⟨g', cap', rfl, _, k2⟩
    · exact absurd rfl h0
    exact eqRas_same g cap g' cap' n R R' A W hn h2 k2 hR hR'
set_option maxRecDepth 20000 in
set_option maxHeartbeats 1600000 in
theorem eqTR_same {W : World} {lo lo' n : Nat} {c at' : Int} {p p' : Nat} {P : Option Nat} {v v' : Value} {R R' : Nat → Nat → Nat} {A : Nat → Nat → Option Nat} (hn : n ≤ 1000000000000) (hp : Fc p P) (hp' : Fc p' P) (h : OwR W lo v n R) (k : OwR W lo' v' n R') (hR : ∀ i, i < n → Rc (R i) (A i)) (hR' : ∀ i, i < n → Rc (R' i) (A i)) :
    Calls Try.prog 9 #[Tv c at' p v, Tv c at' p' v'] W fun e w' => e = .returned (.bool true) ∧ Below W.heap.size W w' := by
  obtain ⟨ao, cap, hv⟩ := h.form
  obtain ⟨ao', cap', hv'⟩ := k.form
  have H : Hid (Fc p P ∧ Fc p' P ∧ (∀ W', Below W.heap.size W W' → Calls Try.prog 20 #[v, v'] W' fun e w' => e = .returned (.bool true) ∧ Below W'.heap.size W' w')) := ⟨hp, hp', fun W' b => eqRs_any hn (h.later b) (k.later b) hR hR'⟩
  clear hp hp' h k hR hR'
  subst hv hv'
  go_enter Try.func9, Try.ntmps9
  obtain ⟨w1, hw⟩ : ∃ X, X = (W.alloc (.cells #[.int .i64 c, .int .i64 at', .float .f64 p, .slice ao n cap] 29)).alloc (.cells #[.int .i64 c, .int .i64 at', .float .f64 p', .slice ao' n cap'] 29) := ⟨_, rfl⟩
  have B : Hid (Below W.heap.size W w1) := by show Below _ _ _; rw [hw]; go_grown
  go_upto_region 1 with fail
  rw [← hw]
  have b0 : Hid (Blk w1 W.heap.size #[.int .i64 c, .int .i64 at', .float .f64 p, .slice ao n cap] 29) := by show Blk _ _ _ _; rw [hw]; exact Blk.alloc (Blk.new rfl) _
  have b1 : Hid (Blk w1 (W.heap.size + 1) #[.int .i64 c, .int .i64 at', .float .f64 p', .slice ao' n cap'] 29) := by show Blk _ _ _ _; rw [hw]; exact Blk.new (by simp)
  clear hw
  have HS : Hid (∀ W, Calls Try.prog 19 #[.float .f64 p, .float .f64 p'] W fun e w' => e = .returned (.bool true) ∧ W = w') := fun W => same_any H.out.1.lx H.out.2.1.lx (H.out.1.c.trans H.out.2.1.c.symm) W
  have a0 := b0.out.cell (j := 0) rfl
  have a1 := b0.out.cell (j := 1) rfl
  have a2 := b0.out.cell (j := 2) rfl
  have a3 := b0.out.cell (j := 3) rfl
  have d0 := b1.out.cell (j := 0) rfl
  have d1 := b1.out.cell (j := 1) rfl
  have d2 := b1.out.cell (j := 2) rfl
  have d3 := b1.out.cell (j := 3) rfl
  go_wp2_with (first | (go_at_call 19; refine (HS.out _).mono ?_; rintro e wq ⟨rfl, rfl⟩) | (go_at_call 20; refine (H.out.2.2 _ B.out).mono ?_; rintro e w2 ⟨rfl, hb⟩))
  go_ret
  exact ⟨rfl, box_step B.out hb (Nat.le_refl _)⟩
end Go.Proofs.Ytbcidfmfkmeinaa
