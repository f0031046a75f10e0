/- What a trace answers, told once for both packages. -/
import Derived.Test.YtbcidfmfkmeinaaTw
import Derived.Test.YtbcidfmfkmeinaaTi
import Derived.Test.YtbcidfmfkmeinaaTs
namespace Go.Proofs.Ytbcidfmfkmeinaa
open Go.RowKit Fl
set_option linter.unusedVariables false
theorem clear_or (G : Nat → Nat → Option Nat) (A : Nat → Option Nat) : ∀ m, Clear G A m ∨ ∃ k, k < m ∧ Clear G A k ∧ codeAt G A k ≠ 0
  | 0 => Or.inl fun i hi => absurd hi (Nat.not_lt_zero _)
  | m + 1 => by
    rcases clear_or G A m with h | ⟨k, hk, h1, h2⟩
    · by_cases e : codeAt G A m = 0
      · exact Or.inl (clear_succ h e)
      · exact Or.inr ⟨m, Nat.lt_succ_self _, h, e⟩
    · exact Or.inr ⟨k, by omega, h1, h2⟩
theorem tells_some (G : Nat → Nat → Option Nat) (A : Nat → Option Nat) (n : Nat) : ∃ r, Tells9 G A n r ∧ r.n ≤ 40 := by
  by_cases h : 40 < n
  · exact ⟨_, Or.inl ⟨h, rfl⟩, by simp⟩
  · rcases clear_or G A n with c | ⟨k, hk, h1, h2⟩
    · exact ⟨_, Or.inr (Or.inl ⟨by omega, c, rfl⟩), by simp; omega⟩
    · exact ⟨_, Or.inr (Or.inr ⟨by omega, k, hk, h1, h2, rfl⟩), by simp⟩
/-- N rays of the classes T, in a list between lo and hi. -/
def Ax (N : Nat) (T : Nat → Nat → Option Nat) (lo hi : Nat) (W : World) (v : Value) : Prop := ∃ R : Nat → Nat → Nat, OwW 33 6 lo hi W v N (fun i j => fcl (R i) j) ∧ ∀ i, i < N → Rc (R i) (T i)
namespace Ax
variable {N lo hi : Nat} {T : Nat → Nat → Option Nat} {W W' : World} {v : Value}
theorem later (h : Ax N T lo hi W v) (b : Below W.heap.size W W') : Ax N T lo hi W' v := by obtain ⟨R, h1, h2⟩ := h; exact ⟨R, h1.later b, h2⟩
theorem under (h : Ax N T lo hi W v) {a c : Nat} (b : Within a c W W') (hh : hi ≤ a ∨ c ≤ lo) : Ax N T lo hi W' v := by obtain ⟨R, h1, h2⟩ := h; exact ⟨R, h1.under b hh, h2⟩
theorem form (h : Ax N T lo hi W v) : ∃ ao cap, v = .slice ao N cap := by obtain ⟨R, h1, h2⟩ := h; exact h1.form
end Ax
/-- A trace's answer: code, place, the path's class, N rays of the classes T. -/
def TX (fn : FuncId) (args : Array Value) (w : World) (c a : Int) (P : Option Nat) (N : Nat) (T : Nat → Nat → Option Nat) : Prop :=
  Calls Try.prog fn args w fun e w' => ∃ p v, e = .returned (Tv c a p v) ∧ Fc p P ∧ Ax N T w.heap.size w'.heap.size w' v ∧ Below w.heap.size w w'
theorem TV.told {fn : FuncId} {args : Array Value} {w : World} {G : Nat → Nat → Option Nat} {A : Nat → Option Nat} {n : Nat} {r : Ans} (h : TV fn args w G A n) (hr : Tells9 G A n r) : TX fn args w r.code r.at' r.path r.n (rayAt G A) := by
  refine Calls.mono h ?_
  rintro e w' ⟨s, p, v, R, rfl, ⟨h1, h2, h3, h4⟩, b⟩
  obtain rfl := tells_one hr h1
  exact ⟨p, v, rfl, h2, ⟨R, h3.bounds, h4⟩, b⟩
theorem trace_both (n : Nat) (F : Nat → Nat → Nat) (a : Nat → Nat) {G : Nat → Nat → Option Nat} {A : Nat → Option Nat} (ha : Rc a A) (hF : ∀ i, i < n → Gc (F i) (G i)) (hn : n ≤ 1048576) :
    ∃ (c at' : Int) (P : Option Nat) (N : Nat) (T : Nat → Nat → Option Nat), N ≤ 40 ∧ (∀ W g, SegV W g 41 n 5 (fun i j => fcl (F i) j) → TX 5 #[.slice (some ⟨g, 0, none⟩) n n, Rv a] W c at' P N T) ∧ (∀ W g, SegV W g 41 n 5 (fun i j => fcl (F i) j) → TX 8 #[.slice (some ⟨g, 0, none⟩) n n, Rv a] W c at' P N T) := by
  obtain ⟨r, hr, h40⟩ := tells_some G A n
  exact ⟨_, _, _, _, _, h40, fun W g hs => (sTrace_some g 0 n n F W ha hF hn (fun i hi j hj => by have := hs.cell hi hj; simpa [fcl] using this)).told hr, fun W g hs => (iTrace_some g 0 n n F W ha hF hn (fun i hi j hj => by have := hs.cell hi hj; simpa [fcl] using this)).told hr⟩
theorem eqTR_ax {W : World} {lo hi lo' hi' N : Nat} {c at' : Int} {p p' : Nat} {P : Option Nat} {T : Nat → Nat → Option Nat} {v v' : Value} (hn : N ≤ 1000000000000) (hp : Fc p P) (hp' : Fc p' P) (h : Ax N T lo hi W v) (k : Ax N T lo' hi' W v') :
    Calls Try.prog 9 #[Tv c at' p v, Tv c at' p' v'] W fun e w' => e = .returned (.bool true) ∧ Below W.heap.size W w' := by
  obtain ⟨R, h1, h2⟩ := h
  obtain ⟨R', k1, k2⟩ := k
  exact eqTR_same hn hp hp' h1.rays k1.rays h2 k2
theorem markTR_ax {W : World} {lo hi N : Nat} {c at' : Int} {p : Nat} {T : Nat → Nat → Option Nat} {v : Value} (h : Ax N T lo hi W v) (hl : lo ≤ W.heap.size) (hN : N ≤ 40) :
    Calls Try.prog 12 #[Tv c at' p v, .int .i64 1] W fun e w' => e = .returned (.int .i64 (1 + 6 * N)) ∧ OwW 33 6 lo hi w' v N (mk6 1) ∧ Within lo hi W w' ∧ W.heap.size ≤ w'.heap.size := by
  obtain ⟨R, h1, h2⟩ := h
  exact markTR_own h1 (fun i _ j _ => ⟨_, rfl⟩) hl 1 (by omega) (by omega)
abbrev mk5 (k0 : Nat) : Nat → Nat → Value := fun i j => fcl (mfl 5 k0 i) j
theorem markFs_own {lo hi : Nat} {w : World} {v : Value} {n : Nat} {f : Nat → Nat → Value} (h : OwW 41 5 lo hi w v n f) (hfl : ∀ i, i < n → ∀ j, j < 5 → ∃ x, f i j = .float .f64 x) (k0 : Nat) (hn : n ≤ 1048576) (hk0 : k0 ≤ 1000000) :
    Calls Try.prog 11 #[v, .int .i64 k0] w fun e w' => e = .returned (.int .i64 ((k0 : Int) + 5 * n)) ∧ OwW 41 5 lo hi w' v n (mk5 k0) ∧ Within lo hi w w' ∧ w'.heap.size = w.heap.size := by
  by_cases h0 : n = 0
  · subst h0
    obtain ⟨ao, cap, rfl⟩ := h.form
    refine (markFa_none ao cap k0 w).mono ?_
    rintro e w' ⟨rfl, rfl⟩
    exact ⟨by simp, Or.inl ⟨rfl, ao, cap, rfl⟩, Within.refl _ _ _, rfl⟩
  · rcases h with ⟨rfl, _⟩ | ⟨g, cap, rfl, h1, h2, h3⟩
    · exact absurd rfl h0
    refine (markFa_some g n cap k0 f lo w w hn hk0 h3 hfl (Below.refl _ _) h1).mono ?_
    rintro e w' ⟨rfl, s, b, o, z⟩
    exact ⟨rfl, Or.inr ⟨g, cap, rfl, h1, h2, s⟩, ⟨b, fun k hk _ => o k (by omega)⟩, z⟩
end Go.Proofs.Ytbcidfmfkmeinaa
