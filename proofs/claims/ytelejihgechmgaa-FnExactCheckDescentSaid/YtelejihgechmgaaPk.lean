/- What a path must be that is proved, plainly: no program. -/
import Derived.Test.YtelejihgechmgaaPw
namespace Go.Proofs.Ytelejihgechmgaa
namespace Mt
/-- Point k is as it must be. -/
def okP (A : Nat → Am) (n : Nat) (Ls : Nat → Nat) (F : Nat → Nat → Int) (M : Nat → Int) (k : Nat) : Bool :=
  decide (tcode A n (Ls k) (F k) = 0) && decide (merit A n (Ls k) (F k) = M k) && (decide (k = 0) || decide (M k < M (k - 1)))
def chk (A : Nat → Am) (n : Nat) (c : Int) (np : Nat) (Ls : Nat → Nat) (F : Nat → Nat → Int) (nm : Nat) (M : Nat → Int) : Bool :=
  decide (c = 0) && decide (np ≠ 0) && decide (nm = np) && all (okP A n Ls F M) np
theorem chk_c {A : Nat → Am} {n : Nat} {c : Int} {np : Nat} {Ls : Nat → Nat} {F : Nat → Nat → Int} {nm : Nat} {M : Nat → Int} (h : c ≠ 0) : chk A n c np Ls F nm M = false := by unfold chk; simp [h]
theorem chk_n {A : Nat → Am} {n : Nat} {c : Int} {np : Nat} {Ls : Nat → Nat} {F : Nat → Nat → Int} {nm : Nat} {M : Nat → Int} (h : np = 0) : chk A n c np Ls F nm M = false := by unfold chk; simp [h]
theorem chk_m {A : Nat → Am} {n : Nat} {c : Int} {np : Nat} {Ls : Nat → Nat} {F : Nat → Nat → Int} {nm : Nat} {M : Nat → Int} (h : nm ≠ np) : chk A n c np Ls F nm M = false := by unfold chk; simp [h]
theorem chk_all {A : Nat → Am} {n : Nat} {c : Int} {np : Nat} {Ls : Nat → Nat} {F : Nat → Nat → Int} {nm : Nat} {M : Nat → Int} (h1 : c = 0) (h2 : np ≠ 0) (h3 : nm = np) : chk A n c np Ls F nm M = all (okP A n Ls F M) np := by unfold chk; simp [h1, h2, h3]
theorem okP_t {A : Nat → Am} {n : Nat} {Ls : Nat → Nat} {F : Nat → Nat → Int} {M : Nat → Int} {k : Nat} (h1 : tcode A n (Ls k) (F k) = 0) (h2 : merit A n (Ls k) (F k) = M k) (h3 : k = 0 ∨ M k < M (k - 1)) : okP A n Ls F M k = true := by
  unfold okP
  rw [decide_eq_true h1, decide_eq_true h2]
  rcases h3 with h3 | h3
  · rw [decide_eq_true h3]; rfl
  · rw [decide_eq_true h3, Bool.or_true]; rfl
theorem okP_1 {A : Nat → Am} {n : Nat} {Ls : Nat → Nat} {F : Nat → Nat → Int} {M : Nat → Int} {k : Nat} (h1 : tcode A n (Ls k) (F k) ≠ 0) : okP A n Ls F M k = false := by unfold okP; simp [h1]
theorem okP_2 {A : Nat → Am} {n : Nat} {Ls : Nat → Nat} {F : Nat → Nat → Int} {M : Nat → Int} {k : Nat} (h1 : merit A n (Ls k) (F k) ≠ M k) : okP A n Ls F M k = false := by unfold okP; simp [h1]
theorem okP_3 {A : Nat → Am} {n : Nat} {Ls : Nat → Nat} {F : Nat → Nat → Int} {M : Nat → Int} {k : Nat} (h1 : k ≠ 0) (h2 : M (k - 1) ≤ M k) : okP A n Ls F M k = false := by
  unfold okP
  have : ¬ M k < M (k - 1) := by omega
  simp [h1, this]
end Mt
end Go.Proofs.Ytelejihgechmgaa
