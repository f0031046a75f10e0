/- Taking a guard down, plainly: its place, its two lights' places, and what is left of both lists. -/
import Derived.Test.YtinfbbbgfkaioaaGf
namespace Go.Proofs.Ytinfbbbgfkaioaa
open Go.RowKit
set_option linter.unusedVariables false
set_option linter.unusedSimpArgs false
/-- Place i of a list that lacks place t, in the whole list. -/
def skp (t i : Nat) : Nat := if i < t then i else i + 1
/-- The place of place b in a list that lacks place a. -/
def bk1 (a b : Nat) : Nat := if b < a then b else b - 1
/-- Place i of a list that lacks places a and b, in the whole list. -/
def two (a b i : Nat) : Nat := skp a (skp (bk1 a b) i)
/-- How many of the first j places are neither a nor b. -/
def cn (a b j : Nat) : Nat := j - (if a < j then 1 else 0) - (if b < j then 1 else 0)
theorem skp_bk1 {a b : Nat} (h : a ≠ b) : skp a (bk1 a b) = b := by
  unfold skp bk1
  by_cases c : b < a
  · rw [if_pos c, if_pos c]
  · rw [if_neg c, if_neg (by omega)]; omega
theorem skp_ne (t i : Nat) : skp t i ≠ t := by unfold skp; split <;> omega
theorem skp_inj {t i j : Nat} (h : skp t i = skp t j) : i = j := by unfold skp at h; split at h <;> split at h <;> omega
theorem two_lt {a b i M : Nat} (hi : i < M) : two a b i < M + 2 := by unfold two skp; split <;> split <;> omega
theorem two_na (a b i : Nat) : two a b i ≠ a := skp_ne _ _
theorem two_nb {a b : Nat} (h : a ≠ b) (i : Nat) : two a b i ≠ b := by
  intro e
  have h2 : skp (bk1 a b) i = bk1 a b := skp_inj (t := a) (e.trans (skp_bk1 h).symm)
  exact skp_ne _ _ h2
theorem two_inj {a b i j : Nat} (h : two a b i = two a b j) : i = j := skp_inj (skp_inj h)
theorem cn_two {a b i : Nat} (h : a ≠ b) : cn a b (two a b i) = i := by
  unfold cn two skp bk1
  split <;> split <;> split <;> split <;> split <;> omega
theorem cn_zero (a b : Nat) : cn a b 0 = 0 := by unfold cn; simp
theorem cn_out {a b j : Nat} (h : a ≠ b) (e : j = a ∨ j = b) : cn a b (j + 1) = cn a b j := by
  unfold cn; split <;> split <;> split <;> split <;> omega
theorem cn_in {a b j : Nat} (hab : a ≠ b) (ha : j ≠ a) (hb : j ≠ b) : cn a b (j + 1) = cn a b j + 1 := by
  unfold cn; split <;> split <;> split <;> split <;> omega
theorem cn_le (a b j : Nat) : cn a b j ≤ j := by unfold cn; split <;> split <;> omega
theorem cn_all {a b M : Nat} (ha : a < M + 2) (hb : b < M + 2) : cn a b (M + 2) = M := by unfold cn; rw [if_pos ha, if_pos hb]; omega
theorem cn_lt {a b j : Nat} (h : a < j ∨ b < j) : cn a b j < j := by unfold cn; split <;> split <;> omega
theorem cn_mono {a b i j : Nat} (h : i ≤ j) (hab : a ≠ b) : cn a b i ≤ cn a b j := by
  induction j with
  | zero => have : i = 0 := by omega
            subst this; exact Nat.le_refl _
  | succ j ih =>
    by_cases e : i = j + 1
    · subst e; exact Nat.le_refl _
    · have := ih (by omega)
      by_cases c : j = a ∨ j = b
      · rw [cn_out hab c]; exact this
      · rw [cn_in hab (fun e => c (Or.inl e)) (fun e => c (Or.inr e))]; omega
/-- Guards as lights that have their working light's Id: their places are looked for alike. -/
def gli (G : Nat → Gu) (k : Nat) : Li := { Nt.nilL with id := (G k).wk }
/-- GuardDown's code. -/
def gdcode (nodes slots : Int) (nf : Nat) (F : Nat → Fb) (n : Nat) (L : Nat → Li) (ng : Nat) (G : Nat → Gu) (work : Int) : Int :=
  if gfault nodes slots nf F n L ng G = 0 then (if fnd (gli G) work ng = -1 then 4 else 0) else gfault nodes slots nf F n L ng G
section
variable {nodes slots work : Int} {nf : Nat} {F : Nat → Fb} {n : Nat} {L : Nat → Li} {ng : Nat} {G : Nat → Gu}
theorem gdc_net (h : gfault nodes slots nf F n L ng G ≠ 0) : gdcode nodes slots nf F n L ng G work = gfault nodes slots nf F n L ng G := by unfold gdcode; rw [if_neg h]
theorem gdc_none (h : gfault nodes slots nf F n L ng G = 0) (k : fnd (gli G) work ng = -1) : gdcode nodes slots nf F n L ng G work = 4 := by unfold gdcode; rw [if_pos h, if_pos k]
theorem gdc_ok (h : gfault nodes slots nf F n L ng G = 0) (k : fnd (gli G) work ng ≠ -1) : gdcode nodes slots nf F n L ng G work = 0 := by unfold gdcode; rw [if_pos h, if_neg k]
theorem gdc_zero (h : gdcode nodes slots nf F n L ng G work = 0) : gfault nodes slots nf F n L ng G = 0 ∧ fnd (gli G) work ng ≠ -1 := by
  unfold gdcode at h
  by_cases z : gfault nodes slots nf F n L ng G = 0
  · rw [if_pos z] at h
    refine ⟨z, fun e => ?_⟩
    rw [if_pos e] at h
    omega
  · rw [if_neg z] at h; exact absurd h z
theorem gf_zero (h : gfault nodes slots nf F n L ng G = 0) : Nt.lfault nodes slots nf F n L = 0 ∧ ng ≤ 20 ∧ ∀ k, k < ng → gcd L n G k (G k) = 0 := by
  by_cases z : Nt.lfault nodes slots nf F n L = 0
  · refine ⟨z, ?_⟩
    by_cases y : 20 < (ng : Int)
    · rw [gf_many z y] at h; omega
    · rw [gf_fst z y] at h
      exact ⟨by omega, Nt.fst_nil h⟩
  · rw [gf_lits z] at h; exact absurd h z
/-- The guard of that work, its two lights, and that no other guard has that work. -/
theorem gd_found (h : gfault nodes slots nf F n L ng G = 0) (k : fnd (gli G) work ng ≠ -1) : ∃ N t M a b : Nat, ng = N + 1 ∧ t < N + 1 ∧ fnd (gli G) work ng = (t : Int) ∧ n = M + 2 ∧ a < M + 2 ∧ b < M + 2 ∧ a ≠ b ∧ fnd L work n = (a : Int) ∧ fnd L (G t).sp n = (b : Int) ∧ (L a).id = work ∧ (L b).id = (G t).sp ∧ (G t).wk = work ∧
    (∀ j, j < N + 1 → ((G j).wk == work) = decide (j = t)) := by
  obtain ⟨h1, h2, h3⟩ := gf_zero h
  obtain ⟨t, ht, e1, e2⟩ := fnd_is k
  have e3 : (G t).wk = work := e2
  have hc := h3 t ht
  by_cases ea : fnd L (G t).wk n = -1
  · rw [gcd_four (Or.inl ea)] at hc; omega
  by_cases eb : fnd L (G t).sp n = -1
  · rw [gcd_four (Or.inr eb)] at hc; omega
  obtain ⟨a, ha, a1, a2⟩ := fnd_is ea
  obtain ⟨b, hb, b1, b2⟩ := fnd_is eb
  have hab : a ≠ b := by
    intro e
    rw [gcd_one a1 b1 (by unfold gbad; rw [e]; simp)] at hc
    omega
  rw [e3] at a1 a2
  have one : ∀ j, j < ng → (G j).wk = work → j = t := by
    have key : ∀ i j, i < j → j < ng → (G i).wk = work → (G j).wk = work → False := by
      intro i j hij hj hi hjw
      have hc := h3 j hj
      by_cases ea : fnd L (G j).wk n = -1
      · rw [gcd_four (Or.inl ea)] at hc; omega
      by_cases eb : fnd L (G j).sp n = -1
      · rw [gcd_four (Or.inr eb)] at hc; omega
      obtain ⟨a, ha, a1, a2⟩ := fnd_is ea
      obtain ⟨b, hb, b1, b2⟩ := fnd_is eb
      have : gin G (G j).wk j = true := Nt.any_hit (q := fun i => gone (G i) (G j).wk) hij (by unfold gone; rw [hi, hjw]; simp)
      rw [gcd_one a1 b1 (by unfold gbad; rw [this]; simp)] at hc
      omega
    intro j hj hjw
    by_cases c : j < t
    · exact (key j t c ht hjw e3).elim
    · by_cases d : t < j
      · exact (key t j d hj e3 hjw).elim
      · omega
  refine ⟨ng - 1, t, n - 2, a, b, by omega, by omega, e1, by omega, by omega, by omega, hab, a1, b1, a2, b2, e3, fun j hj => ?_⟩
  by_cases c : j = t
  · subst c; simp [e3]
  · have : (G j).wk ≠ work := fun e => c (one j (by omega) e)
    simp [c, this]
end
end Go.Proofs.Ytinfbbbgfkaioaa
