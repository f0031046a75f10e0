/- Meshes, plainly: their faults, their determinants: plain laws, no program. -/
import Derived.Test.YtboppklcmdfphaaPg
namespace Go.Proofs.Ytboppklcmdfphaa.Rm
def cdet (g : Ce) : Int := addM (mulM g.a g.d) (-(mulM g.b g.c))
theorem cdet_lo (g : Ce) : 0 ≤ cdet g := addM_lo _ _
theorem cdet_hi (g : Ce) : cdet g < 998244353 := addM_hi _ _
def isG (i side : Int) : Bool := decide (0 ≤ i) && decide (i < side)
def fitB (side : Int) (g : Ce) : Bool := isG g.i side && isG g.j side && (g.i != g.j)
def fitsB (side : Int) (C : Nat → Ce) : Nat → Bool
  | 0 => true
  | k + 1 => fitsB side C k && fitB side (C k)
theorem fits_all {side : Int} {C : Nat → Ce} : ∀ {n : Nat}, fitsB side C n = true → ∀ k, k < n → fitB side (C k) = true
  | 0, _, k, hk => absurd hk (Nat.not_lt_zero _)
  | n + 1, h, k, hk => by
    unfold fitsB at h
    rw [Bool.and_eq_true] at h
    by_cases e : k = n
    · subst e; exact h.2
    · exact fits_all h.1 k (by omega)
theorem fits_stop {side : Int} {C : Nat → Ce} {n k : Nat} (hk : k < n) (h : fitB side (C k) = false) : fitsB side C n = false := by
  cases e : fitsB side C n with
  | false => rfl
  | true => rw [fits_all e k hk] at h; cases h
/-- One of the first n numbers is 0. -/
def anyZ (f : Nat → Int) : Nat → Bool
  | 0 => false
  | k + 1 => anyZ f k || (f k == 0)
theorem anyZ_hit {f : Nat → Int} : ∀ {n k : Nat}, k < n → f k = 0 → anyZ f n = true
  | 0, k, hk, _ => absurd hk (Nat.not_lt_zero _)
  | n + 1, k, hk, h => by
    unfold anyZ
    by_cases e : k = n
    · subst e; simp [h]
    · rw [anyZ_hit (show k < n by omega) h]; rfl
/-- The product of the first k phases, and of so many cells. -/
def pdet (ph : Nat → Int) : Nat → Int
  | 0 => 1
  | k + 1 => mulM (pdet ph k) (ph k)
def mdet (x : Int) (C : Nat → Ce) : Nat → Int
  | 0 => x
  | k + 1 => mulM (mdet x C k) (cdet (C k))
def det (np : Nat) (ph : Nat → Int) (nc : Nat) (C : Nat → Ce) : Int := mdet (pdet ph np) C nc
theorem pdet_res (ph : Nat → Int) : ∀ k, 0 ≤ pdet ph k ∧ pdet ph k < 998244353
  | 0 => by simp [pdet]
  | k + 1 => ⟨mulM_lo _ _, mulM_hi _ _⟩
theorem mdet_res {x : Int} (hx : 0 ≤ x ∧ x < 998244353) (C : Nat → Ce) : ∀ k, 0 ≤ mdet x C k ∧ mdet x C k < 998244353
  | 0 => hx
  | _ + 1 => ⟨mulM_lo _ _, mulM_hi _ _⟩
theorem pdet_nought (ph : Nat → Int) : ∀ n, (pdet ph n == 0) = anyZ (fun i => md (ph i)) n
  | 0 => rfl
  | n + 1 => by
    have h1 := pdet_nought ph n
    have h2 := pdet_res ph n
    unfold pdet anyZ
    rw [← h1, Bool.eq_iff_iff]
    simp only [beq_iff_eq, Bool.or_eq_true]
    rw [mulM_nought, md_id h2.1 h2.2]
theorem mdet_nought {x : Int} (hx : 0 ≤ x ∧ x < 998244353) (C : Nat → Ce) : ∀ n, (mdet x C n == 0) = ((x == 0) || anyZ (fun i => cdet (C i)) n)
  | 0 => by simp [mdet, anyZ]
  | n + 1 => by
    have h1 := mdet_nought hx C n
    have h2 := mdet_res hx C n
    unfold mdet anyZ
    rw [← Bool.or_assoc, ← h1, Bool.eq_iff_iff]
    simp only [beq_iff_eq, Bool.or_eq_true]
    rw [mulM_nought, md_id h2.1 h2.2, md_id (cdet_lo _) (cdet_hi _)]
theorem det_nought (np : Nat) (ph : Nat → Int) (nc : Nat) (C : Nat → Ce) : (det np ph nc C == 0) = (anyZ (fun i => md (ph i)) np || anyZ (fun i => cdet (C i)) nc) := by
  unfold det
  rw [mdet_nought (pdet_res ph np), pdet_nought]
def mfault (side : Int) (np : Nat) (ph : Nat → Int) (nc : Nat) (C : Nat → Ce) : Int :=
  if 24 < side ∨ 600 < (nc : Int) then 2 else if side < 1 ∨ (np : Int) ≠ side ∨ fitsB side C nc = false then 1
  else if det np ph nc C = 0 then 6 else 0
theorem mfault_ok {side : Int} {np : Nat} {ph : Nat → Int} {nc : Nat} {C : Nat → Ce} (h : mfault side np ph nc C = 0) :
    1 ≤ side ∧ side ≤ 24 ∧ nc ≤ 600 ∧ (np : Int) = side ∧ fitsB side C nc = true := by
  unfold mfault at h
  split at h
  · omega
  · split at h
    · omega
    · rename_i h1 h2
      refine ⟨by omega, by omega, by omega, by omega, ?_⟩
      cases e : fitsB side C nc with
      | true => rfl
      | false => exact absurd (Or.inr (Or.inr e)) h2
theorem fit_told {side : Int} {g : Ce} (h : fitB side g = true) : 0 ≤ g.i ∧ g.i < side ∧ 0 ≤ g.j ∧ g.j < side ∧ g.i ≠ g.j := by
  unfold fitB isG at h
  simp only [Bool.and_eq_true, decide_eq_true_eq, bne_iff_ne] at h
  exact ⟨h.1.1.1, h.1.1.2, h.1.2.1, h.1.2.2, h.2⟩
end Go.Proofs.Ytboppklcmdfphaa.Rm
