/- Worst corners, plainly: no program. -/
import Derived.Test.YtelejihgechmgaaPl
namespace Go.Proofs.Ytelejihgechmgaa
namespace Mt
def ab (x : Int) : Int := if x < 0 then -x else x
theorem ab_b {x B : Int} (h : -B ≤ x) (h2 : x ≤ B) : 0 ≤ ab x ∧ ab x ≤ B := by unfold ab; split <;> omega
theorem ab_max (x : Int) : (if x < -x then -x else x) = ab x := by unfold ab; split <;> split <;> omega
/-- How far the slacks move an aim at most. -/
def sway (a : Am) (S : Nat → Int) : Nat → Int
  | 0 => 0
  | k + 1 => sway a S k + ab (a.p k) * S k
theorem swp_b {A : Nat → Am} {n d : Nat} {S : Nat → Int} (G : AGood A n d) {i k : Nat} (hi : i < n) (hk : k < d) (hS : 0 ≤ S k ∧ S k ≤ 1000) : 0 ≤ ab ((A i).p k) * S k ∧ ab ((A i).p k) * S k ≤ 1000000 := by
  have h2 := G.row i hi k hk
  have h3 := ab_b (B := 1000) h2.1 h2.2
  refine ⟨Int.mul_nonneg h3.1 hS.1, ?_⟩
  have := prod_b (a := ab ((A i).p k)) (b := S k) (A := 1000) (B := 1000) (by omega) h3.2 (by omega) hS.2
  omega
theorem sway_b {A : Nat → Am} {n d : Nat} {S : Nat → Int} (G : AGood A n d) {i : Nat} (hi : i < n) (hS : ∀ k, k < d → 0 ≤ S k ∧ S k ≤ 1000) : ∀ {k : Nat}, k ≤ d → 0 ≤ sway (A i) S k ∧ sway (A i) S k ≤ 1000000 * (k : Int)
  | 0, _ => by show 0 ≤ (0 : Int) ∧ (0 : Int) ≤ 1000000 * ((0 : Nat) : Int); omega
  | k + 1, hk => by
    have h1 := sway_b G hi hS (show k ≤ d by omega)
    have h2 := swp_b G hi (show k < d by omega) (hS k (by omega))
    show 0 ≤ sway (A i) S k + ab ((A i).p k) * S k ∧ sway (A i) S k + ab ((A i).p k) * S k ≤ _
    omega
/-- The worst of the first aims. -/
def wst (A : Nat → Am) (d : Nat) (x S : Nat → Int) : Nat → Int
  | 0 => 0
  | k + 1 => max (wst A d x S k) (ab (off (A k) x d) + sway (A k) S d)
def lcode (A : Nat → Am) (n d : Nat) (x : Nat → Int) (ns : Nat) (S : Nat → Int) : Int :=
  if tcode A n d x = 0 then (if ns = d then (if all (fun k => inR (S k) 0 1000) ns then 0 else 3) else 1) else tcode A n d x
def worst (A : Nat → Am) (n d : Nat) (x : Nat → Int) (ns : Nat) (S : Nat → Int) : Int := if lcode A n d x ns S = 0 then wst A d x S n else 0
structure LGood (A : Nat → Am) (n d : Nat) (x : Nat → Int) (ns : Nat) (S : Nat → Int) : Prop where
  g : AGood A n d
  pt : ∀ k, k < d → -12000 ≤ x k ∧ x k ≤ 12000
  ns : ns = d
  sl : ∀ k, k < d → 0 ≤ S k ∧ S k ≤ 1000
theorem tcode_good {A : Nat → Am} {n d : Nat} {x : Nat → Int} (h : tcode A n d x = 0) : AGood A n d ∧ place x d = true := by
  unfold tcode at h
  by_cases e : acode A n d = 0
  · rw [if_pos e] at h
    by_cases e2 : place x d = true
    · exact ⟨agood e, e2⟩
    · rw [if_neg e2] at h; exact absurd h (by decide)
  · rw [if_neg e] at h; exact absurd h e
theorem lgood {A : Nat → Am} {n d : Nat} {x : Nat → Int} {ns : Nat} {S : Nat → Int} (h : lcode A n d x ns S = 0) : LGood A n d x ns S := by
  unfold lcode at h
  by_cases e : tcode A n d x = 0
  · rw [if_pos e] at h
    by_cases e2 : ns = d
    · rw [if_pos e2] at h
      by_cases e3 : all (fun k => inR (S k) 0 1000) ns = true
      · have hg := tcode_good e
        exact ⟨hg.1, place_at hg.2, e2, fun k hk => inR_iff.1 (all_at e3 k (by omega))⟩
      · rw [if_neg e3] at h; exact absurd h (by decide)
    · rw [if_neg e2] at h; exact absurd h (by decide)
  · rw [if_neg e] at h; exact absurd h e
theorem wst_b {A : Nat → Am} {n d : Nat} {x S : Nat → Int} (G : AGood A n d) (hx : ∀ k, k < d → -12000 ≤ x k ∧ x k ≤ 12000) (hS : ∀ k, k < d → 0 ≤ S k ∧ S k ≤ 1000) : ∀ {k : Nat}, k ≤ n → 0 ≤ wst A d x S k ∧ wst A d x S k ≤ 200000000
  | 0, _ => by show 0 ≤ (0 : Int) ∧ (0 : Int) ≤ 200000000; omega
  | k + 1, hk => by
    have h1 := wst_b G hx hS (show k ≤ n by omega)
    have h2 := off_b G (i := k) (by omega) hx (Nat.le_refl d)
    have h3 := sway_b G (i := k) (by omega) hS (Nat.le_refl d)
    have hd : (d : Int) ≤ 10 := by have := G.d10; omega
    have h4 := ab_b (x := off (A k) x d) (B := 120100000) (by omega) (by omega)
    show 0 ≤ max (wst A d x S k) (ab (off (A k) x d) + sway (A k) S d) ∧ max (wst A d x S k) (ab (off (A k) x d) + sway (A k) S d) ≤ _
    omega
end Mt
end Go.Proofs.Ytelejihgechmgaa
