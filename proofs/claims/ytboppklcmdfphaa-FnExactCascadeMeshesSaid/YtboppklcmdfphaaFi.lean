/- What light comes out of a mesh, plainly; a matrix of guides, coupled, is each column's light: plain laws. -/
import Derived.Test.YtboppklcmdfphaaGc
namespace Go.Proofs.Ytboppklcmdfphaa
namespace Rm
/-- Light behind one cell. -/
def fcs (g : Ce) (x : Nat → Int) : Nat → Int := fun r =>
  if (r : Int) = g.j then addM (mulM g.c (x g.i.toNat)) (mulM g.d (x g.j.toNat)) else if (r : Int) = g.i then addM (mulM g.a (x g.i.toNat)) (mulM g.b (x g.j.toNat)) else x r
/-- Light behind the phases and k cells. -/
def fire (ph : Nat → Int) (C : Nat → Ce) (x : Nat → Int) : Nat → Nat → Int
  | 0 => fun i => mulM (x i) (ph i)
  | k + 1 => fcs (C k) (fire ph C x k)
theorem md_md (a : Int) : md (md a) = md a := md_id (md_lo _) (md_hi _)
theorem mulM_mdl (a b : Int) : mulM (md a) b = mulM a b := by unfold mulM; rw [md_md]
theorem mulM_mdr (a b : Int) : mulM a (md b) = mulM a b := by unfold mulM; rw [md_md]
theorem fire_res (ph : Nat → Int) (C : Nat → Ce) (x : Nat → Int) : ∀ k i, 0 ≤ fire ph C x k i ∧ fire ph C x k i < 998244353
  | 0, i => ⟨mulM_lo _ _, mulM_hi _ _⟩
  | k + 1, i => by
    unfold fire fcs
    split
    · exact ⟨addM_lo _ _, addM_hi _ _⟩
    · split
      · exact ⟨addM_lo _ _, addM_hi _ _⟩
      · exact fire_res ph C x k i
theorem fcs_congr {g : Ce} {x y : Nat → Int} {n : Nat} (hi : g.i.toNat < n) (hj : g.j.toNat < n) (h : ∀ r, r < n → x r = y r) {r : Nat} (hr : r < n) : fcs g x r = fcs g y r := by
  unfold fcs
  rw [h _ hi, h _ hj, h r hr]
end Rm
theorem cpl_fire {F : Rm.Mx} {g : Ce} {I J wd : Nat} (hI : (I : Int) = g.i) (hJ : (J : Int) = g.j) {r t : Nat} (ht : t < wd) :
    cpl F I J (Rm.md g.a) (Rm.md g.b) (Rm.md g.c) (Rm.md g.d) wd r t = Rm.fcs g (fun r => F r t) r := by
  unfold cpl Rm.fcs
  rw [if_pos ht, show g.i.toNat = I by omega, show g.j.toNat = J by omega]
  simp only [Rm.mulM_mdl]
  by_cases h1 : r = J
  · rw [if_pos h1, if_pos (show (r : Int) = g.j by omega)]
  · rw [if_neg h1, if_neg (show ¬ (r : Int) = g.j by omega)]
    by_cases h2 : r = I
    · rw [if_pos h2, if_pos (show (r : Int) = g.i by omega)]
    · rw [if_neg h2, if_neg (show ¬ (r : Int) = g.i by omega)]
end Go.Proofs.Ytboppklcmdfphaa
