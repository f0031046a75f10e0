/- The neighbours of a node, plainly: no program. -/
import Derived.Test.YtfpklfpcencimaaNm
namespace Go.Proofs.Ytfpklfpcencimaa.Nt
set_option linter.unusedVariables false
/-- The first place from p on whose fibre joins v, d places being left to look at. -/
def nxg (F : Nat → Fb) (v : Int) : Nat → Nat → Nat
  | 0, p => p
  | d + 1, p => if 0 ≤ oth (F p) v then p else nxg F v d (p + 1)
def nx (F : Nat → Fb) (v : Int) (nf p : Nat) : Nat := nxg F v (nf - p) p
section
variable {F : Nat → Fb} {v : Int} {nf p : Nat}
theorem nx_hit (hp : p < nf) (h : 0 ≤ oth (F p) v) : nx F v nf p = p := by
  unfold nx
  obtain ⟨d, hd⟩ : ∃ d, nf - p = d + 1 := ⟨nf - p - 1, by omega⟩
  rw [hd, nxg, if_pos h]
theorem nx_skip (hp : p < nf) (h : ¬ 0 ≤ oth (F p) v) : nx F v nf (p + 1) = nx F v nf p := by
  unfold nx
  obtain ⟨d, hd⟩ : ∃ d, nf - p = d + 1 := ⟨nf - p - 1, by omega⟩
  rw [hd, nxg, if_neg h, show nf - (p + 1) = d by omega]
theorem nx_end : nx F v nf nf = nf := by unfold nx; rw [Nat.sub_self]; rfl
theorem nxg_ge : ∀ (d p : Nat), p ≤ nxg F v d p ∧ nxg F v d p ≤ p + d
  | 0, p => ⟨Nat.le_refl _, Nat.le_refl _⟩
  | d + 1, p => by
    rw [nxg]
    split
    · omega
    · have := nxg_ge d (p + 1); omega
theorem nx_ge : p ≤ nx F v nf p := (nxg_ge _ _).1
theorem nx_le (hp : p ≤ nf) : nx F v nf p ≤ nf := by have := (nxg_ge (F := F) (v := v) (nf - p) p).2; unfold nx; omega
theorem nxg_is : ∀ (d p : Nat), nxg F v d p < p + d → 0 ≤ oth (F (nxg F v d p)) v
  | 0, p => fun h => absurd h (by show ¬ p < p + 0; omega)
  | d + 1, p => by
    rw [nxg]
    split
    · exact fun _ => by assumption
    · exact fun h => nxg_is d (p + 1) (by omega)
theorem nx_is (hp : p ≤ nf) (h : nx F v nf p < nf) : 0 ≤ oth (F (nx F v nf p)) v := nxg_is _ _ (by unfold nx at h; omega)
/-- The neighbours by the first n fibres: node and place. -/
def near (F : Nat → Fb) (v : Int) : Nat → List (Int × Int)
  | 0 => []
  | n + 1 => if 0 ≤ oth (F n) v then near F v n ++ [(oth (F n) v, (n : Int))] else near F v n
theorem near_hit (h : 0 ≤ oth (F p) v) : near F v (p + 1) = near F v p ++ [(oth (F p) v, (p : Int))] := by rw [near, if_pos h]
theorem near_skip (h : ¬ 0 ≤ oth (F p) v) : near F v (p + 1) = near F v p := by rw [near, if_neg h]
theorem near_len : ∀ n, (near F v n).length ≤ n
  | 0 => Nat.le_refl _
  | n + 1 => by
    have := near_len n
    rw [near]
    split
    · simp; omega
    · omega
theorem nearg : ∀ (d p : Nat), near F v (nxg F v d p) = near F v p
  | 0, p => rfl
  | d + 1, p => by
    rw [nxg]
    split
    · rfl
    · rw [nearg d (p + 1)]; exact near_skip (by assumption)
theorem near_nx : near F v (nx F v nf p) = near F v p := nearg _ _
end
/-- What is told of the neighbour at place k: its node and its fibre; 0 and 0 where there is none. -/
def nbN (F : Nat → Fb) (v : Int) (nf k : Nat) : Int := if k < nf then oth (F k) v else 0
def nbF (nf k : Nat) : Int := if k < nf then (k : Int) else 0
theorem nbN_is {F : Nat → Fb} {v : Int} {nf k : Nat} (h : k < nf) : nbN F v nf k = oth (F k) v := if_pos h
theorem nbF_is {nf k : Nat} (h : k < nf) : nbF nf k = (k : Int) := if_pos h
theorem nbN_no {F : Nat → Fb} {v : Int} {nf k : Nat} (h : ¬ k < nf) : nbN F v nf k = 0 := if_neg h
theorem nbF_no {nf k : Nat} (h : ¬ k < nf) : nbF nf k = 0 := if_neg h
end Go.Proofs.Ytfpklfpcencimaa.Nt
