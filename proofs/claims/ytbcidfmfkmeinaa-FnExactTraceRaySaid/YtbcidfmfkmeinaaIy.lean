/- Small laws for regions by an invariant. -/
import Derived.Test.YtbcidfmfkmeinaaIx
namespace Go.Proofs.Ytbcidfmfkmeinaa
open Go.RowKit
def aheadB (ops : Array Oper) : Bool := (List.range ops.size).all fun i => match ops[i]? with | some o => o.after.all (fun e => decide (e.on < i)) | none => true
theorem ahead_of {ops : Array Oper} (h : aheadB ops = true) : ∀ (i : Nat) (o : Oper), ops[i]? = some o → ∀ e ∈ o.after, e.on < i := by
  intro i o ho e he
  have hlt := (Array.getElem?_eq_some_iff.1 ho).1
  have h1 := List.all_eq_true.1 h i (List.mem_range.2 hlt)
  rw [ho] at h1
  simp only [] at h1
  have h2 := Array.all_eq_true'.1 h1 e he
  exact of_decide_eq_true h2
theorem getD_none (n i : Nat) : (Array.replicate n false).getD i false = false := by
  rcases Nat.lt_or_ge i n with h | h
  · simp [h]
  · simp [h]
theorem fill_none {a0 : Act} {n : Nat} : ∀ {l : List Lay}, fillA a0 (Array.replicate n false) l = a0
  | [] => rfl
  | x :: l => by
    simp only [fillA]
    rw [getD_none]
    simpa using fill_none (a0 := a0) (n := n) (l := l)
theorem fill_evalT {a0 : Act} {listed : Array Bool} {i d : Nat} {v : Value} {l : List Lay} (hp : l.Pairwise (fun x y => x.d ≠ y.d ∧ x.i ≠ y.i)) (hm : (⟨i, d, v⟩ : Lay) ∈ l) (hl : listed.getD i false = true) (hd : d < a0.tmps.size) : (fillA a0 listed l).tmps[d]?.getD undef = v := by
  have := fill_eval hp hm hl hd
  simpa [Act.eval] using this
theorem fill_otherT {a0 : Act} {listed : Array Bool} {t : Nat} {v : Value} {l : List Lay} (h : ∀ x ∈ l, x.d ≠ t) (e : a0.tmps[t]?.getD undef = v) : (fillA a0 listed l).tmps[t]?.getD undef = v := by
  have := fill_other (a0 := a0) (listed := listed) h
  rw [← e]
  simpa [Act.eval] using this
theorem set_self {listed : Array Bool} {i : Nat} (h : i < listed.size) : (listed.setIfInBounds i true).getD i false = true := by simp [h]
theorem un_of {listed : Array Bool} {i : Nat} (h : i < listed.size) (k : listed.getD i true = false) : listed.getD i false = false := by
  simp [h] at k ⊢; exact k
end Go.Proofs.Ytbcidfmfkmeinaa
