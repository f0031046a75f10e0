/- Maps put together: a step. -/
import Derived.Test.YtcmgafgboepllaaBp
namespace Go.Proofs.Ytcmgafgboepllaa
open Go.RowKit Fl
set_option linter.unusedVariables false
set_option linter.unusedSimpArgs false
theorem bst_step {W : World} {g Q s b T A : Nat} {f : Nat → Int} {zc zf : Int} (h : Seg W g 2 0 Q (fun i => .int .i64 (bst f s b T i))) (hA : A = bix s b T) (hc : zc = bst f s b T A) (hf : zf = f T) (hQ : A < Q) :
    Seg (W.setCell ⟨g, A, none⟩ (.int .i64 (zc + zf))) g 2 0 Q (fun i => .int .i64 (bst f s b (T + 1) i)) := by
  have := h.set A hQ (.int .i64 (zc + zf))
  rw [Nat.zero_add] at this
  refine this.congr fun j hj => ?_
  show (if j = A then _ else _) = Value.int .i64 (if j = bix s b T then bst f s b T j + f T else bst f s b T j)
  rw [← hA]
  by_cases e : j = A
  · rw [if_pos e, if_pos e, hc, hf, e]
  · rw [if_neg e, if_neg e]
end Go.Proofs.Ytcmgafgboepllaa
