/- Lengths of right waves are small: for the laws. -/
import Derived.Test.YtegieakbpbaciaaIm
namespace Go.Proofs.Ytegieakbpbaciaa
theorem wf_dim {n : Nat} (h : Wv.wf n = 0) : n ≤ 1000000 := by have := Wv.wf_le h; omega
theorem pf_dim {n m : Nat} (h : Wv.pf n m = 0) : n ≤ 1000000 := wf_dim (Wv.pf_ok h).1
theorem hf_dim {n m : Nat} {g : Nat → Int} (h : Wv.hf n m g = 0) : n ≤ 1000000 := pf_dim (Wv.hf_ok h).1
end Go.Proofs.Ytegieakbpbaciaa
