/- Descend's answers: their shape, their length. -/
import Derived.Test.YtelejihgechmgaaMd
import Derived.Test.YtelejihgechmgaaOg
namespace Go.Proofs.Ytelejihgechmgaa
open Go.RowKit
set_option linter.unusedVariables false
theorem OutD.shape {w : World} {c : Int} {pv mv : Value} {d : Nat} {ps : List Mt.Pnt} {ms : List Int} (h : OutD w c pv mv d ps ms) : ∃ ao k cap mo j mc, pv = .slice ao k cap ∧ mv = .slice mo j mc := by
  obtain ⟨ao, cap, mo, mc, e1, e2, _⟩ := h
  exact ⟨_, _, _, _, _, _, e1, e2⟩
theorem dlen {A : Nat → Mt.Am} {n d : Nat} {x : Mt.Pnt} {s r : Int} (h : Mt.dcode A n d x s r = 0) : (Mt.dpath A n d x s r).length ≤ 2001 ∧ d ≤ 10 := by
  unfold Mt.dcode at h
  by_cases e0 : Mt.tcode A n d x = 0
  · rw [if_pos e0] at h
    by_cases e1 : (Mt.inR s 1 1000 && Mt.inR r 0 200) = true
    · have e2 : Mt.inR s 1 1000 = true ∧ Mt.inR r 0 200 = true := by simpa using e1
      have e4 := Mt.inR_iff.1 e2.2
      have hac : Mt.acode A n d = 0 := by
        unfold Mt.tcode at e0
        split at e0
        · assumption
        · contradiction
      have hd := (Mt.agood hac).d10
      have h2 := (Mt.run_step (A := A) (n := n) (d := d) r.toNat (ps := [x]) s ⟨by simp, fun p hp => by simp at hp; rw [hp]; exact e0⟩).2
      have h3 : r.toNat * d ≤ 200 * 10 := Nat.mul_le_mul (by omega) hd
      refine ⟨?_, hd⟩
      show (Mt.run A n d r.toNat [x] s).length ≤ 2001
      simp at h2
      omega
    · rw [if_neg e1] at h; exact absurd h (by decide)
  · rw [if_neg e0] at h; exact absurd h e0
theorem dlen_b {A : Nat → Mt.Am} {n d : Nat} {x : Mt.Pnt} {s r c : Int} {ps : List Mt.Pnt} (hc : c = Mt.dcode A n d x s r) (hp : ps = Mt.dpath A n d x s r) : (c = 0 → ps.length * d + (mers A n d ps).length + ps.length ≤ 1000000) ∧ cnt c ps.length ≤ 1048576 ∧ cnt c (mers A n d ps).length ≤ 1048576 := by
  have h : c = 0 → ps.length ≤ 2001 ∧ d ≤ 10 := fun e => by rw [hp]; exact dlen (hc ▸ e)
  rw [mers_len]
  refine ⟨fun e => ?_, ?_, ?_⟩
  · obtain ⟨h1, h2⟩ := h e
    have := Nat.mul_le_mul h1 h2
    omega
  · unfold cnt; split
    · rename_i e; have := (h e).1; omega
    · omega
  · unfold cnt; split
    · rename_i e; have := (h e).1; omega
    · omega
end Go.Proofs.Ytelejihgechmgaa
