/- Results with a code and rows of one length: compared, marked, held: contracts. -/
import Derived.Test.YtinfbbbgfkaioaaMods
namespace Go.Proofs.Ytinfbbbgfkaioaa
open Go.RowKit
set_option linter.unusedVariables false
/-- A result with a code, to be read: nothing (a fault, or no row), or 0 and n rows of m numbers. -/
def OutM (w : World) (c : Int) (v : Value) (n m : Nat) (F : Rm.Mx) : Prop := ((c ≠ 0 ∨ n = 0) ∧ ∃ ao cap, v = .slice ao 0 cap) ∨ ((c = 0 ∧ 0 < n) ∧ RdMat w v n (fun _ => m) F)
theorem OutM.later {w w' : World} {c : Int} {v : Value} {n m : Nat} {F : Rm.Mx} (h : OutM w c v n m F) (hb : Below w.heap.size w w') : OutM w' c v n m F := by
  rcases h with h | ⟨h, h1⟩
  · exact Or.inl h
  · exact Or.inr ⟨h, h1.later hb⟩
theorem OutM.shape {w : World} {c : Int} {v : Value} {n m : Nat} {F : Rm.Mx} (h : OutM w c v n m F) : ∃ ao k cap, v = .slice ao k cap := by
  rcases h with ⟨_, ao, cap, rfl⟩ | ⟨_, h⟩
  · exact ⟨ao, 0, cap, rfl⟩
  · obtain ⟨ao, cap, e⟩ := h.shape
    exact ⟨ao, n, cap, e⟩
/-- A result with a code that owns its memory, from lo on, below hi. -/
def OwnM (lo hi : Nat) (w : World) (c : Int) (v : Value) (n m : Nat) (F : Rm.Mx) : Prop := ((c ≠ 0 ∨ n = 0) ∧ ∃ ao cap, v = .slice ao 0 cap) ∨ ((c = 0 ∧ 0 < n) ∧ ∃ l : Lie, v = .slice (some ⟨l.b, 0, none⟩) n l.cap ∧ Mat lo hi w l n (fun _ => m) F)
theorem OwnM.keep {lo hi : Nat} {w w' : World} {c : Int} {v : Value} {n m : Nat} {F : Rm.Mx} (h : OwnM lo hi w c v n m F) (hk : Keep lo hi w w') : OwnM lo hi w' c v n m F := by
  rcases h with h | ⟨h, l, rfl, hm⟩
  · exact Or.inl h
  · exact Or.inr ⟨h, l, rfl, hm.keep hk⟩
theorem OwnM.rd {lo hi : Nat} {w : World} {c : Int} {v : Value} {n m : Nat} {F : Rm.Mx} (h : OwnM lo hi w c v n m F) : OutM w c v n m F := by
  rcases h with h | ⟨h, l, rfl, hm⟩
  · exact Or.inl h
  · exact Or.inr ⟨h, hm.rd⟩
theorem mx_le {n m : Nat} (h : n ≤ 1000) (h2 : m ≤ 1000) : Sm (fun _ => m) n ≤ 1000000 := by
  rw [Sm_const]
  exact Nat.mul_le_mul h h2
/-- A result that has been marked from 1 on, the next mark being r. -/
def MkdM (lo hi : Nat) (w : World) (c : Int) (v : Value) (n m : Nat) (r : Int) : Prop := ((c ≠ 0 ∨ n = 0) ∧ (∃ ao cap, v = .slice ao 0 cap) ∧ r = 1) ∨ ((c = 0 ∧ 0 < n) ∧ r = 1 + (Sm (fun _ => m) n : Nat) ∧ ∃ l : Lie, v = .slice (some ⟨l.b, 0, none⟩) n l.cap ∧ Mat lo hi w l n (fun _ => m) (fun i j => 1 + (Sm (fun _ => m) i : Nat) + j))
theorem MkdM.keep {lo hi : Nat} {w w' : World} {c : Int} {v : Value} {n m : Nat} {r : Int} (h : MkdM lo hi w c v n m r) (hk : Keep lo hi w w') : MkdM lo hi w' c v n m r := by
  rcases h with h | ⟨h, h0, l, rfl, hm⟩
  · exact Or.inl h
  · exact Or.inr ⟨h, h0, l, rfl, hm.keep hk⟩
theorem MkdM.pos {lo hi : Nat} {w : World} {c : Int} {v : Value} {n m : Nat} {r : Int} (h : MkdM lo hi w c v n m r) : 0 ≤ r := by
  rcases h with ⟨_, _, rfl⟩ | ⟨_, rfl, _⟩ <;> omega
end Go.Proofs.Ytinfbbbgfkaioaa
