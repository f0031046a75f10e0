/- Two systems joined: the program's way. -/
import Derived.Test.YtdmjfphmgpkfcaaIp
namespace Go.Proofs.Ytdmjfphmgpkfcaa
open Go.RowKit
set_option linter.unusedVariables false
set_option linter.unusedSimpArgs false
/-- The system of no part. -/
def isU (m : Mx) : Bool := decide (m.A.n = 1 ∧ m.A.d = 1 ∧ m.B.n = 0 ∧ m.B.d = 1 ∧ m.C.n = 0 ∧ m.C.d = 1 ∧ m.D.n = 1 ∧ m.D.d = 1)
theorem isU_t {m : Mx} (h : isU m = true) : m.A = one ∧ m.B = nil ∧ m.C = nil ∧ m.D = one := by
  have := of_decide_eq_true h
  obtain ⟨⟨a, b⟩, ⟨c, d⟩, ⟨e, f⟩, ⟨g, k⟩⟩ := m
  simp only at this
  obtain ⟨rfl, rfl, rfl, rfl, rfl, rfl, rfl, rfl⟩ := this
  exact ⟨rfl, rfl, rfl, rfl⟩
theorem mx_ok {m : Mx} (h : m.ok = true) : m.A.ok = true ∧ m.B.ok = true ∧ m.C.ok = true ∧ m.D.ok = true := by
  simpa [Mx.ok, and_assoc] using h
theorem join_l {a b : Mx} (ha : a.ok = true) (hb : b.ok = true) (h : isU a = true) : jC a b = 0 ∧ jQA a b = b.A ∧ jQB a b = b.B ∧ jQC a b = b.C ∧ jQD a b = b.D := by
  obtain ⟨h1, h2, h3, h4⟩ := isU_t h
  obtain ⟨k1, k2, k3, k4⟩ := mx_ok hb
  have A : jKA a b = true ∧ jQA a b = b.A := by unfold jKA jQA; rw [h1, h3]; exact two_at (mul_one k1) (mul_nil k2) k1
  have B : jKB a b = true ∧ jQB a b = b.B := by unfold jKB jQB; rw [h2, h4]; exact two_at' (mul_nil k1) (mul_one k2) k2
  have C : jKC a b = true ∧ jQC a b = b.C := by unfold jKC jQC; rw [h1, h3]; exact two_at (mul_one k3) (mul_nil k4) k3
  have D : jKD a b = true ∧ jQD a b = b.D := by unfold jKD jQD; rw [h2, h4]; exact two_at' (mul_nil k3) (mul_one k4) k4
  refine ⟨?_, A.2, B.2, C.2, D.2⟩
  simp [jC, ha, hb, A.1, B.1, C.1, D.1]
theorem join_r {a b : Mx} (ha : a.ok = true) (hb : b.ok = true) (h : isU b = true) : jC a b = 0 ∧ jQA a b = a.A ∧ jQB a b = a.B ∧ jQC a b = a.C ∧ jQD a b = a.D := by
  obtain ⟨h1, h2, h3, h4⟩ := isU_t h
  obtain ⟨k1, k2, k3, k4⟩ := mx_ok ha
  have A : jKA a b = true ∧ jQA a b = a.A := by unfold jKA jQA; rw [h1, h2]; exact two_at (one_mul k1) (nil_mul k3) k1
  have B : jKB a b = true ∧ jQB a b = a.B := by unfold jKB jQB; rw [h1, h2]; exact two_at (one_mul k2) (nil_mul k4) k2
  have C : jKC a b = true ∧ jQC a b = a.C := by unfold jKC jQC; rw [h3, h4]; exact two_at' (nil_mul k1) (one_mul k3) k3
  have D : jKD a b = true ∧ jQD a b = a.D := by unfold jKD jQD; rw [h3, h4]; exact two_at' (nil_mul k2) (one_mul k4) k4
  refine ⟨?_, A.2, B.2, C.2, D.2⟩
  simp [jC, ha, hb, A.1, B.1, C.1, D.1]
theorem join_flag {a b : Mx} (ha : a.ok = true) (hb : b.ok = true) : jC a b = if ((((false || !jKA a b) || !jKB a b) || !jKC a b) || !jKD a b) = true then 3 else 0 := by
  unfold jC; rw [ha, hb]
  cases jKA a b <;> cases jKB a b <;> cases jKC a b <;> cases jKD a b <;> rfl
end Go.Proofs.Ytdmjfphmgpkfcaa
