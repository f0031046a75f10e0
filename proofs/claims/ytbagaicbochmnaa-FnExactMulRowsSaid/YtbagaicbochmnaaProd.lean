/- MulRows of both packages, whatever comes in: contracts. -/
import Derived.Test.YtbagaicbochmnaaMods
import Derived.Test.YtbagaicbochmnaaSmul
namespace Go.Proofs.Ytbagaicbochmnaa
open Go.RowKit
def mulCode (na : Nat) (La : Nat → Nat) (nb : Nat) (Lb : Nat → Nat) : Int := if faultOf na La ≠ 0 then faultOf na La else if faultOf nb Lb ≠ 0 then faultOf nb Lb else if na ≠ nb then 1 else 0
theorem mulCode_ok {na nb : Nat} {La Lb : Nat → Nat} (h : mulCode na La nb Lb = 0) : faultOf na La = 0 ∧ faultOf nb Lb = 0 ∧ na = nb := by
  unfold mulCode at h
  by_cases h1 : faultOf na La = 0
  · rw [if_neg (by simp [h1])] at h
    by_cases h2 : faultOf nb Lb = 0
    · rw [if_neg (by simp [h2])] at h
      by_cases h3 : na = nb
      · exact ⟨h1, h2, h3⟩
      · rw [if_pos h3] at h; omega
    · rw [if_pos h2] at h; exact absurd h h2
  · rw [if_pos h1] at h; exact absurd h h1
theorem mulCode_dim {na nb : Nat} {La Lb : Nat → Nat} (h : mulCode na La nb Lb = 0) : na ≤ 1000 := by
  have := (fault_right (mulCode_ok h).1).2.1
  omega
theorem sMulRows_any {ma mb : Lie} {na nb : Nat} {La Lb : Nat → Nat} {A B : Rm.Mx} {w : World} (hA : Mat 0 w.heap.size w ma na La A) (hB : Mat 0 w.heap.size w mb nb Lb B) (hna : na ≤ 1000000000000) (hnb : nb ≤ 1000000000000)
    (hLa : ∀ k, k < na → La k ≤ 1000000000000) (hLb : ∀ k, k < nb → Lb k ≤ 1000000000000) :
    Calls Try.prog 21 #[.slice (some ⟨ma.b, 0, none⟩) na ma.cap, .slice (some ⟨mb.b, 0, none⟩) nb mb.cap] w fun e w' => ∃ v, e = .returned (.agg #[.int .i64 (mulCode na La nb Lb), v]) ∧
      OutR w' (mulCode na La nb Lb) v na (fun i j => Rm.dot A B i j na) ∧ Below w.heap.size w w' := by
  by_cases h1 : faultOf na La = 0
  · by_cases h2 : faultOf nb Lb = 0
    · by_cases h3 : na = nb
      · subst h3
        rw [show mulCode na La na Lb = 0 by simp [mulCode, h1, h2]]
        obtain ⟨q0, q1, q2⟩ := fault_right h1
        obtain ⟨_, _, q3⟩ := fault_right h2
        exact (sMul_ok hA hB q1 q0 q2 q3 h1 h2).mono fun e w' ⟨v, he, hm, hb⟩ => ⟨v, he, Or.inr ⟨rfl, hm⟩, hb⟩
      · rw [show mulCode na La nb Lb = 1 by simp [mulCode, h1, h2, h3]]
        exact (sMul_e3 hA hB hna hnb hLa hLb h1 h2 h3).mono fun e w' ⟨he, hb⟩ => ⟨_, he, Or.inl ⟨by omega, rfl⟩, hb⟩
    · rw [show mulCode na La nb Lb = faultOf nb Lb by simp [mulCode, h1, h2]]
      exact (sMul_e2 hA hB hna hnb hLa hLb h1 h2).mono fun e w' ⟨he, hb⟩ => ⟨_, he, Or.inl ⟨h2, rfl⟩, hb⟩
  · rw [show mulCode na La nb Lb = faultOf na La by simp [mulCode, h1]]
    exact (sMul_e1 hA hB hna hnb hLa hLb h1).mono fun e w' ⟨he, hb⟩ => ⟨_, he, Or.inl ⟨h1, rfl⟩, hb⟩
theorem iMulRows_any {ma mb : Lie} {na nb : Nat} {La Lb : Nat → Nat} {A B : Rm.Mx} {w : World} (hA : Mat 0 w.heap.size w ma na La A) (hB : Mat 0 w.heap.size w mb nb Lb B) (hna : na ≤ 1000000000000) (hnb : nb ≤ 1000000000000)
    (hLa : ∀ k, k < na → La k ≤ 1000000000000) (hLb : ∀ k, k < nb → Lb k ≤ 1000000000000) :
    Calls Try.prog 22 #[.slice (some ⟨ma.b, 0, none⟩) na ma.cap, .slice (some ⟨mb.b, 0, none⟩) nb mb.cap] w fun e w' => ∃ v, e = .returned (.agg #[.int .i64 (mulCode na La nb Lb), v]) ∧
      OwnR w.heap.size w'.heap.size w' (mulCode na La nb Lb) v na (fun i j => Rm.dot A B i j na) ∧ Below w.heap.size w w' := by
  by_cases h1 : faultOf na La = 0
  · by_cases h2 : faultOf nb Lb = 0
    · by_cases h3 : na = nb
      · subst h3
        rw [show mulCode na La na Lb = 0 by simp [mulCode, h1, h2]]
        obtain ⟨q0, q1, q2⟩ := fault_right h1
        obtain ⟨_, _, q3⟩ := fault_right h2
        exact (iMul_ok hA hB q1 q2 q3 h1 h2).mono fun e w' ⟨m, he, hm, hb⟩ => ⟨_, he, Or.inr ⟨rfl, m, rfl, hm⟩, hb⟩
      · rw [show mulCode na La nb Lb = 1 by simp [mulCode, h1, h2, h3]]
        exact (iMul_e3 hA hB hna hnb hLa hLb h1 h2 h3).mono fun e w' ⟨he, hb⟩ => ⟨_, he, Or.inl ⟨by omega, rfl⟩, hb⟩
    · rw [show mulCode na La nb Lb = faultOf nb Lb by simp [mulCode, h1, h2]]
      exact (iMul_e2 hA hB hna hnb hLa hLb h1 h2).mono fun e w' ⟨he, hb⟩ => ⟨_, he, Or.inl ⟨h2, rfl⟩, hb⟩
  · rw [show mulCode na La nb Lb = faultOf na La by simp [mulCode, h1]]
    exact (iMul_e1 hA hB hna hnb hLa hLb h1).mono fun e w' ⟨he, hb⟩ => ⟨_, he, Or.inl ⟨h1, rfl⟩, hb⟩
end Go.Proofs.Ytbagaicbochmnaa
