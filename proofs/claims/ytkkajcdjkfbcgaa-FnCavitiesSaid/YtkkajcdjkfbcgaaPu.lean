/- Plain arithmetic of the four operations: bounds, what is not right stays so, units. -/
import Derived.Test.YtkkajcdjkfbcgaaBk
namespace Go.Proofs.Ytkkajcdjkfbcgaa
theorem opN_bd (a b c d n m : Int) : -1000000000 ≤ opN a b c d n m ∧ opN a b c d n m ≤ 1000000000 := by
  unfold opN
  split
  · unfold resN
    split
    · rename_i h
      have := inB_t (n := Fm.rN n m) (d := Fm.rD n m) h
      omega
    · omega
  · omega
theorem quN_bd (a b c d n m : Int) : -1000000000 ≤ quN a b c d n m ∧ quN a b c d n m ≤ 1000000000 := by
  unfold quN
  split
  · split
    · omega
    · unfold resN
      split
      · rename_i h
        have := inB_t (n := Fm.rN n m) (d := Fm.rD n m) h
        omega
      · omega
  · omega
theorem mulQ_bd (x y : Q) : -1000000000 ≤ (mulQ x y).n ∧ (mulQ x y).n ≤ 1000000000 := opN_bd _ _ _ _ _ _
theorem divQ_bd (x y : Q) : -1000000000 ≤ (divQ x y).n ∧ (divQ x y).n ≤ 1000000000 := quN_bd _ _ _ _ _ _
theorem dQ_bd (k : Bool) (x y : Q) : -1000000000 ≤ (dQ k x y).n ∧ (dQ k x y).n ≤ 1000000000 := by
  unfold dQ
  split
  · exact divQ_bd x y
  · exact ⟨by decide, by decide⟩
theorem ok_bd {x : Q} (h : x.ok = true) : -1000000000 ≤ x.n ∧ x.n ≤ 1000000000 := ⟨(right_t h).2.2.1, (right_t h).2.2.2.1⟩
theorem op_no {a b c d n m : Int} (h : (opC a b c d n m == 0) = false) : opN a b c d n m = 0 ∧ opD a b c d n m = 0 := by
  unfold opC resC at h
  unfold opN opD resN resD
  split
  · rename_i hr
    rw [if_pos hr] at h
    split
    · rename_i hl
      rw [if_pos hl] at h
      simp at h
    · exact ⟨rfl, rfl⟩
  · exact ⟨rfl, rfl⟩
theorem qu_no {a b c d n m : Int} (h : (quC a b c d n m == 0) = false) : quN a b c d n m = 0 ∧ quD a b c d n m = 0 := by
  unfold quC resC at h
  unfold quN quD resN resD
  split
  · rename_i hr
    rw [if_pos hr] at h
    split
    · exact ⟨rfl, rfl⟩
    · rename_i hc
      rw [if_neg hc] at h
      split
      · rename_i hl
        rw [if_pos hl] at h
        simp at h
      · exact ⟨rfl, rfl⟩
  · exact ⟨rfl, rfl⟩
theorem mulQ_no {x y : Q} (h : mulK x y = false) : mulQ x y = zQ := by
  have := op_no h
  unfold mulQ zQ; rw [this.1, this.2]
theorem addQ_no {x y : Q} (h : addK x y = false) : addQ x y = zQ := by
  have := op_no h
  unfold addQ zQ; rw [this.1, this.2]
theorem subQ_no {x y : Q} (h : subK x y = false) : subQ x y = zQ := by
  have := op_no h
  unfold subQ zQ; rw [this.1, this.2]
theorem divQ_no {x y : Q} (h : divK x y = false) : divQ x y = zQ := by
  have := qu_no h
  unfold divQ zQ; rw [this.1, this.2]
theorem zQ_ok : zQ.ok = false := rfl
theorem op_ok {x y : Q} {n m : Int} (h : (opC x.n x.d y.n y.d n m == 0) = true) : x.ok = true ∧ y.ok = true := by
  unfold opC at h
  split at h
  · rename_i hr
    simpa [Q.ok] using hr
  · simp at h
theorem addK_ok {x y : Q} (h : addK x y = true) : x.ok = true ∧ y.ok = true := op_ok h
theorem mulK_ok {x y : Q} (h : mulK x y = true) : x.ok = true ∧ y.ok = true := op_ok h
theorem subK_ok {x y : Q} (h : subK x y = true) : x.ok = true ∧ y.ok = true := op_ok h
theorem divK_ok {x y : Q} (h : divK x y = true) : x.ok = true ∧ y.ok = true ∧ y.n ≠ 0 := by
  unfold divK divC quC at h
  split at h
  · rename_i hr
    split at h
    · simp at h
    · rename_i hz
      have : x.ok = true ∧ y.ok = true := by simpa [Q.ok] using hr
      exact ⟨this.1, this.2, hz⟩
  · simp at h
theorem right_neg (c d : Int) : rightB (-c) d = rightB c d := by
  unfold rightB inB
  rw [Int.neg_gcd]
  congr 1
  apply decide_eq_decide.2
  omega
theorem nQ_ok (x : Q) : (nQ x).ok = x.ok := right_neg _ _
theorem sub_neg (x y : Q) : subC x y = addC x (nQ y) ∧ subQ x y = addQ x (nQ y) := by
  have e : x.n * y.d - y.n * x.d = x.n * y.d + -y.n * x.d := by rw [Int.neg_mul]; omega
  unfold subC addC subQ addQ nQ opC opN opD
  rw [right_neg, e]
  exact ⟨rfl, rfl⟩
theorem subK_neg (x y : Q) : subK x y = addK x (nQ y) := by unfold subK addK; rw [(sub_neg x y).1]
/-- Two products together, as the program reckons: what it comes to, and the flag. -/
theorem two_same (a b c d : Q) : addQ (mulQ a b) (mulQ c d) = twQ a b c d := by
  unfold twQ aQ
  cases h1 : mulK a b
  · rw [mulQ_no h1]
    refine addQ_no ?_
    cases h : addK zQ (mulQ c d)
    · rfl
    · exact absurd (addK_ok h).1 (by simp [zQ_ok])
  · cases h2 : mulK c d
    · rw [mulQ_no h2]
      refine addQ_no ?_
      cases h : addK (mulQ a b) zQ
      · rfl
      · exact absurd (addK_ok h).2 (by simp [zQ_ok])
    · rfl
theorem two_flag (a b c d : Q) (f : Bool) : (((f || !mulK a b) || !mulK c d) || !addK (mulQ a b) (mulQ c d)) = (f || !twK a b c d) := by
  unfold twK aK
  cases f <;> cases mulK a b <;> cases mulK c d <;> cases addK (mulQ a b) (mulQ c d) <;> rfl
/-- Two products, one less the other. -/
def apK (a b c d : Q) : Bool := leK (mulK a b) (mulQ a b) (mulK c d) (mulQ c d)
def apQ (a b c d : Q) : Q := leQ (mulK a b) (mulQ a b) (mulK c d) (mulQ c d)
theorem ap_same (a b c d : Q) : subQ (mulQ a b) (mulQ c d) = apQ a b c d := by
  rw [(sub_neg _ _).2]
  unfold apQ leQ aQ
  cases h1 : mulK a b
  · rw [mulQ_no h1]
    refine addQ_no ?_
    cases h : addK zQ (nQ (mulQ c d))
    · rfl
    · exact absurd (addK_ok h).1 (by simp [zQ_ok])
  · cases h2 : mulK c d
    · rw [mulQ_no h2]
      refine addQ_no ?_
      cases h : addK (mulQ a b) (nQ zQ)
      · rfl
      · exact absurd (addK_ok h).2 (by simp [nQ_ok, zQ_ok])
    · rfl
theorem ap_flag (a b c d : Q) (f : Bool) : (((f || !mulK a b) || !mulK c d) || !subK (mulQ a b) (mulQ c d)) = (f || !apK a b c d) := by
  rw [subK_neg]
  unfold apK leK aK
  cases f <;> cases mulK a b <;> cases mulK c d <;> cases addK (mulQ a b) (nQ (mulQ c d)) <;> rfl
theorem low_right {a b : Int} (h : rightB a b = true) : lowB a b = true ∧ Fm.rN a b = a ∧ Fm.rD a b = b := by
  have hr := right_t h
  have e := (Fm.r_same a b hr.1).2 hr.2.2.2.2
  unfold lowB
  rw [e.1, e.2]
  refine ⟨?_, rfl, rfl⟩
  unfold rightB at h
  simp only [Bool.and_eq_true] at h
  exact h.1
theorem op_right {a b c d n m : Int} (h1 : rightB a b = true) (h2 : rightB c d = true) (h : rightB n m = true) : opC a b c d n m = 0 ∧ opN a b c d n m = n ∧ opD a b c d n m = m := by
  obtain ⟨hl, e1, e2⟩ := low_right h
  unfold opC opN opD resC resN resD
  simp only [h1, h2, hl, Bool.and_self, if_true, e1, e2, and_self]
def one : Q := ⟨1, 1⟩
def nil : Q := ⟨0, 1⟩
theorem one_ok : one.ok = true := by decide
theorem nil_ok : nil.ok = true := by decide
theorem mul_one {x : Q} (h : x.ok = true) : mulK x one = true ∧ mulQ x one = x := by
  have := op_right (a := x.n) (b := x.d) (c := 1) (d := 1) (n := x.n * 1) (m := x.d * 1) h one_ok (by simpa [Q.ok] using h)
  refine ⟨by unfold mulK mulC; rw [show one.n = 1 from rfl, show one.d = 1 from rfl, this.1]; rfl, ?_⟩
  unfold mulQ
  rw [show one.n = 1 from rfl, show one.d = 1 from rfl, this.2.1, this.2.2, Int.mul_one, Int.mul_one]
theorem mul_comm' (x y : Q) : mulC x y = mulC y x ∧ mulQ x y = mulQ y x := by
  unfold mulC mulQ opC opN opD
  rw [Int.mul_comm x.n y.n, Int.mul_comm x.d y.d, Bool.and_comm]
  exact ⟨rfl, rfl⟩
theorem mulK_comm (x y : Q) : mulK x y = mulK y x := by unfold mulK; rw [(mul_comm' x y).1]
theorem one_mul {x : Q} (h : x.ok = true) : mulK one x = true ∧ mulQ one x = x := by
  rw [mulK_comm, (mul_comm' _ _).2]; exact mul_one h
theorem low_nil (d : Int) (h : 1 ≤ d) : lowB 0 d = true ∧ Fm.rN 0 d = 0 ∧ Fm.rD 0 d = 1 := by
  have e : Int.gcd 0 d = d.natAbs := by simp
  have e1 : Fm.rN 0 d = 0 := by rw [Fm.rN_pos (by omega)]; simp
  have e2 : Fm.rD 0 d = 1 := by
    rw [Fm.rD_pos (by omega), e]
    have : (d.natAbs : Int) = d := by omega
    rw [this]; exact Int.ediv_self (by omega)
  refine ⟨?_, e1, e2⟩
  unfold lowB; rw [e1, e2]; decide
theorem mul_nil {x : Q} (h : x.ok = true) : mulK x nil = true ∧ mulQ x nil = nil := by
  have hb := right_t h
  obtain ⟨hl, e1, e2⟩ := low_nil (x.d * 1) (by omega)
  have hr : rightB x.n x.d = true := h
  have hn : rightB 0 1 = true := nil_ok
  have e : mulC x nil = 0 ∧ mulQ x nil = nil := by
    unfold mulC mulQ opC opN opD resC resN resD
    simp only [show nil.n = 0 from rfl, show nil.d = 1 from rfl, Int.mul_zero, hr, hn, Bool.and_self, if_true, hl, e1, e2, true_and]
    rfl
  exact ⟨by unfold mulK; rw [e.1]; rfl, e.2⟩
theorem nil_mul {x : Q} (h : x.ok = true) : mulK nil x = true ∧ mulQ nil x = nil := by
  rw [mulK_comm, (mul_comm' _ _).2]; exact mul_nil h
theorem add_nil {x : Q} (h : x.ok = true) : addK x nil = true ∧ addQ x nil = x := by
  have := op_right (a := x.n) (b := x.d) (c := 0) (d := 1) (n := x.n * 1 + 0 * x.d) (m := x.d * 1) h nil_ok (by simpa [Q.ok] using h)
  refine ⟨by unfold addK addC; rw [show nil.n = 0 from rfl, show nil.d = 1 from rfl, this.1]; rfl, ?_⟩
  unfold addQ
  rw [show nil.n = 0 from rfl, show nil.d = 1 from rfl, this.2.1, this.2.2]
  simp
theorem nil_add {x : Q} (h : x.ok = true) : addK nil x = true ∧ addQ nil x = x := by
  have := op_right (a := 0) (b := 1) (c := x.n) (d := x.d) (n := 0 * x.d + x.n * 1) (m := 1 * x.d) nil_ok h (by simpa [Q.ok] using h)
  refine ⟨by unfold addK addC; rw [show nil.n = 0 from rfl, show nil.d = 1 from rfl, this.1]; rfl, ?_⟩
  unfold addQ
  rw [show nil.n = 0 from rfl, show nil.d = 1 from rfl, this.2.1, this.2.2]
  simp
/-- 0 less a fraction. -/
theorem nil_sub {x : Q} (h : x.ok = true) : subK nil x = true ∧ subQ nil x = nQ x := by
  rw [subK_neg, (sub_neg _ _).2]
  exact nil_add (by rw [nQ_ok]; exact h)
theorem two_at {a b c d x : Q} (h1 : mulK a b = true ∧ mulQ a b = x) (h2 : mulK c d = true ∧ mulQ c d = nil) (hx : x.ok = true) : twK a b c d = true ∧ twQ a b c d = x := by
  unfold twK twQ aK aQ
  rw [h1.1, h1.2, h2.1, h2.2]
  have := add_nil hx
  simp [this.1, this.2]
theorem two_at' {a b c d x : Q} (h1 : mulK a b = true ∧ mulQ a b = nil) (h2 : mulK c d = true ∧ mulQ c d = x) (hx : x.ok = true) : twK a b c d = true ∧ twQ a b c d = x := by
  unfold twK twQ aK aQ
  rw [h1.1, h1.2, h2.1, h2.2]
  have := nil_add hx
  simp [this.1, this.2]
end Go.Proofs.Ytkkajcdjkfbcgaa
