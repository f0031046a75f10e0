/- Light from a point, through a system, and on to its image, crosses the axis: with fractions in lowest terms. -/
import Derived.Test.YtdmjfphmgpkfcaaSm
import Derived.Test.YtdmjfphmgpkfcaaMo
import Derived.Test.YtdmjfphmgpkfcaaFo
namespace Go.Proofs.Ytdmjfphmgpkfcaa
set_option linter.unusedVariables false
theorem r_ratio (n d : Int) (h : d ≠ 0) : Fm.rN n d * d = n * Fm.rD n d := by
  have h1 : n.tdiv (Int.gcd n d) * (Int.gcd n d : Int) = n := Int.tdiv_mul_cancel (Int.gcd_dvd_left ..)
  have h2 : d.tdiv (Int.gcd n d) * (Int.gcd n d : Int) = d := Int.tdiv_mul_cancel (Int.gcd_dvd_right ..)
  have key : n.tdiv (Int.gcd n d) * d = n * d.tdiv (Int.gcd n d) := by
    generalize n.tdiv (Int.gcd n d) = p at *
    generalize d.tdiv (Int.gcd n d) = q at *
    generalize (Int.gcd n d : Int) = g at *
    subst h1 h2
    rw [Int.mul_assoc, Int.mul_comm g q]
  unfold Fm.rN Fm.rD
  by_cases e : d < 0
  · rw [if_pos e, if_pos e, Int.neg_mul, Int.mul_neg, key]
  · rw [if_neg e, if_neg e, key]
theorem low_is {n d a b : Int} (hd : d ≠ 0) (hr : rightB a b = true) (h : n * b = a * d) : lowB n d = true ∧ Fm.rN n d = a ∧ Fm.rD n d = b := by
  have ht := right_t hr
  have c : Fm.rN n d * b = a * Fm.rD n d := by
    refine Int.eq_of_mul_eq_mul_right hd ?_
    have s1 : Fm.rN n d * b * d = Fm.rN n d * d * b := by rw [Int.mul_assoc, Int.mul_comm b d, ← Int.mul_assoc]
    have s2 : Fm.rN n d * d * b = n * b * Fm.rD n d := by rw [r_ratio n d hd, Int.mul_assoc, Int.mul_comm (Fm.rD n d) b, ← Int.mul_assoc]
    have s3 : n * b * Fm.rD n d = a * Fm.rD n d * d := by rw [h, Int.mul_assoc, Int.mul_comm d, ← Int.mul_assoc]
    exact s1.trans (s2.trans s3)
  have e := Fm.cross (Fm.rN n d) (Fm.rD n d) a b (Fm.rD_ge n d hd) ht.1 (Fm.r_cop n d hd) ht.2.2.2.2 c
  refine ⟨?_, e.1, e.2⟩
  have := (low_right hr).1
  unfold lowB at this ⊢
  rw [(low_right hr).2.1, (low_right hr).2.2] at this
  rw [e.1, e.2]; exact this
theorem op_is {x y z : Q} {n m : Int} (hx : x.ok = true) (hy : y.ok = true) (hm : m ≠ 0) (hz : z.ok = true) (h : n * z.d = z.n * m) : opC x.n x.d y.n y.d n m = 0 ∧ opN x.n x.d y.n y.d n m = z.n ∧ opD x.n x.d y.n y.d n m = z.d := by
  obtain ⟨hl, e1, e2⟩ := low_is (a := z.n) (b := z.d) hm hz h
  have h1 : rightB x.n x.d = true := hx
  have h2 : rightB y.n y.d = true := hy
  unfold opC opN opD resC resN resD
  simp only [h1, h2, hl, Bool.and_self, if_true, e1, e2, and_self]
theorem ok_d {x : Q} (h : x.ok = true) : x.d ≠ 0 := by have := (right_t (show rightB x.n x.d = true from h)).1; omega
theorem add_opp {h : Q} (k : h.ok = true) : addK h (nQ h) = true ∧ addQ h (nQ h) = nil := by
  have e := op_is (x := h) (y := nQ h) (z := nil) (n := h.n * (nQ h).d + (nQ h).n * h.d) (m := h.d * (nQ h).d) k (by rw [nQ_ok]; exact k) (mul_ne (ok_d k) (show h.d ≠ 0 from ok_d k)) nil_ok (by
    show (h.n * h.d + -h.n * h.d) * 1 = 0 * _
    rw [Int.neg_mul]; omega)
  refine ⟨by unfold addK addC; rw [e.1]; rfl, ?_⟩
  unfold addQ; rw [e.2.1, e.2.2]
theorem div_parts {h t : Q} (k : divK h t = true) : (divQ h t).ok = true ∧ (divQ h t).n * (h.d * t.n) = (h.n * t.d) * (divQ h t).d := by
  obtain ⟨hh, ht, hn⟩ := divK_ok k
  have h1 : rightB h.n h.d = true := hh
  have h2 : rightB t.n t.d = true := ht
  have hM : h.d * t.n ≠ 0 := mul_ne (ok_d hh) hn
  have hl : lowB (h.n * t.d) (h.d * t.n) = true := by
    unfold divK divC quC resC at k
    simp only [h1, h2, Bool.and_self, if_true, if_neg hn] at k
    by_cases e : lowB (h.n * t.d) (h.d * t.n) = true
    · exact e
    · rw [if_neg e] at k; simp at k
  have e : divQ h t = ⟨Fm.rN (h.n * t.d) (h.d * t.n), Fm.rD (h.n * t.d) (h.d * t.n)⟩ := by
    unfold divQ quN quD resN resD
    simp only [h1, h2, Bool.and_self, if_true, if_neg hn, hl]
  rw [e]
  refine ⟨?_, r_ratio _ _ hM⟩
  show rightB _ _ = true
  unfold rightB
  unfold lowB at hl
  rw [hl, Fm.r_cop _ _ hM]
  rfl
theorem div_back {h t : Q} (k : divK h t = true) : mulK (nQ (divQ h t)) t = true ∧ mulQ (nQ (divQ h t)) t = nQ h := by
  obtain ⟨hh, ht, hn⟩ := divK_ok k
  obtain ⟨hq, r⟩ := div_parts k
  generalize divQ h t = q at *
  have e := op_is (x := nQ q) (y := t) (z := nQ h) (n := (nQ q).n * t.n) (m := (nQ q).d * t.d) (by rw [nQ_ok]; exact hq) ht (mul_ne (show q.d ≠ 0 from ok_d hq) (ok_d ht)) (by rw [nQ_ok]; exact hh) (by
    show -q.n * t.n * h.d = -h.n * (q.d * t.d)
    rw [Int.neg_mul, Int.neg_mul, Int.neg_mul]
    congr 1
    have s1 : q.n * t.n * h.d = q.n * (h.d * t.n) := by rw [Int.mul_assoc, Int.mul_comm t.n]
    have s3 : h.n * t.d * q.d = h.n * (q.d * t.d) := by rw [Int.mul_assoc, Int.mul_comm t.d]
    exact s1.trans (r.trans s3))
  refine ⟨by unfold mulK mulC; rw [e.1]; rfl, ?_⟩
  unfold mulQ; rw [e.2.1, e.2.2]
/-- A gap's system. -/
abbrev gapM (x : Q) : Mx := ⟨one, x, nil, one⟩
theorem im_zero {m : Mx} {x : Q} (hi : imC m x = 0) : m.ok = true ∧ x.ok = true ∧ tK m x = true ∧ (tV m x).n ≠ 0 ∧ bK m x = true ∧ cK m x = true := by
  unfold imC at hi
  by_cases h1 : (m.ok && x.ok) = true
  · rw [if_pos h1] at hi
    by_cases h2 : tK m x = true
    · rw [if_pos h2] at hi
      by_cases h3 : (tV m x).n = 0
      · rw [if_pos h3] at hi; simp at hi
      · rw [if_neg h3] at hi
        by_cases h4 : bK m x = true
        · rw [if_pos h4] at hi
          by_cases h5 : cK m x = true
          · simp only [Bool.and_eq_true] at h1
            exact ⟨h1.1, h1.2, h2, h3, h4, h5⟩
          · rw [if_neg h5] at hi; simp at hi
        · rw [if_neg h4] at hi; simp at hi
    · rw [if_neg h2] at hi; simp at hi
  · rw [if_neg h1] at hi; simp at hi
theorem two_one {a b c : Q} (hc : c.ok = true) : twK a b c one = aK (mulK a b) (mulQ a b) c.ok c ∧ twQ a b c one = aQ (mulK a b) (mulQ a b) c.ok c := by
  unfold twK twQ
  rw [(mul_one hc).1, (mul_one hc).2, hc]
  exact ⟨rfl, rfl⟩
theorem join_front {m : Mx} {x : Q} (hi : imC m x = 0) : jC (gapM x) m = 0 ∧ joinM (gapM x) m = ⟨m.A, hV m x, m.C, tV m x⟩ := by
  obtain ⟨hm, hx, ht, hn, hb, hc⟩ := im_zero hi
  obtain ⟨hA, hB, hC, hD⟩ := mxok hm
  have a1 := two_at (mul_one hA) (mul_nil hB) hA
  have a3 := two_at (mul_one hC) (mul_nil hD) hC
  have b2 := two_one (a := m.A) (b := x) hB
  have b4 := two_one (a := m.C) (b := x) hD
  have hh : hK m x = true := by unfold bK dK at hb; simp only [Bool.and_eq_true] at hb; exact hb.1
  have hg : (gapM x).ok = true := by unfold Mx.ok; rw [show (gapM x).A = one from rfl, show (gapM x).B = x from rfl, show (gapM x).C = nil from rfl, show (gapM x).D = one from rfl, hx]; rfl
  have kk : jKA (gapM x) m = true ∧ jKB (gapM x) m = true ∧ jKC (gapM x) m = true ∧ jKD (gapM x) m = true := ⟨a1.1, b2.1.trans hh, a3.1, b4.1.trans ht⟩
  have j0 : jC (gapM x) m = 0 := by
    unfold jC
    rw [hg, hm, kk.1, kk.2.1, kk.2.2.1, kk.2.2.2]; rfl
  refine ⟨j0, ?_⟩
  unfold joinM sel
  rw [if_pos j0, if_pos j0, if_pos j0, if_pos j0]
  rw [show jQA (gapM x) m = m.A from a1.2, show jQB (gapM x) m = hV m x from b2.2, show jQC (gapM x) m = m.C from a3.2, show jQD (gapM x) m = tV m x from b4.2]
/-- The image: nothing of the slant is left in the height, and the height is the scale's. -/
theorem image_law {m : Mx} {x : Q} (hi : imC m x = 0) (hj : jC ⟨m.A, hV m x, m.C, tV m x⟩ (gapM (nQ (bV m x))) = 0) :
    (joinM ⟨m.A, hV m x, m.C, tV m x⟩ (gapM (nQ (bV m x)))).B = nil ∧ (joinM ⟨m.A, hV m x, m.C, tV m x⟩ (gapM (nQ (bV m x)))).A = cV m x := by
  obtain ⟨hm, hx, ht, hn, hb, hc⟩ := im_zero hi
  obtain ⟨hA, hB, hC, hD⟩ := mxok hm
  have hh : hK m x = true ∧ divK (hV m x) (tV m x) = true := by unfold bK dK at hb; simpa only [Bool.and_eq_true] using hb
  have hv : bV m x = divQ (hV m x) (tV m x) := by unfold bV dQ; rw [if_pos hh.1]
  obtain ⟨ho, hto, _⟩ := divK_ok hh.2
  have d := div_back hh.2
  rw [← hv] at d
  unfold joinM sel
  rw [if_pos hj, if_pos hj]
  constructor
  · show twQ one (hV m x) (nQ (bV m x)) (tV m x) = nil
    unfold twQ aQ
    rw [(one_mul ho).1, (one_mul ho).2, d.1, d.2]
    exact (add_opp ho).2
  · show twQ one m.A (nQ (bV m x)) m.C = cV m x
    unfold twQ cV
    rw [(one_mul hA).1, (one_mul hA).2, mulK_comm, (mul_comm' _ _).2, hA]
end Go.Proofs.Ytdmjfphmgpkfcaa
