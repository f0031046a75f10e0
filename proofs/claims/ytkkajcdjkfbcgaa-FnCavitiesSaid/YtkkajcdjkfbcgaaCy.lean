/- Cavities: stable just if half the trace is from -1 to 1; the trip's trace is twice that half. -/
import Derived.Test.YtkkajcdjkfbcgaaCx
import Derived.Test.YtkkajcdjkfbcgaaMo
namespace Go.Proofs.Ytkkajcdjkfbcgaa
open Go.RowKit
set_option linter.unusedVariables false
set_option linter.unusedSimpArgs false
structure MV (m : Mx) (a b c d : Rat) : Prop where
  a : m.A.v = a
  b : m.B.v = b
  c : m.C.v = c
  d : m.D.v = d
theorem MV.join {m n : Mx} {a b c d e f g h : Rat} (hm : MV m a b c d) (hn : MV n e f g h) (j : jC m n = 0) : MV (joinM m n) (e * a + f * c) (e * b + f * d) (g * a + h * c) (g * b + h * d) := by
  obtain ⟨j1, j2, j3, j4⟩ := join_v j
  refine ⟨?_, ?_, ?_, ?_⟩
  · show (sel (jC m n) (jQA m n)).v = _; unfold sel; rw [if_pos j, j1, hm.a, hm.c, hn.a, hn.b]
  · show (sel (jC m n) (jQB m n)).v = _; unfold sel; rw [if_pos j, j2, hm.b, hm.d, hn.a, hn.b]
  · show (sel (jC m n) (jQC m n)).v = _; unfold sel; rw [if_pos j, j3, hm.a, hm.c, hn.c, hn.d]
  · show (sel (jC m n) (jQD m n)).v = _; unfold sel; rw [if_pos j, j4, hm.b, hm.d, hn.c, hn.d]
theorem mo_back {G : Nat → Pt} {i : Nat} (h : (moS G (i + 1)).1 = 0) : (moS G i).1 = 0 ∧ jC (moS G i).2 (pM (G i)) = 0 ∧ (moS G (i + 1)).2 = joinM (moS G i).2 (pM (G i)) := by
  by_cases k : (moS G i).1 = 0
  · rw [mo_next k] at h
    exact ⟨k, h, by rw [mo_next k]⟩
  · rw [mo_stop k 1] at h
    exact absurd h k
theorem unit_v : MV unitM 1 0 0 1 := ⟨one_v, nil_v, nil_v, one_v⟩
theorem gap_v (L : Q) : MV (pM ⟨1, L⟩) 1 L.v 0 1 := ⟨one_v, rfl, nil_v, one_v⟩
theorem pow_v (x : Q) : MV (pM ⟨2, x⟩) 1 0 (-x.v) 1 := ⟨one_v, nil_v, neg_v x, one_v⟩
theorem trip_v {L a b : Q} (h : mC (trp L a b) 4 = 0) : (mM (trp L a b) 4).A.v + (mM (trp L a b) 4).D.v = 2 * ((1 - L.v * a.v / 2) * (1 - L.v * b.v / 2) + (1 - L.v * a.v / 2) * (1 - L.v * b.v / 2) - 1) := by
  unfold mC at h
  unfold mM
  by_cases l : lC (trp L a b) 4 = 0
  case neg => rw [if_neg l] at h; exact absurd h l
  rw [if_pos l] at h
  rw [if_pos l]
  obtain ⟨h3, j3, e3⟩ := mo_back h
  obtain ⟨h2, j2, e2⟩ := mo_back h3
  obtain ⟨h1, j1, e1⟩ := mo_back h2
  obtain ⟨h0, j0, e0⟩ := mo_back h1
  have v1 := MV.join (m := (moS (trp L a b) 0).2) (n := pM (trp L a b 0)) unit_v (gap_v L) j0
  rw [← e0] at v1
  have v2 := MV.join (m := (moS (trp L a b) 1).2) (n := pM (trp L a b 1)) v1 (pow_v b) j1
  rw [← e1] at v2
  have v3 := MV.join (m := (moS (trp L a b) 2).2) (n := pM (trp L a b 2)) v2 (gap_v L) j2
  rw [← e2] at v3
  have v4 := MV.join (m := (moS (trp L a b) 3).2) (n := pM (trp L a b 3)) v3 (pow_v a) j3
  rw [← e3] at v4
  refine (congr (congrArg _ v4.a) v4.d).trans ?_
  grind
theorem two_v : two.v = 2 := by unfold Q.v two; grind
theorem po_v {R : Q} (hR : R.ok = true) (h : poK R = true) : (poQ R).v = if R.n = 0 then 0 else 2 / R.v := by
  unfold poK at h
  unfold poQ
  by_cases z : R.n = 0
  · rw [if_pos z, if_pos z, nil_v]
  · rw [if_neg z] at h
    rw [if_neg z, if_neg z, div_v h, two_v]
theorem sd_po {L R : Q} (hL : L.ok = true) (hR : R.ok = true) (h : sdK L R = true) (k : poK R = true) : (sdQ L R).v = 1 - L.v * (poQ R).v / 2 := by
  rw [side_v hL hR h, po_v hR k]
  by_cases z : R.n = 0
  · rw [if_pos z, if_pos z]; grind
  · rw [if_neg z, if_neg z]
    have : R.v ≠ 0 := fun e => z ((v_zero hR).1 e)
    grind
theorem cavK_t {L A B : Q} (h : cavK L A B = true) : cav L A B = true ∧ sdK L A = true ∧ sdK L B = true ∧ mulK (sdQ L A) (sdQ L B) = true ∧ hfK (mulQ (sdQ L A) (sdQ L B)) = true := by
  unfold cavK at h
  simp only [Bool.and_eq_true] at h
  exact ⟨h.1.1.1.1, h.1.1.1.2, h.1.1.2, h.1.2, h.2⟩
/-- The trip's trace is twice the half. -/
theorem trace_half {L A B : Q} (h : cavK L A B = true) (hA : poK A = true) (hB : poK B = true) (hm : mC (trp L (poQ A) (poQ B)) 4 = 0)
    (k1 : addK (mM (trp L (poQ A) (poQ B)) 4).A (mM (trp L (poQ A) (poQ B)) 4).D = true) (k2 : addK (hfQ (mulQ (sdQ L A) (sdQ L B))) (hfQ (mulQ (sdQ L A) (sdQ L B))) = true) :
    addQ (mM (trp L (poQ A) (poQ B)) 4).A (mM (trp L (poQ A) (poQ B)) 4).D = addQ (hfQ (mulQ (sdQ L A) (sdQ L B))) (hfQ (mulQ (sdQ L A) (sdQ L B))) := by
  obtain ⟨hc, sA, sB, hM, hH⟩ := cavK_t h
  obtain ⟨okL, okA, okB, hp⟩ := cav_t hc
  refine v_inj (add_right k1) (add_right k2) ?_
  rw [add_v k1, add_v k2, (half_v hH).1, mul_v hM, trip_v hm, sd_po okL okA sA hA, sd_po okL okB sB hB]
  grind
def mone : Q := ⟨-1, 1⟩
theorem mone_v : mone.v = -1 := by unfold Q.v mone; grind
theorem cmp_pos {x y : Q} (hx : x.ok = true) (hy : y.ok = true) : 0 < cmpF x.n x.d y.n y.d ↔ y.v < x.v := by
  rw [← v_lt hy hx]
  unfold cmpF
  rw [if_pos (by rw [show rightB x.n x.d = true from hx, show rightB y.n y.d = true from hy]; rfl)]
  split
  · constructor <;> intro h <;> omega
  · split <;> constructor <;> intro h <;> omega
theorem cmp_neg {x y : Q} (hx : x.ok = true) (hy : y.ok = true) : cmpF x.n x.d y.n y.d < 0 ↔ x.v < y.v := by
  rw [← v_lt hx hy]
  unfold cmpF
  rw [if_pos (by rw [show rightB x.n x.d = true from hx, show rightB y.n y.d = true from hy]; rfl)]
  split
  · constructor <;> intro h <;> omega
  · split <;> constructor <;> intro h <;> omega
theorem num_neg {x : Q} (hx : x.ok = true) : x.n < 0 ↔ x.v < 0 := by
  have := v_lt hx nil_ok
  rw [nil_v] at this
  rw [← this]
  show x.n < 0 ↔ x.n * 1 < 0 * x.d
  omega
/-- Stable just if the half is from -1 to 1. -/
theorem far_st {L A B : Q} (h : cavK L A B = true) : (decide (0 ≤ (mulQ (sdQ L A) (sdQ L B)).n) && decide (cmpF (mulQ (sdQ L A) (sdQ L B)).n (mulQ (sdQ L A) (sdQ L B)).d 1 1 ≤ 0)) = !(decide (0 < cmpF (hfQ (mulQ (sdQ L A) (sdQ L B))).n (hfQ (mulQ (sdQ L A) (sdQ L B))).d 1 1) || decide (cmpF (hfQ (mulQ (sdQ L A) (sdQ L B))).n (hfQ (mulQ (sdQ L A) (sdQ L B))).d (-1) 1 < 0)) := by
  obtain ⟨hc, sA, sB, hM, hH⟩ := cavK_t h
  have mok := mul_right hM
  generalize mulQ (sdQ L A) (sdQ L B) = m at *
  obtain ⟨hv, fok⟩ := half_v hH
  have a1 := cmp_pos fok one_ok
  have a2 := cmp_neg fok (show mone.ok = true by decide)
  have a3 := num_neg mok
  have a4 := cmp_pos mok one_ok
  rw [one_v] at a1 a4
  rw [mone_v] at a2
  rw [hv] at a1 a2
  have b1 : (1 : Rat) < m.v + m.v - 1 ↔ 1 < m.v := by constructor <;> intro h <;> grind
  have b2 : m.v + m.v - 1 < (-1 : Rat) ↔ m.v < 0 := by constructor <;> intro h <;> grind
  rw [b1, ← a4] at a1
  rw [b2, ← a3] at a2
  rw [show (decide (0 < cmpF (hfQ m).n (hfQ m).d 1 1)) = decide (0 < cmpF m.n m.d 1 1) from decide_eq_decide.2 a1, show (decide (cmpF (hfQ m).n (hfQ m).d (-1) 1 < 0)) = decide (m.n < 0) from decide_eq_decide.2 a2]
  by_cases h1 : m.n < 0
  · rw [decide_eq_true h1, decide_eq_false (by omega)]; simp
  · by_cases h2 : 0 < cmpF m.n m.d 1 1
    · rw [decide_eq_true h2, decide_eq_false (p := cmpF m.n m.d 1 1 ≤ 0) (by omega)]; simp
    · rw [decide_eq_false h1, decide_eq_false h2, decide_eq_true (p := 0 ≤ m.n) (by omega), decide_eq_true (p := cmpF m.n m.d 1 1 ≤ 0) (by omega)]; rfl
end Go.Proofs.Ytkkajcdjkfbcgaa
