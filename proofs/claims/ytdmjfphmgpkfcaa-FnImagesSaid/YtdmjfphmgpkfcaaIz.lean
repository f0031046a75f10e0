/- Images: the program's way. -/
import Derived.Test.YtdmjfphmgpkfcaaSm
import Derived.Test.YtdmjfphmgpkfcaaIf
namespace Go.Proofs.Ytdmjfphmgpkfcaa
open Go.RowKit
set_option linter.unusedVariables false
set_option linter.unusedSimpArgs false
theorem lowB_right {n m : Int} (hm : m ≠ 0) (h : lowB n m = true) : rightB (Fm.rN n m) (Fm.rD n m) = true := by
  unfold rightB
  rw [show inB (Fm.rN n m) (Fm.rD n m) = true from h, Fm.r_cop n m hm]
  rfl
theorem divQ_ok {x y : Q} (h : divK x y = true) : (divQ x y).ok = true := by
  obtain ⟨hx, hy, hn⟩ := divK_ok h
  have hd := (right_t hx).1
  have hm : x.d * y.n ≠ 0 := mul_ne (by omega) hn
  have e1 : (rightB x.n x.d && rightB y.n y.d) = true := by rw [show rightB x.n x.d = true from hx, show rightB y.n y.d = true from hy]; rfl
  have hl : lowB (x.n * y.d) (x.d * y.n) = true := by
    unfold divK divC quC resC at h
    rw [if_pos e1, if_neg hn] at h
    cases hl : lowB (x.n * y.d) (x.d * y.n)
    · rw [hl] at h; simp at h
    · rfl
  unfold Q.ok divQ quN quD resN resD
  simp only [e1, hl, if_true, if_neg hn]
  exact lowB_right hm hl
theorem addK_z (y : Q) : addK zQ y = false := by
  cases h : addK zQ y
  · rfl
  · exact absurd (addK_ok h).1 (by simp [zQ_ok])
theorem sum_same {a x d : Q} (hd : d.ok = true) : addQ (mulQ a x) d = aQ (mulK a x) (mulQ a x) d.ok d := by
  unfold aQ
  cases h1 : mulK a x
  · rw [mulQ_no h1, hd]
    exact addQ_no (addK_z d)
  · rw [hd]; rfl
theorem sum_flag {a x d : Q} (hd : d.ok = true) (f : Bool) : ((f || !mulK a x) || !addK (mulQ a x) d) = (f || !aK (mulK a x) (mulQ a x) d.ok d) := by
  unfold aK; rw [hd]
  cases f <;> cases mulK a x <;> cases addK (mulQ a x) d <;> rfl
def bkQ (m : Mx) (x : Q) : Q := subQ nil (divQ (hV m x) (tV m x))
def scQ (m : Mx) (x : Q) : Q := addQ m.A (mulQ m.C (bkQ m x))
theorem im_flag {m : Mx} {x : Q} (h : m.ok = true) (hx : x.ok = true) (hz : (tK m x && ((tV m x).n == 0)) = false) :
    (((((((((false || !mulK m.C x) || !addK (mulQ m.C x) m.D) || !mulK m.A x) || !addK (mulQ m.A x) m.B) || !divK (hV m x) (tV m x)) || !subK nil (divQ (hV m x) (tV m x))) || !mulK m.C (subQ nil (divQ (hV m x) (tV m x)))) || !addK m.A (mulQ m.C (subQ nil (divQ (hV m x) (tV m x))))) = true → imC m x = 3) ∧ (((((((((false || !mulK m.C x) || !addK (mulQ m.C x) m.D) || !mulK m.A x) || !addK (mulQ m.A x) m.B) || !divK (hV m x) (tV m x)) || !subK nil (divQ (hV m x) (tV m x))) || !mulK m.C (subQ nil (divQ (hV m x) (tV m x)))) || !addK m.A (mulQ m.C (subQ nil (divQ (hV m x) (tV m x))))) = false → imC m x = 0 ∧ (subQ nil (divQ (hV m x) (tV m x))) = nQ (bV m x) ∧ addQ m.A (mulQ m.C (subQ nil (divQ (hV m x) (tV m x)))) = cV m x) := by
  obtain ⟨okA, okB, okC, okD⟩ := mxok h
  have e1 := sum_flag (a := m.C) (x := x) okD false
  have e2 := sum_flag (a := m.A) (x := x) okB (false || !tK m x)
  rw [show aK (mulK m.C x) (mulQ m.C x) m.D.ok m.D = tK m x from rfl] at e1
  rw [show aK (mulK m.A x) (mulQ m.A x) m.B.ok m.B = hK m x from rfl] at e2
  rw [e1, e2, im_t h hx]
  cases ht : tK m x
  · exact ⟨fun _ => rfl, fun h => by simp at h⟩
  have hn : ¬ (tV m x).n = 0 := by
    intro hc
    rw [ht, hc] at hz
    simp at hz
  rw [if_pos rfl, if_neg hn]
  cases hh : hK m x
  · rw [show bK m x = false from by unfold bK dK; rw [hh]; rfl]
    exact ⟨fun _ => rfl, fun h => by simp at h⟩
  cases hd : divK (hV m x) (tV m x)
  · rw [show bK m x = false from by unfold bK dK; rw [hh, hd]; rfl]
    exact ⟨fun _ => rfl, fun h => by simp at h⟩
  have hs := nil_sub (divQ_ok hd)
  have hb : bV m x = divQ (hV m x) (tV m x) := by unfold bV dQ; rw [hh]; rfl
  rw [hs.1, hs.2, ← hb, show bK m x = true from by unfold bK dK; rw [hh, hd]; rfl, if_pos rfl]
  cases hm : mulK m.C (nQ (bV m x))
  · rw [show cK m x = false from by unfold cK aK; rw [hm, okA]; rfl]
    exact ⟨fun _ => rfl, fun h => by simp at h⟩
  have hv : cV m x = addQ m.A (mulQ m.C (nQ (bV m x))) := by unfold cV aQ; rw [hm, okA]; rfl
  have hk : cK m x = addK m.A (mulQ m.C (nQ (bV m x))) := by unfold cK aK; rw [hm, okA]; rfl
  rw [hk]
  cases ha : addK m.A (mulQ m.C (nQ (bV m x)))
  · exact ⟨fun _ => rfl, fun h => by simp at h⟩
  · exact ⟨fun h => by simp at h, fun _ => ⟨rfl, rfl, hv.symm⟩⟩
set_option maxRecDepth 20000 in
set_option maxHeartbeats 1600000 in
theorem iimg_0 (m : Mx) (x : Q) (w : World) (h0 : m.ok = false) : Calls Try.prog 7 #[.agg #[.int .i64 m.A.n, .int .i64 m.A.d, .int .i64 m.B.n, .int .i64 m.B.d, .int .i64 m.C.n, .int .i64 m.C.d, .int .i64 m.D.n, .int .i64 m.D.d], .agg #[.int .i64 x.n, .int .i64 x.d]] w fun e w' => e = .returned (.agg #[.int .i64 1, .int .i64 0, .int .i64 0, .int .i64 0, .int .i64 0]) ∧ Below w.heap.size w w' := by
  have qm := mfault_ne m
  rw [h0] at qm
  go_enter Try.func7, Try.ntmps7
  go_wp2_with fail
  refine (imfault m _).mono ?_
  rintro e w1 ⟨rfl, hb⟩
  have HO : Hid (Below w.heap.size w w1) := by refine box_step ?_ hb (by simp <;> omega); go_grown
  have X0 : Blk w1 (w.heap.size) #[.int .i64 m.A.n, .int .i64 m.A.d, .int .i64 m.B.n, .int .i64 m.B.d, .int .i64 m.C.n, .int .i64 m.C.d, .int .i64 m.D.n, .int .i64 m.D.d] 27 := Blk.old ((Blk.alloc (Blk.alloc (Blk.new (by simp)) _) _)) hb
  have K0 : Hid (w1.cell? ⟨w.heap.size, 0, none⟩ = some (.int .i64 m.A.n)) := X0.cell rfl
  have K1 : Hid (w1.cell? ⟨w.heap.size, 1, none⟩ = some (.int .i64 m.A.d)) := X0.cell rfl
  have K2 : Hid (w1.cell? ⟨w.heap.size, 2, none⟩ = some (.int .i64 m.B.n)) := X0.cell rfl
  have K3 : Hid (w1.cell? ⟨w.heap.size, 3, none⟩ = some (.int .i64 m.B.d)) := X0.cell rfl
  have K4 : Hid (w1.cell? ⟨w.heap.size, 4, none⟩ = some (.int .i64 m.C.n)) := X0.cell rfl
  have K5 : Hid (w1.cell? ⟨w.heap.size, 5, none⟩ = some (.int .i64 m.C.d)) := X0.cell rfl
  have K6 : Hid (w1.cell? ⟨w.heap.size, 6, none⟩ = some (.int .i64 m.D.n)) := X0.cell rfl
  have K7 : Hid (w1.cell? ⟨w.heap.size, 7, none⟩ = some (.int .i64 m.D.d)) := X0.cell rfl
  clear X0
  have X1 : Blk w1 (w.heap.size + 1) #[.int .i64 x.n, .int .i64 x.d] 25 := Blk.old ((Blk.alloc (Blk.new (by simp)) _)) hb
  have K8 : Hid (w1.cell? ⟨w.heap.size + 1, 0, none⟩ = some (.int .i64 x.n)) := X1.cell rfl
  have K9 : Hid (w1.cell? ⟨w.heap.size + 1, 1, none⟩ = some (.int .i64 x.d)) := X1.cell rfl
  clear X1
  have RB : Hid (Blk w1 (w.heap.size + 1 + 1) #[.int .i64 0, .int .i64 0, .int .i64 0, .int .i64 0, .int .i64 0] 31) := Blk.old (Blk.new (by simp)) hb
  clear hb
  have r0 := RB.out.cell (j := 0) rfl
  have r1 := RB.out.cell (j := 1) rfl
  have r2 := RB.out.cell (j := 2) rfl
  have r3 := RB.out.cell (j := 3) rfl
  have r4 := RB.out.cell (j := 4) rfl
  have rf := RB.out.frozen
  go_wp2
  refine bodyPost_ret (v := .agg #[.int .i64 1, .int .i64 0, .int .i64 0, .int .i64 0, .int .i64 0]) (by simp [results, Try.results7, go_sem, r0, r1, r2, r3, r4, World.cell?_alloc_lt, RB.out.lt] <;> (repeat' (first | rfl | apply And.intro))) rfl ⟨rfl, ?_⟩
  have h := HO.out
  have hlt := RB.out.lt
  have hsz := h.size
  go_grown
set_option maxRecDepth 20000 in
set_option maxHeartbeats 1600000 in
theorem iimg_1 (m : Mx) (x : Q) (w : World) (h0 : m.ok = true) (h1 : x.ok = false) : Calls Try.prog 7 #[.agg #[.int .i64 m.A.n, .int .i64 m.A.d, .int .i64 m.B.n, .int .i64 m.B.d, .int .i64 m.C.n, .int .i64 m.C.d, .int .i64 m.D.n, .int .i64 m.D.d], .agg #[.int .i64 x.n, .int .i64 x.d]] w fun e w' => e = .returned (.agg #[.int .i64 1, .int .i64 0, .int .i64 0, .int .i64 0, .int .i64 0]) ∧ Below w.heap.size w w' := by
  have qm := mfault_ne m
  rw [h0] at qm
  have qx := fault_ne x.n x.d
  rw [show rightB x.n x.d = x.ok from rfl, h1] at qx
  go_enter Try.func7, Try.ntmps7
  go_wp2_with fail
  refine (imfault m _).mono ?_
  rintro e w1 ⟨rfl, hb⟩
  have HO : Hid (Below w.heap.size w w1) := by refine box_step ?_ hb (by simp <;> omega); go_grown
  have X0 : Blk w1 (w.heap.size) #[.int .i64 m.A.n, .int .i64 m.A.d, .int .i64 m.B.n, .int .i64 m.B.d, .int .i64 m.C.n, .int .i64 m.C.d, .int .i64 m.D.n, .int .i64 m.D.d] 27 := Blk.old ((Blk.alloc (Blk.alloc (Blk.new (by simp)) _) _)) hb
  have K0 : Hid (w1.cell? ⟨w.heap.size, 0, none⟩ = some (.int .i64 m.A.n)) := X0.cell rfl
  have K1 : Hid (w1.cell? ⟨w.heap.size, 1, none⟩ = some (.int .i64 m.A.d)) := X0.cell rfl
  have K2 : Hid (w1.cell? ⟨w.heap.size, 2, none⟩ = some (.int .i64 m.B.n)) := X0.cell rfl
  have K3 : Hid (w1.cell? ⟨w.heap.size, 3, none⟩ = some (.int .i64 m.B.d)) := X0.cell rfl
  have K4 : Hid (w1.cell? ⟨w.heap.size, 4, none⟩ = some (.int .i64 m.C.n)) := X0.cell rfl
  have K5 : Hid (w1.cell? ⟨w.heap.size, 5, none⟩ = some (.int .i64 m.C.d)) := X0.cell rfl
  have K6 : Hid (w1.cell? ⟨w.heap.size, 6, none⟩ = some (.int .i64 m.D.n)) := X0.cell rfl
  have K7 : Hid (w1.cell? ⟨w.heap.size, 7, none⟩ = some (.int .i64 m.D.d)) := X0.cell rfl
  clear X0
  have X1 : Blk w1 (w.heap.size + 1) #[.int .i64 x.n, .int .i64 x.d] 25 := Blk.old ((Blk.alloc (Blk.new (by simp)) _)) hb
  have K8 : Hid (w1.cell? ⟨w.heap.size + 1, 0, none⟩ = some (.int .i64 x.n)) := X1.cell rfl
  have K9 : Hid (w1.cell? ⟨w.heap.size + 1, 1, none⟩ = some (.int .i64 x.d)) := X1.cell rfl
  clear X1
  have RB : Hid (Blk w1 (w.heap.size + 1 + 1) #[.int .i64 0, .int .i64 0, .int .i64 0, .int .i64 0, .int .i64 0] 31) := Blk.old (Blk.new (by simp)) hb
  clear hb
  have c8 := K8.out
  have c9 := K9.out
  have r0 := RB.out.cell (j := 0) rfl
  have r1 := RB.out.cell (j := 1) rfl
  have r2 := RB.out.cell (j := 2) rfl
  have r3 := RB.out.cell (j := 3) rfl
  have r4 := RB.out.cell (j := 4) rfl
  have rf := RB.out.frozen
  go_wp2_with fail
  refine (ifaultq x _).mono ?_
  rintro e w2 ⟨rfl, hb⟩
  clear c8 c9 r0 r1 r2 r3 r4 rf
  have HO : Hid (Below w.heap.size w w2) := by have h := HO.out; have hs := h.size; refine box_step ?_ hb (by first | exact hs | (simp <;> omega)); go_grown
  have RB : Hid (Blk w2 (w.heap.size + 1 + 1) #[.int .i64 0, .int .i64 0, .int .i64 0, .int .i64 0, .int .i64 0] 31) := Blk.old (RB.out) hb
  have K10 : Hid (w2.cell? ⟨w.heap.size, 0, none⟩ = some (.int .i64 m.A.n)) := kold hb (K0.out)
  have K11 : Hid (w2.cell? ⟨w.heap.size, 1, none⟩ = some (.int .i64 m.A.d)) := kold hb (K1.out)
  have K12 : Hid (w2.cell? ⟨w.heap.size, 2, none⟩ = some (.int .i64 m.B.n)) := kold hb (K2.out)
  have K13 : Hid (w2.cell? ⟨w.heap.size, 3, none⟩ = some (.int .i64 m.B.d)) := kold hb (K3.out)
  have K14 : Hid (w2.cell? ⟨w.heap.size, 4, none⟩ = some (.int .i64 m.C.n)) := kold hb (K4.out)
  have K15 : Hid (w2.cell? ⟨w.heap.size, 5, none⟩ = some (.int .i64 m.C.d)) := kold hb (K5.out)
  have K16 : Hid (w2.cell? ⟨w.heap.size, 6, none⟩ = some (.int .i64 m.D.n)) := kold hb (K6.out)
  have K17 : Hid (w2.cell? ⟨w.heap.size, 7, none⟩ = some (.int .i64 m.D.d)) := kold hb (K7.out)
  have K18 : Hid (w2.cell? ⟨w.heap.size + 1, 0, none⟩ = some (.int .i64 x.n)) := kold hb (K8.out)
  have K19 : Hid (w2.cell? ⟨w.heap.size + 1, 1, none⟩ = some (.int .i64 x.d)) := kold hb (K9.out)
  clear K0 K1 K2 K3 K4 K5 K6 K7 K8 K9
  clear hb
  have r0 := RB.out.cell (j := 0) rfl
  have r1 := RB.out.cell (j := 1) rfl
  have r2 := RB.out.cell (j := 2) rfl
  have r3 := RB.out.cell (j := 3) rfl
  have r4 := RB.out.cell (j := 4) rfl
  have rf := RB.out.frozen
  go_wp2
  refine bodyPost_ret (v := .agg #[.int .i64 1, .int .i64 0, .int .i64 0, .int .i64 0, .int .i64 0]) (by simp [results, Try.results7, go_sem, r0, r1, r2, r3, r4, World.cell?_alloc_lt, RB.out.lt] <;> (repeat' (first | rfl | apply And.intro))) rfl ⟨rfl, ?_⟩
  have h := HO.out
  have hlt := RB.out.lt
  have hsz := h.size
  go_grown
theorem im_tok {m : Mx} {x : Q} (hd : m.D.ok = true) (h : tK m x = true) : (tV m x).ok = true := by
  have e : tV m x = addQ (mulQ m.C x) m.D := (sum_same hd).symm
  have hk : addK (mulQ m.C x) m.D = true := by
    unfold tK aK at h
    simp at h
    exact h.2
  obtain ⟨k1, k2⟩ := addK_ok hk
  rw [e]
  have hm : (mulQ m.C x).d * m.D.d ≠ 0 := mul_ne (by have := (right_t k1).1; omega) (by have := (right_t k2).1; omega)
  have e1 : (rightB (mulQ m.C x).n (mulQ m.C x).d && rightB m.D.n m.D.d) = true := by rw [show rightB (mulQ m.C x).n (mulQ m.C x).d = true from k1, show rightB m.D.n m.D.d = true from k2]; rfl
  have hl : lowB ((mulQ m.C x).n * m.D.d + m.D.n * (mulQ m.C x).d) ((mulQ m.C x).d * m.D.d) = true := by
    unfold addK addC opC resC at hk
    rw [if_pos e1] at hk
    cases hl : lowB ((mulQ m.C x).n * m.D.d + m.D.n * (mulQ m.C x).d) ((mulQ m.C x).d * m.D.d)
    · rw [hl] at hk; simp at hk
    · rfl
  unfold Q.ok addQ opN opD resN resD
  simp only [e1, hl, if_true]
  exact lowB_right hm hl
set_option maxRecDepth 20000 in
set_option maxHeartbeats 12800000 in
theorem iimg_2 (m : Mx) (x : Q) (w : World) (h0 : m.ok = true) (h1 : x.ok = true) : Calls Try.prog 7 #[.agg #[.int .i64 m.A.n, .int .i64 m.A.d, .int .i64 m.B.n, .int .i64 m.B.d, .int .i64 m.C.n, .int .i64 m.C.d, .int .i64 m.D.n, .int .i64 m.D.d], .agg #[.int .i64 x.n, .int .i64 x.d]] w fun e w' => e = .returned (.agg #[.int .i64 (imC m x), .int .i64 (sel (imC m x) (nQ (bV m x))).n, .int .i64 (sel (imC m x) (nQ (bV m x))).d, .int .i64 (sel (imC m x) (cV m x)).n, .int .i64 (sel (imC m x) (cV m x)).d]) ∧ Below w.heap.size w w' := by
  have qm := mfault_ne m
  rw [h0] at qm
  have qx := fault_ne x.n x.d
  rw [show rightB x.n x.d = x.ok from rfl, h1] at qx
  obtain ⟨okA, okB, okC, okD⟩ := mxok h0
  have st := st25
  go_enter Try.func7, Try.ntmps7
  go_wp2_with fail
  refine (imfault m _).mono ?_
  rintro e w1 ⟨rfl, hb⟩
  have HO : Hid (Below w.heap.size w w1) := by refine box_step ?_ hb (by simp <;> omega); go_grown
  have X0 : Blk w1 (w.heap.size) #[.int .i64 m.A.n, .int .i64 m.A.d, .int .i64 m.B.n, .int .i64 m.B.d, .int .i64 m.C.n, .int .i64 m.C.d, .int .i64 m.D.n, .int .i64 m.D.d] 27 := Blk.old ((Blk.alloc (Blk.alloc (Blk.new (by simp)) _) _)) hb
  have K0 : Hid (w1.cell? ⟨w.heap.size, 0, none⟩ = some (.int .i64 m.A.n)) := X0.cell rfl
  have K1 : Hid (w1.cell? ⟨w.heap.size, 1, none⟩ = some (.int .i64 m.A.d)) := X0.cell rfl
  have K2 : Hid (w1.cell? ⟨w.heap.size, 2, none⟩ = some (.int .i64 m.B.n)) := X0.cell rfl
  have K3 : Hid (w1.cell? ⟨w.heap.size, 3, none⟩ = some (.int .i64 m.B.d)) := X0.cell rfl
  have K4 : Hid (w1.cell? ⟨w.heap.size, 4, none⟩ = some (.int .i64 m.C.n)) := X0.cell rfl
  have K5 : Hid (w1.cell? ⟨w.heap.size, 5, none⟩ = some (.int .i64 m.C.d)) := X0.cell rfl
  have K6 : Hid (w1.cell? ⟨w.heap.size, 6, none⟩ = some (.int .i64 m.D.n)) := X0.cell rfl
  have K7 : Hid (w1.cell? ⟨w.heap.size, 7, none⟩ = some (.int .i64 m.D.d)) := X0.cell rfl
  clear X0
  have X1 : Blk w1 (w.heap.size + 1) #[.int .i64 x.n, .int .i64 x.d] 25 := Blk.old ((Blk.alloc (Blk.new (by simp)) _)) hb
  have K8 : Hid (w1.cell? ⟨w.heap.size + 1, 0, none⟩ = some (.int .i64 x.n)) := X1.cell rfl
  have K9 : Hid (w1.cell? ⟨w.heap.size + 1, 1, none⟩ = some (.int .i64 x.d)) := X1.cell rfl
  clear X1
  have RB : Hid (Blk w1 (w.heap.size + 1 + 1) #[.int .i64 0, .int .i64 0, .int .i64 0, .int .i64 0, .int .i64 0] 31) := Blk.old (Blk.new (by simp)) hb
  clear hb
  have c8 := K8.out
  have c9 := K9.out
  have r0 := RB.out.cell (j := 0) rfl
  have r1 := RB.out.cell (j := 1) rfl
  have r2 := RB.out.cell (j := 2) rfl
  have r3 := RB.out.cell (j := 3) rfl
  have r4 := RB.out.cell (j := 4) rfl
  have rf := RB.out.frozen
  go_wp2_with fail
  refine (ifaultq x _).mono ?_
  rintro e w2 ⟨rfl, hb⟩
  clear c8 c9 r0 r1 r2 r3 r4 rf
  have HO : Hid (Below w.heap.size w w2) := by have h := HO.out; have hs := h.size; refine box_step ?_ hb (by first | exact hs | (simp <;> omega)); go_grown
  have RB : Hid (Blk w2 (w.heap.size + 1 + 1) #[.int .i64 0, .int .i64 0, .int .i64 0, .int .i64 0, .int .i64 0] 31) := Blk.old (RB.out) hb
  have K10 : Hid (w2.cell? ⟨w.heap.size, 0, none⟩ = some (.int .i64 m.A.n)) := kold hb (K0.out)
  have K11 : Hid (w2.cell? ⟨w.heap.size, 1, none⟩ = some (.int .i64 m.A.d)) := kold hb (K1.out)
  have K12 : Hid (w2.cell? ⟨w.heap.size, 2, none⟩ = some (.int .i64 m.B.n)) := kold hb (K2.out)
  have K13 : Hid (w2.cell? ⟨w.heap.size, 3, none⟩ = some (.int .i64 m.B.d)) := kold hb (K3.out)
  have K14 : Hid (w2.cell? ⟨w.heap.size, 4, none⟩ = some (.int .i64 m.C.n)) := kold hb (K4.out)
  have K15 : Hid (w2.cell? ⟨w.heap.size, 5, none⟩ = some (.int .i64 m.C.d)) := kold hb (K5.out)
  have K16 : Hid (w2.cell? ⟨w.heap.size, 6, none⟩ = some (.int .i64 m.D.n)) := kold hb (K6.out)
  have K17 : Hid (w2.cell? ⟨w.heap.size, 7, none⟩ = some (.int .i64 m.D.d)) := kold hb (K7.out)
  have K18 : Hid (w2.cell? ⟨w.heap.size + 1, 0, none⟩ = some (.int .i64 x.n)) := kold hb (K8.out)
  have K19 : Hid (w2.cell? ⟨w.heap.size + 1, 1, none⟩ = some (.int .i64 x.d)) := kold hb (K9.out)
  clear K0 K1 K2 K3 K4 K5 K6 K7 K8 K9
  clear hb
  go_upto_region 4 with fail
  obtain ⟨r, hr⟩ : ∃ r, r = w2.heap.size := ⟨_, rfl⟩
  obtain ⟨w3, hY⟩ : ∃ Y, Y = w2.alloc (.cells #[.bool false] 56) := ⟨_, rfl⟩
  rw [← hY, ← hr]
  have FL : Hid (flag r false w3) := by rw [hY, hr]; exact Blk.new rfl
  have hrl : r < w3.heap.size := FL.out.lt
  have hrw : w.heap.size ≤ r := by rw [hr]; exact HO.out.size
  have HO : Hid (Below w.heap.size w w3) := by rw [hY]; exact HO.out.alloc HO.out.size _
  have ne0 : Hid (w.heap.size ≠ r) := by have hh : w.heap.size < w2.heap.size := World.block_lt_of_cell? _ _ K10.out; show w.heap.size ≠ r; omega
  have ne1 : Hid (w.heap.size + 1 ≠ r) := by have hh : w.heap.size + 1 < w2.heap.size := World.block_lt_of_cell? _ _ K18.out; show w.heap.size + 1 ≠ r; omega
  have neR : Hid (w.heap.size + 1 + 1 ≠ r) := by have := RB.out.lt; show w.heap.size + 1 + 1 ≠ r; omega
  have RB : Hid (Blk w3 (w.heap.size + 1 + 1) #[.int .i64 0, .int .i64 0, .int .i64 0, .int .i64 0, .int .i64 0] 31) := by rw [hY]; exact Blk.alloc RB.out _
  have K20 : Hid (w3.cell? ⟨w.heap.size, 0, none⟩ = some (.int .i64 m.A.n)) := by rw [hY]; exact cell_old K10.out
  have K21 : Hid (w3.cell? ⟨w.heap.size, 1, none⟩ = some (.int .i64 m.A.d)) := by rw [hY]; exact cell_old K11.out
  have K22 : Hid (w3.cell? ⟨w.heap.size, 2, none⟩ = some (.int .i64 m.B.n)) := by rw [hY]; exact cell_old K12.out
  have K23 : Hid (w3.cell? ⟨w.heap.size, 3, none⟩ = some (.int .i64 m.B.d)) := by rw [hY]; exact cell_old K13.out
  have K24 : Hid (w3.cell? ⟨w.heap.size, 4, none⟩ = some (.int .i64 m.C.n)) := by rw [hY]; exact cell_old K14.out
  have K25 : Hid (w3.cell? ⟨w.heap.size, 5, none⟩ = some (.int .i64 m.C.d)) := by rw [hY]; exact cell_old K15.out
  have K26 : Hid (w3.cell? ⟨w.heap.size, 6, none⟩ = some (.int .i64 m.D.n)) := by rw [hY]; exact cell_old K16.out
  have K27 : Hid (w3.cell? ⟨w.heap.size, 7, none⟩ = some (.int .i64 m.D.d)) := by rw [hY]; exact cell_old K17.out
  have K28 : Hid (w3.cell? ⟨w.heap.size + 1, 0, none⟩ = some (.int .i64 x.n)) := by rw [hY]; exact cell_old K18.out
  have K29 : Hid (w3.cell? ⟨w.heap.size + 1, 1, none⟩ = some (.int .i64 x.d)) := by rw [hY]; exact cell_old K19.out
  clear K10 K11 K12 K13 K14 K15 K16 K17 K18 K19 hY hr
  clear qm qx
  have eT : addQ (mulQ m.C x) m.D = tV m x := sum_same okD
  have k0 : ∀ W, But r w3.heap.size w3 W → W.cell? ⟨w.heap.size, 0, none⟩ = some (.int .i64 m.A.n) := fun _ h => kbut h K20.out ne0.out
  have k1 : ∀ W, But r w3.heap.size w3 W → W.cell? ⟨w.heap.size, 1, none⟩ = some (.int .i64 m.A.d) := fun _ h => kbut h K21.out ne0.out
  have k2 : ∀ W, But r w3.heap.size w3 W → W.cell? ⟨w.heap.size, 2, none⟩ = some (.int .i64 m.B.n) := fun _ h => kbut h K22.out ne0.out
  have k3 : ∀ W, But r w3.heap.size w3 W → W.cell? ⟨w.heap.size, 3, none⟩ = some (.int .i64 m.B.d) := fun _ h => kbut h K23.out ne0.out
  have k4 : ∀ W, But r w3.heap.size w3 W → W.cell? ⟨w.heap.size, 4, none⟩ = some (.int .i64 m.C.n) := fun _ h => kbut h K24.out ne0.out
  have k5 : ∀ W, But r w3.heap.size w3 W → W.cell? ⟨w.heap.size, 5, none⟩ = some (.int .i64 m.C.d) := fun _ h => kbut h K25.out ne0.out
  have k6 : ∀ W, But r w3.heap.size w3 W → W.cell? ⟨w.heap.size, 6, none⟩ = some (.int .i64 m.D.n) := fun _ h => kbut h K26.out ne0.out
  have k7 : ∀ W, But r w3.heap.size w3 W → W.cell? ⟨w.heap.size, 7, none⟩ = some (.int .i64 m.D.d) := fun _ h => kbut h K27.out ne0.out
  have k8 : ∀ W, But r w3.heap.size w3 W → W.cell? ⟨w.heap.size + 1, 0, none⟩ = some (.int .i64 x.n) := fun _ h => kbut h K28.out ne1.out
  have k9 : ∀ W, But r w3.heap.size w3 W → W.cell? ⟨w.heap.size + 1, 1, none⟩ = some (.int .i64 x.d) := fun _ h => kbut h K29.out ne1.out
  have hR0 : But r w3.heap.size w3 w3 := But.refl _ _ _
  have F0 : flag r (false) w3 := FL.out
  have hn0 : w3.heap.size ≠ r := by omega
  go_wp2_with fail
  go_cut [6] (fun p wx => ∃ k : Nat, p = .pointer (some ⟨k, 0, none⟩) ∧ w3.heap.size ≤ k ∧ k < wx.heap.size ∧ But r w3.heap.size w3 wx ∧ flag r ((false || !mulK m.C x) || !addK (mulQ m.C x) m.D) wx ∧ wx.cell? ⟨k, 0, none⟩ = some (.int .i64 (tV m x).n) ∧ wx.cell? ⟨k, 1, none⟩ = some (.int .i64 (tV m x).d))
  case first =>
    go_region_held3 (fun W => But r w3.heap.size w3 W) ((repeat' (first | (with_reducible exact But.refl _ _ _) | (with_reducible assumption) | (with_reducible refine But.setFlag ?_ _) | (with_reducible refine But.alloc ?_ ?_ _) | (with_reducible refine But.drew ?_) | (with_reducible refine But.setCell ?_ ?_ _) | go_size))) (first | (go_at_call 25; refine Calls.mono (rprod _ _ r _ _ (by (repeat' (first | (with_reducible assumption) | (with_reducible apply flag.set) | (with_reducible apply flag.alloc) | (with_reducible apply flag.drew) | (with_reducible apply flag.setOther) | omega | (simp; omega) | (simp; done))))) ?_; rintro e wz ⟨rfl, hb1, F1⟩; have hs1 := hb1.size; (try simp at hs1); have hR1 : But r w3.heap.size w3 wz := (by refine But.call ?_ hb1 (by go_size); (repeat' (first | (with_reducible exact But.refl _ _ _) | (with_reducible assumption) | (with_reducible refine But.setFlag ?_ _) | (with_reducible refine But.alloc ?_ ?_ _) | (with_reducible refine But.drew ?_) | (with_reducible refine But.setCell ?_ ?_ _) | go_size))); have hn1 : wz.heap.size ≠ r := (by have := hR1.size; omega); (first | (have hZ := But.trans hZ (But.mono hb1 hZ.size)) | (have hZ := hb1)); obtain ⟨ho1, hf1, hz1⟩ := oldsB hZ) | (go_at_call 24; refine Calls.mono (rsum _ _ r _ _ (by (repeat' (first | (with_reducible assumption) | (with_reducible apply flag.set) | (with_reducible apply flag.alloc) | (with_reducible apply flag.drew) | (with_reducible apply flag.setOther) | omega | (simp; omega) | (simp; done))))) ?_; rintro e wz ⟨rfl, hb1, F1⟩; have hs1 := hb1.size; (try simp at hs1); have hR1 : But r w3.heap.size w3 wz := (by refine But.call ?_ hb1 (by go_size); (repeat' (first | (with_reducible exact But.refl _ _ _) | (with_reducible assumption) | (with_reducible refine But.setFlag ?_ _) | (with_reducible refine But.alloc ?_ ?_ _) | (with_reducible refine But.drew ?_) | (with_reducible refine But.setCell ?_ ?_ _) | go_size))); have hn1 : wz.heap.size ≠ r := (by have := hR1.size; omega); (first | (have hZ := But.trans hZ (But.mono hb1 hZ.size)) | (have hZ := hb1)); obtain ⟨ho1, hf1, hz1⟩ := oldsB hZ))
    all_goals
      go_wp2_with fail
      go_meet
      case rel =>
        refine ⟨_, rfl, ?_, ?_, ?_, ?_, ?_, ?_⟩
        · omega
        · simp [World.setCell] <;> omega
        · (repeat' (first | (with_reducible exact But.refl _ _ _) | (with_reducible assumption) | (with_reducible refine But.setFlag ?_ _) | (with_reducible refine But.alloc ?_ ?_ _) | (with_reducible refine But.drew ?_) | (with_reducible refine But.setCell ?_ ?_ _) | go_size))
        · (repeat' (first | (with_reducible assumption) | (with_reducible apply flag.set) | (with_reducible apply flag.alloc) | (with_reducible apply flag.drew) | (with_reducible apply flag.setOther) | omega | (simp; omega) | (simp; done)))
        · go_simp
        · go_simp
  case rest =>
    obtain ⟨b4, rfl, hk1, hk2, hB, hF, d0, d1⟩ := hcut
    clear k0 k1 k2 k3 k4 k5 k6 k7 k8 k9 hR0 F0 hn0
    obtain ⟨w4, hv⟩ : ∃ v, v = wc := ⟨_, rfl⟩
    subst hv
    have HO : Hid (Below w.heap.size w w4) := HO.out.trans ((hB.mono HO.out.size).below hrw)
    have RB : Hid (Blk w4 (w.heap.size + 1 + 1) #[.int .i64 0, .int .i64 0, .int .i64 0, .int .i64 0, .int .i64 0] 31) := Blk.but RB.out hB neR.out
    have FL : Hid (flag r ((false || !mulK m.C x) || !addK (mulQ m.C x) m.D) w4) := hF
    have nb4 : Hid (b4 ≠ r) := by show b4 ≠ r; omega
    have hrl : r < w4.heap.size := FL.out.lt
    have K30 : Hid (w4.cell? ⟨w.heap.size, 0, none⟩ = some (.int .i64 m.A.n)) := kbut hB K20.out ne0.out
    have K31 : Hid (w4.cell? ⟨w.heap.size, 1, none⟩ = some (.int .i64 m.A.d)) := kbut hB K21.out ne0.out
    have K32 : Hid (w4.cell? ⟨w.heap.size, 2, none⟩ = some (.int .i64 m.B.n)) := kbut hB K22.out ne0.out
    have K33 : Hid (w4.cell? ⟨w.heap.size, 3, none⟩ = some (.int .i64 m.B.d)) := kbut hB K23.out ne0.out
    have K34 : Hid (w4.cell? ⟨w.heap.size, 4, none⟩ = some (.int .i64 m.C.n)) := kbut hB K24.out ne0.out
    have K35 : Hid (w4.cell? ⟨w.heap.size, 5, none⟩ = some (.int .i64 m.C.d)) := kbut hB K25.out ne0.out
    have K36 : Hid (w4.cell? ⟨w.heap.size, 6, none⟩ = some (.int .i64 m.D.n)) := kbut hB K26.out ne0.out
    have K37 : Hid (w4.cell? ⟨w.heap.size, 7, none⟩ = some (.int .i64 m.D.d)) := kbut hB K27.out ne0.out
    have K38 : Hid (w4.cell? ⟨w.heap.size + 1, 0, none⟩ = some (.int .i64 x.n)) := kbut hB K28.out ne1.out
    have K39 : Hid (w4.cell? ⟨w.heap.size + 1, 1, none⟩ = some (.int .i64 x.d)) := kbut hB K29.out ne1.out
    clear K20 K21 K22 K23 K24 K25 K26 K27 K28 K29
    have K40 : Hid (w4.cell? ⟨b4, 0, none⟩ = some (.int .i64 (tV m x).n)) := d0
    have K41 : Hid (w4.cell? ⟨b4, 1, none⟩ = some (.int .i64 (tV m x).d)) := d1
    clear hB hF hk1 hk2 d0 d1
    clear eT
    have k10 : ∀ W, Below w4.heap.size w4 W → W.cell? ⟨b4, 0, none⟩ = some (.int .i64 (tV m x).n) := fun _ h => kold h K40.out
    have k11 : ∀ W, Below w4.heap.size w4 W → W.cell? ⟨b4, 1, none⟩ = some (.int .i64 (tV m x).d) := fun _ h => kold h K41.out
    have hR0 : Below w4.heap.size w4 w4 := Below.refl _ _
    go_wp2_with fail
    go_cut [29] (fun c wx => c = .bool (tK m x && ((tV m x).n == 0)) ∧ Below w4.heap.size w4 wx)
    case first =>
      cases hx : (tK m x && ((tV m x).n == 0))
      case false =>
        cases hn : ((tV m x).n == 0)
        case false =>
          go_region_held3 (fun W => Below w4.heap.size w4 W) (go_grown) (first | (go_at_call 26; refine (iint _ _).mono ?_; rintro e wz ⟨rfl, hb1⟩; have hs1 := hb1.size; (try simp at hs1); have hR1 : Below w4.heap.size w4 wz := (by refine box_step ?_ hb1 (by go_size); go_grown)))
          all_goals
            go_wp2_with fail
            go_meet
            case rel =>
              refine ⟨by first | rfl | (rw [hx]), ?_⟩
              go_grown
        case true =>
          have ht : tK m x = false := by rw [hn] at hx; simpa using hx
          have e0 : tV m x = zQ := by have := sum_same (a := m.C) (x := x) okD; rw [show tV m x = addQ (mulQ m.C x) m.D from this.symm]; refine addQ_no ?_; cases ha : addK (mulQ m.C x) m.D; rfl; exact absurd ht (by unfold tK aK; rw [ha, okD]; cases hm : mulK m.C x; exact absurd (addK_ok ha).1 (by rw [mulQ_no hm]; simp [zQ_ok]); simp)
          have hd : ((tV m x).d == 1) = false := by rw [e0]; rfl
          clear e0 ht
          go_region_held3 (fun W => Below w4.heap.size w4 W) (go_grown) (first | (go_at_call 26; refine (iint _ _).mono ?_; rintro e wz ⟨rfl, hb1⟩; have hs1 := hb1.size; (try simp at hs1); have hR1 : Below w4.heap.size w4 wz := (by refine box_step ?_ hb1 (by go_size); go_grown)))
          all_goals
            go_wp2_with fail
            go_meet
            case rel =>
              refine ⟨by first | rfl | (rw [hx]), ?_⟩
              go_grown
      case true =>
        have hn : ((tV m x).n == 0) = true := by simp at hx; simpa using hx.2
        have hto : (tV m x).ok = true := im_tok okD (by simp at hx; exact hx.1)
        have hd : ((tV m x).d == 1) = true := by have h3 := nil_den hto (by simpa using hn); simpa using h3
        clear hto
        go_region_held3 (fun W => Below w4.heap.size w4 W) (go_grown) (first | (go_at_call 26; refine (iint _ _).mono ?_; rintro e wz ⟨rfl, hb1⟩; have hs1 := hb1.size; (try simp at hs1); have hR1 : Below w4.heap.size w4 wz := (by refine box_step ?_ hb1 (by go_size); go_grown)))
        all_goals
          go_wp2_with fail
          go_meet
          case rel =>
            refine ⟨by first | rfl | (rw [hx]), ?_⟩
            go_grown
    case rest =>
      obtain ⟨rfl, hB⟩ := hcut
      clear k10 k11 hR0
      obtain ⟨w5, hv⟩ : ∃ v, v = wc := ⟨_, rfl⟩
      subst hv
      have HO : Hid (Below w.heap.size w w5) := box_step HO.out hB (by first | exact Nat.le_refl _ | exact HO.out.size)
      have RB : Hid (Blk w5 (w.heap.size + 1 + 1) #[.int .i64 0, .int .i64 0, .int .i64 0, .int .i64 0, .int .i64 0] 31) := Blk.old RB.out hB
      have K42 : Hid (w5.cell? ⟨w.heap.size, 0, none⟩ = some (.int .i64 m.A.n)) := kold hB (K30.out)
      have K43 : Hid (w5.cell? ⟨w.heap.size, 1, none⟩ = some (.int .i64 m.A.d)) := kold hB (K31.out)
      have K44 : Hid (w5.cell? ⟨w.heap.size, 2, none⟩ = some (.int .i64 m.B.n)) := kold hB (K32.out)
      have K45 : Hid (w5.cell? ⟨w.heap.size, 3, none⟩ = some (.int .i64 m.B.d)) := kold hB (K33.out)
      have K46 : Hid (w5.cell? ⟨w.heap.size, 4, none⟩ = some (.int .i64 m.C.n)) := kold hB (K34.out)
      have K47 : Hid (w5.cell? ⟨w.heap.size, 5, none⟩ = some (.int .i64 m.C.d)) := kold hB (K35.out)
      have K48 : Hid (w5.cell? ⟨w.heap.size, 6, none⟩ = some (.int .i64 m.D.n)) := kold hB (K36.out)
      have K49 : Hid (w5.cell? ⟨w.heap.size, 7, none⟩ = some (.int .i64 m.D.d)) := kold hB (K37.out)
      have K50 : Hid (w5.cell? ⟨w.heap.size + 1, 0, none⟩ = some (.int .i64 x.n)) := kold hB (K38.out)
      have K51 : Hid (w5.cell? ⟨w.heap.size + 1, 1, none⟩ = some (.int .i64 x.d)) := kold hB (K39.out)
      have K52 : Hid (w5.cell? ⟨b4, 0, none⟩ = some (.int .i64 (tV m x).n)) := kold hB (K40.out)
      have K53 : Hid (w5.cell? ⟨b4, 1, none⟩ = some (.int .i64 (tV m x).d)) := kold hB (K41.out)
      clear K30 K31 K32 K33 K34 K35 K36 K37 K38 K39 K40 K41
      have FL : Hid (flag r ((false || !mulK m.C x) || !addK (mulQ m.C x) m.D) w5) := flag.below FL.out hB hrl
      have hrl : r < w5.heap.size := FL.out.lt
      clear hB
      cases hz : (tK m x && ((tV m x).n == 0))
      case true =>
        have hc : imC m x = 4 := by rw [im_t h0 h1]; simp at hz; rw [hz.1, if_pos rfl, if_pos hz.2]
        clear okA okB okC okD st
        have r0 := RB.out.cell (j := 0) rfl
        have r1 := RB.out.cell (j := 1) rfl
        have r2 := RB.out.cell (j := 2) rfl
        have r3 := RB.out.cell (j := 3) rfl
        have r4 := RB.out.cell (j := 4) rfl
        have rf := RB.out.frozen
        repeat go_step
        refine bodyPost_ret (v := .agg #[.int .i64 4, .int .i64 0, .int .i64 0, .int .i64 0, .int .i64 0]) (by simp [results, Try.results7, go_sem, r0, r1, r2, r3, r4, World.cell?_alloc_lt, RB.out.lt] <;> (repeat' (first | rfl | apply And.intro))) rfl ⟨by rw [hc]; rfl, ?_⟩
        have h := HO.out
        have hlt := RB.out.lt
        have hsz := h.size
        go_grown
      case false =>
        have eH : addQ (mulQ m.A x) m.B = hV m x := sum_same okB
        have k0 : ∀ W, But r w5.heap.size w5 W → W.cell? ⟨w.heap.size, 0, none⟩ = some (.int .i64 m.A.n) := fun _ h => kbut h K42.out ne0.out
        have k1 : ∀ W, But r w5.heap.size w5 W → W.cell? ⟨w.heap.size, 1, none⟩ = some (.int .i64 m.A.d) := fun _ h => kbut h K43.out ne0.out
        have k2 : ∀ W, But r w5.heap.size w5 W → W.cell? ⟨w.heap.size, 2, none⟩ = some (.int .i64 m.B.n) := fun _ h => kbut h K44.out ne0.out
        have k3 : ∀ W, But r w5.heap.size w5 W → W.cell? ⟨w.heap.size, 3, none⟩ = some (.int .i64 m.B.d) := fun _ h => kbut h K45.out ne0.out
        have k4 : ∀ W, But r w5.heap.size w5 W → W.cell? ⟨w.heap.size, 4, none⟩ = some (.int .i64 m.C.n) := fun _ h => kbut h K46.out ne0.out
        have k5 : ∀ W, But r w5.heap.size w5 W → W.cell? ⟨w.heap.size, 5, none⟩ = some (.int .i64 m.C.d) := fun _ h => kbut h K47.out ne0.out
        have k6 : ∀ W, But r w5.heap.size w5 W → W.cell? ⟨w.heap.size, 6, none⟩ = some (.int .i64 m.D.n) := fun _ h => kbut h K48.out ne0.out
        have k7 : ∀ W, But r w5.heap.size w5 W → W.cell? ⟨w.heap.size, 7, none⟩ = some (.int .i64 m.D.d) := fun _ h => kbut h K49.out ne0.out
        have k8 : ∀ W, But r w5.heap.size w5 W → W.cell? ⟨w.heap.size + 1, 0, none⟩ = some (.int .i64 x.n) := fun _ h => kbut h K50.out ne1.out
        have k9 : ∀ W, But r w5.heap.size w5 W → W.cell? ⟨w.heap.size + 1, 1, none⟩ = some (.int .i64 x.d) := fun _ h => kbut h K51.out ne1.out
        have hR0 : But r w5.heap.size w5 w5 := But.refl _ _ _
        have F0 : flag r ((false || !mulK m.C x) || !addK (mulQ m.C x) m.D) w5 := FL.out
        have hn0 : w5.heap.size ≠ r := by omega
        go_wp2_with fail
        go_cut [7] (fun p wx => ∃ k : Nat, p = .pointer (some ⟨k, 0, none⟩) ∧ w5.heap.size ≤ k ∧ k < wx.heap.size ∧ But r w5.heap.size w5 wx ∧ flag r ((((false || !mulK m.C x) || !addK (mulQ m.C x) m.D) || !mulK m.A x) || !addK (mulQ m.A x) m.B) wx ∧ wx.cell? ⟨k, 0, none⟩ = some (.int .i64 (hV m x).n) ∧ wx.cell? ⟨k, 1, none⟩ = some (.int .i64 (hV m x).d))
        case first =>
          go_region_held3 (fun W => But r w5.heap.size w5 W) ((repeat' (first | (with_reducible exact But.refl _ _ _) | (with_reducible assumption) | (with_reducible refine But.setFlag ?_ _) | (with_reducible refine But.alloc ?_ ?_ _) | (with_reducible refine But.drew ?_) | (with_reducible refine But.setCell ?_ ?_ _) | go_size))) (first | (go_at_call 25; refine Calls.mono (rprod _ _ r _ _ (by (repeat' (first | (with_reducible assumption) | (with_reducible apply flag.set) | (with_reducible apply flag.alloc) | (with_reducible apply flag.drew) | (with_reducible apply flag.setOther) | omega | (simp; omega) | (simp; done))))) ?_; rintro e wz ⟨rfl, hb1, F1⟩; have hs1 := hb1.size; (try simp at hs1); have hR1 : But r w5.heap.size w5 wz := (by refine But.call ?_ hb1 (by go_size); (repeat' (first | (with_reducible exact But.refl _ _ _) | (with_reducible assumption) | (with_reducible refine But.setFlag ?_ _) | (with_reducible refine But.alloc ?_ ?_ _) | (with_reducible refine But.drew ?_) | (with_reducible refine But.setCell ?_ ?_ _) | go_size))); have hn1 : wz.heap.size ≠ r := (by have := hR1.size; omega); (first | (have hZ := But.trans hZ (But.mono hb1 hZ.size)) | (have hZ := hb1)); obtain ⟨ho1, hf1, hz1⟩ := oldsB hZ) | (go_at_call 24; refine Calls.mono (rsum _ _ r _ _ (by (repeat' (first | (with_reducible assumption) | (with_reducible apply flag.set) | (with_reducible apply flag.alloc) | (with_reducible apply flag.drew) | (with_reducible apply flag.setOther) | omega | (simp; omega) | (simp; done))))) ?_; rintro e wz ⟨rfl, hb1, F1⟩; have hs1 := hb1.size; (try simp at hs1); have hR1 : But r w5.heap.size w5 wz := (by refine But.call ?_ hb1 (by go_size); (repeat' (first | (with_reducible exact But.refl _ _ _) | (with_reducible assumption) | (with_reducible refine But.setFlag ?_ _) | (with_reducible refine But.alloc ?_ ?_ _) | (with_reducible refine But.drew ?_) | (with_reducible refine But.setCell ?_ ?_ _) | go_size))); have hn1 : wz.heap.size ≠ r := (by have := hR1.size; omega); (first | (have hZ := But.trans hZ (But.mono hb1 hZ.size)) | (have hZ := hb1)); obtain ⟨ho1, hf1, hz1⟩ := oldsB hZ))
          all_goals
            go_wp2_with fail
            go_meet
            case rel =>
              refine ⟨_, rfl, ?_, ?_, ?_, ?_, ?_, ?_⟩
              · omega
              · simp [World.setCell] <;> omega
              · (repeat' (first | (with_reducible exact But.refl _ _ _) | (with_reducible assumption) | (with_reducible refine But.setFlag ?_ _) | (with_reducible refine But.alloc ?_ ?_ _) | (with_reducible refine But.drew ?_) | (with_reducible refine But.setCell ?_ ?_ _) | go_size))
              · (repeat' (first | (with_reducible assumption) | (with_reducible apply flag.set) | (with_reducible apply flag.alloc) | (with_reducible apply flag.drew) | (with_reducible apply flag.setOther) | omega | (simp; omega) | (simp; done)))
              · go_simp
              · go_simp
        case rest =>
          obtain ⟨b6, rfl, hk1, hk2, hB, hF, d0, d1⟩ := hcut
          clear k0 k1 k2 k3 k4 k5 k6 k7 k8 k9 hR0 F0 hn0
          obtain ⟨w6, hv⟩ : ∃ v, v = wc := ⟨_, rfl⟩
          subst hv
          have HO : Hid (Below w.heap.size w w6) := HO.out.trans ((hB.mono HO.out.size).below hrw)
          have RB : Hid (Blk w6 (w.heap.size + 1 + 1) #[.int .i64 0, .int .i64 0, .int .i64 0, .int .i64 0, .int .i64 0] 31) := Blk.but RB.out hB neR.out
          have FL : Hid (flag r ((((false || !mulK m.C x) || !addK (mulQ m.C x) m.D) || !mulK m.A x) || !addK (mulQ m.A x) m.B) w6) := hF
          have nb6 : Hid (b6 ≠ r) := by show b6 ≠ r; omega
          have hrl : r < w6.heap.size := FL.out.lt
          have K54 : Hid (w6.cell? ⟨w.heap.size, 0, none⟩ = some (.int .i64 m.A.n)) := kbut hB K42.out ne0.out
          have K55 : Hid (w6.cell? ⟨w.heap.size, 1, none⟩ = some (.int .i64 m.A.d)) := kbut hB K43.out ne0.out
          have K56 : Hid (w6.cell? ⟨w.heap.size, 2, none⟩ = some (.int .i64 m.B.n)) := kbut hB K44.out ne0.out
          have K57 : Hid (w6.cell? ⟨w.heap.size, 3, none⟩ = some (.int .i64 m.B.d)) := kbut hB K45.out ne0.out
          have K58 : Hid (w6.cell? ⟨w.heap.size, 4, none⟩ = some (.int .i64 m.C.n)) := kbut hB K46.out ne0.out
          have K59 : Hid (w6.cell? ⟨w.heap.size, 5, none⟩ = some (.int .i64 m.C.d)) := kbut hB K47.out ne0.out
          have K60 : Hid (w6.cell? ⟨w.heap.size, 6, none⟩ = some (.int .i64 m.D.n)) := kbut hB K48.out ne0.out
          have K61 : Hid (w6.cell? ⟨w.heap.size, 7, none⟩ = some (.int .i64 m.D.d)) := kbut hB K49.out ne0.out
          have K62 : Hid (w6.cell? ⟨w.heap.size + 1, 0, none⟩ = some (.int .i64 x.n)) := kbut hB K50.out ne1.out
          have K63 : Hid (w6.cell? ⟨w.heap.size + 1, 1, none⟩ = some (.int .i64 x.d)) := kbut hB K51.out ne1.out
          have K64 : Hid (w6.cell? ⟨b4, 0, none⟩ = some (.int .i64 (tV m x).n)) := kbut hB K52.out nb4.out
          have K65 : Hid (w6.cell? ⟨b4, 1, none⟩ = some (.int .i64 (tV m x).d)) := kbut hB K53.out nb4.out
          clear K42 K43 K44 K45 K46 K47 K48 K49 K50 K51 K52 K53
          have K66 : Hid (w6.cell? ⟨b6, 0, none⟩ = some (.int .i64 (hV m x).n)) := d0
          have K67 : Hid (w6.cell? ⟨b6, 1, none⟩ = some (.int .i64 (hV m x).d)) := d1
          clear hB hF hk1 hk2 d0 d1
          clear eH
          have k10 : ∀ W, But r w6.heap.size w6 W → W.cell? ⟨b4, 0, none⟩ = some (.int .i64 (tV m x).n) := fun _ h => kbut h K64.out nb4.out
          have k11 : ∀ W, But r w6.heap.size w6 W → W.cell? ⟨b4, 1, none⟩ = some (.int .i64 (tV m x).d) := fun _ h => kbut h K65.out nb4.out
          have k12 : ∀ W, But r w6.heap.size w6 W → W.cell? ⟨b6, 0, none⟩ = some (.int .i64 (hV m x).n) := fun _ h => kbut h K66.out nb6.out
          have k13 : ∀ W, But r w6.heap.size w6 W → W.cell? ⟨b6, 1, none⟩ = some (.int .i64 (hV m x).d) := fun _ h => kbut h K67.out nb6.out
          have hR0 : But r w6.heap.size w6 w6 := But.refl _ _ _
          have F0 : flag r ((((false || !mulK m.C x) || !addK (mulQ m.C x) m.D) || !mulK m.A x) || !addK (mulQ m.A x) m.B) w6 := FL.out
          have hn0 : w6.heap.size ≠ r := by omega
          go_wp2_with fail
          go_cut [8] (fun p wx => ∃ k : Nat, p = .pointer (some ⟨k, 0, none⟩) ∧ w6.heap.size ≤ k ∧ k < wx.heap.size ∧ But r w6.heap.size w6 wx ∧ flag r ((((((false || !mulK m.C x) || !addK (mulQ m.C x) m.D) || !mulK m.A x) || !addK (mulQ m.A x) m.B) || !divK (hV m x) (tV m x)) || !subK nil (divQ (hV m x) (tV m x))) wx ∧ wx.cell? ⟨k, 0, none⟩ = some (.int .i64 (subQ nil (divQ (hV m x) (tV m x))).n) ∧ wx.cell? ⟨k, 1, none⟩ = some (.int .i64 (subQ nil (divQ (hV m x) (tV m x))).d))
          case first =>
            go_region_held3 (fun W => But r w6.heap.size w6 W) ((repeat' (first | (with_reducible exact But.refl _ _ _) | (with_reducible assumption) | (with_reducible refine But.setFlag ?_ _) | (with_reducible refine But.alloc ?_ ?_ _) | (with_reducible refine But.drew ?_) | (with_reducible refine But.setCell ?_ ?_ _) | go_size))) (first | (go_at_call 26; refine Calls.mono (iint_nil _) ?_; rintro e wz ⟨rfl, hb2⟩; have F1 := flag.below (r := r) (by (repeat' (first | (with_reducible assumption) | (with_reducible apply flag.set) | (with_reducible apply flag.alloc) | (with_reducible apply flag.drew) | (with_reducible apply flag.setOther) | omega | (simp; omega) | (simp; done)))) hb2 (by first | omega | (simp; omega) | (simp; done)); have hb1 := But.of_below (r := r) hb2; clear hb2; have hs1 := hb1.size; (try simp at hs1); have hR1 : But r w6.heap.size w6 wz := (by refine But.call ?_ hb1 (by go_size); (repeat' (first | (with_reducible exact But.refl _ _ _) | (with_reducible assumption) | (with_reducible refine But.setFlag ?_ _) | (with_reducible refine But.alloc ?_ ?_ _) | (with_reducible refine But.drew ?_) | (with_reducible refine But.setCell ?_ ?_ _) | go_size))); have hn1 : wz.heap.size ≠ r := (by have := hR1.size; omega); (first | (have hZ := But.trans hZ (But.mono hb1 hZ.size)) | (have hZ := hb1)); obtain ⟨ho1, hf1, hz1⟩ := oldsB hZ) | (go_at_call 28; refine Calls.mono (rquot _ _ r _ _ (by (repeat' (first | (with_reducible assumption) | (with_reducible apply flag.set) | (with_reducible apply flag.alloc) | (with_reducible apply flag.drew) | (with_reducible apply flag.setOther) | omega | (simp; omega) | (simp; done))))) ?_; rintro e wz ⟨rfl, hb1, F1⟩; have hs1 := hb1.size; (try simp at hs1); have hR1 : But r w6.heap.size w6 wz := (by refine But.call ?_ hb1 (by go_size); (repeat' (first | (with_reducible exact But.refl _ _ _) | (with_reducible assumption) | (with_reducible refine But.setFlag ?_ _) | (with_reducible refine But.alloc ?_ ?_ _) | (with_reducible refine But.drew ?_) | (with_reducible refine But.setCell ?_ ?_ _) | go_size))); have hn1 : wz.heap.size ≠ r := (by have := hR1.size; omega); (first | (have hZ := But.trans hZ (But.mono hb1 hZ.size)) | (have hZ := hb1)); obtain ⟨ho1, hf1, hz1⟩ := oldsB hZ) | (go_at_call 27; refine Calls.mono (rdiff _ _ r _ _ (by (repeat' (first | (with_reducible assumption) | (with_reducible apply flag.set) | (with_reducible apply flag.alloc) | (with_reducible apply flag.drew) | (with_reducible apply flag.setOther) | omega | (simp; omega) | (simp; done))))) ?_; rintro e wz ⟨rfl, hb1, F1⟩; have hs1 := hb1.size; (try simp at hs1); have hR1 : But r w6.heap.size w6 wz := (by refine But.call ?_ hb1 (by go_size); (repeat' (first | (with_reducible exact But.refl _ _ _) | (with_reducible assumption) | (with_reducible refine But.setFlag ?_ _) | (with_reducible refine But.alloc ?_ ?_ _) | (with_reducible refine But.drew ?_) | (with_reducible refine But.setCell ?_ ?_ _) | go_size))); have hn1 : wz.heap.size ≠ r := (by have := hR1.size; omega); (first | (have hZ := But.trans hZ (But.mono hb1 hZ.size)) | (have hZ := hb1)); obtain ⟨ho1, hf1, hz1⟩ := oldsB hZ))
            all_goals
              go_wp2_with fail
              go_meet
              case rel =>
                refine ⟨_, rfl, ?_, ?_, ?_, ?_, ?_, ?_⟩
                · omega
                · simp [World.setCell] <;> omega
                · (repeat' (first | (with_reducible exact But.refl _ _ _) | (with_reducible assumption) | (with_reducible refine But.setFlag ?_ _) | (with_reducible refine But.alloc ?_ ?_ _) | (with_reducible refine But.drew ?_) | (with_reducible refine But.setCell ?_ ?_ _) | go_size))
                · (repeat' (first | (with_reducible assumption) | (with_reducible apply flag.set) | (with_reducible apply flag.alloc) | (with_reducible apply flag.drew) | (with_reducible apply flag.setOther) | omega | (simp; omega) | (simp; done)))
                · go_simp
                · go_simp
          case rest =>
            obtain ⟨b7, rfl, hk1, hk2, hB, hF, d0, d1⟩ := hcut
            clear k10 k11 k12 k13 hR0 F0 hn0
            obtain ⟨w7, hv⟩ : ∃ v, v = wc := ⟨_, rfl⟩
            subst hv
            have HO : Hid (Below w.heap.size w w7) := HO.out.trans ((hB.mono HO.out.size).below hrw)
            have RB : Hid (Blk w7 (w.heap.size + 1 + 1) #[.int .i64 0, .int .i64 0, .int .i64 0, .int .i64 0, .int .i64 0] 31) := Blk.but RB.out hB neR.out
            have FL : Hid (flag r ((((((false || !mulK m.C x) || !addK (mulQ m.C x) m.D) || !mulK m.A x) || !addK (mulQ m.A x) m.B) || !divK (hV m x) (tV m x)) || !subK nil (divQ (hV m x) (tV m x))) w7) := hF
            have nb7 : Hid (b7 ≠ r) := by show b7 ≠ r; omega
            have hrl : r < w7.heap.size := FL.out.lt
            have K68 : Hid (w7.cell? ⟨w.heap.size, 0, none⟩ = some (.int .i64 m.A.n)) := kbut hB K54.out ne0.out
            have K69 : Hid (w7.cell? ⟨w.heap.size, 1, none⟩ = some (.int .i64 m.A.d)) := kbut hB K55.out ne0.out
            have K70 : Hid (w7.cell? ⟨w.heap.size, 2, none⟩ = some (.int .i64 m.B.n)) := kbut hB K56.out ne0.out
            have K71 : Hid (w7.cell? ⟨w.heap.size, 3, none⟩ = some (.int .i64 m.B.d)) := kbut hB K57.out ne0.out
            have K72 : Hid (w7.cell? ⟨w.heap.size, 4, none⟩ = some (.int .i64 m.C.n)) := kbut hB K58.out ne0.out
            have K73 : Hid (w7.cell? ⟨w.heap.size, 5, none⟩ = some (.int .i64 m.C.d)) := kbut hB K59.out ne0.out
            have K74 : Hid (w7.cell? ⟨w.heap.size, 6, none⟩ = some (.int .i64 m.D.n)) := kbut hB K60.out ne0.out
            have K75 : Hid (w7.cell? ⟨w.heap.size, 7, none⟩ = some (.int .i64 m.D.d)) := kbut hB K61.out ne0.out
            have K76 : Hid (w7.cell? ⟨w.heap.size + 1, 0, none⟩ = some (.int .i64 x.n)) := kbut hB K62.out ne1.out
            have K77 : Hid (w7.cell? ⟨w.heap.size + 1, 1, none⟩ = some (.int .i64 x.d)) := kbut hB K63.out ne1.out
            have K78 : Hid (w7.cell? ⟨b4, 0, none⟩ = some (.int .i64 (tV m x).n)) := kbut hB K64.out nb4.out
            have K79 : Hid (w7.cell? ⟨b4, 1, none⟩ = some (.int .i64 (tV m x).d)) := kbut hB K65.out nb4.out
            have K80 : Hid (w7.cell? ⟨b6, 0, none⟩ = some (.int .i64 (hV m x).n)) := kbut hB K66.out nb6.out
            have K81 : Hid (w7.cell? ⟨b6, 1, none⟩ = some (.int .i64 (hV m x).d)) := kbut hB K67.out nb6.out
            clear K54 K55 K56 K57 K58 K59 K60 K61 K62 K63 K64 K65 K66 K67
            have K82 : Hid (w7.cell? ⟨b7, 0, none⟩ = some (.int .i64 (subQ nil (divQ (hV m x) (tV m x))).n)) := d0
            have K83 : Hid (w7.cell? ⟨b7, 1, none⟩ = some (.int .i64 (subQ nil (divQ (hV m x) (tV m x))).d)) := d1
            clear hB hF hk1 hk2 d0 d1
            have k0 : ∀ W, But r w7.heap.size w7 W → W.cell? ⟨w.heap.size, 0, none⟩ = some (.int .i64 m.A.n) := fun _ h => kbut h K68.out ne0.out
            have k1 : ∀ W, But r w7.heap.size w7 W → W.cell? ⟨w.heap.size, 1, none⟩ = some (.int .i64 m.A.d) := fun _ h => kbut h K69.out ne0.out
            have k2 : ∀ W, But r w7.heap.size w7 W → W.cell? ⟨w.heap.size, 2, none⟩ = some (.int .i64 m.B.n) := fun _ h => kbut h K70.out ne0.out
            have k3 : ∀ W, But r w7.heap.size w7 W → W.cell? ⟨w.heap.size, 3, none⟩ = some (.int .i64 m.B.d) := fun _ h => kbut h K71.out ne0.out
            have k4 : ∀ W, But r w7.heap.size w7 W → W.cell? ⟨w.heap.size, 4, none⟩ = some (.int .i64 m.C.n) := fun _ h => kbut h K72.out ne0.out
            have k5 : ∀ W, But r w7.heap.size w7 W → W.cell? ⟨w.heap.size, 5, none⟩ = some (.int .i64 m.C.d) := fun _ h => kbut h K73.out ne0.out
            have k6 : ∀ W, But r w7.heap.size w7 W → W.cell? ⟨w.heap.size, 6, none⟩ = some (.int .i64 m.D.n) := fun _ h => kbut h K74.out ne0.out
            have k7 : ∀ W, But r w7.heap.size w7 W → W.cell? ⟨w.heap.size, 7, none⟩ = some (.int .i64 m.D.d) := fun _ h => kbut h K75.out ne0.out
            have k14 : ∀ W, But r w7.heap.size w7 W → W.cell? ⟨b7, 0, none⟩ = some (.int .i64 (subQ nil (divQ (hV m x) (tV m x))).n) := fun _ h => kbut h K82.out nb7.out
            have k15 : ∀ W, But r w7.heap.size w7 W → W.cell? ⟨b7, 1, none⟩ = some (.int .i64 (subQ nil (divQ (hV m x) (tV m x))).d) := fun _ h => kbut h K83.out nb7.out
            have hR0 : But r w7.heap.size w7 w7 := But.refl _ _ _
            have F0 : flag r ((((((false || !mulK m.C x) || !addK (mulQ m.C x) m.D) || !mulK m.A x) || !addK (mulQ m.A x) m.B) || !divK (hV m x) (tV m x)) || !subK nil (divQ (hV m x) (tV m x))) w7 := FL.out
            have hn0 : w7.heap.size ≠ r := by omega
            go_wp2_with fail
            go_cut [9] (fun p wx => ∃ k : Nat, p = .pointer (some ⟨k, 0, none⟩) ∧ w7.heap.size ≤ k ∧ k < wx.heap.size ∧ But r w7.heap.size w7 wx ∧ flag r ((((((((false || !mulK m.C x) || !addK (mulQ m.C x) m.D) || !mulK m.A x) || !addK (mulQ m.A x) m.B) || !divK (hV m x) (tV m x)) || !subK nil (divQ (hV m x) (tV m x))) || !mulK m.C (subQ nil (divQ (hV m x) (tV m x)))) || !addK m.A (mulQ m.C (subQ nil (divQ (hV m x) (tV m x))))) wx ∧ wx.cell? ⟨k, 0, none⟩ = some (.int .i64 (addQ m.A (mulQ m.C (subQ nil (divQ (hV m x) (tV m x))))).n) ∧ wx.cell? ⟨k, 1, none⟩ = some (.int .i64 (addQ m.A (mulQ m.C (subQ nil (divQ (hV m x) (tV m x))))).d))
            case first =>
              go_region_held3 (fun W => But r w7.heap.size w7 W) ((repeat' (first | (with_reducible exact But.refl _ _ _) | (with_reducible assumption) | (with_reducible refine But.setFlag ?_ _) | (with_reducible refine But.alloc ?_ ?_ _) | (with_reducible refine But.drew ?_) | (with_reducible refine But.setCell ?_ ?_ _) | go_size))) (first | (go_at_call 25; refine Calls.mono (rprod _ _ r _ _ (by (repeat' (first | (with_reducible assumption) | (with_reducible apply flag.set) | (with_reducible apply flag.alloc) | (with_reducible apply flag.drew) | (with_reducible apply flag.setOther) | omega | (simp; omega) | (simp; done))))) ?_; rintro e wz ⟨rfl, hb1, F1⟩; have hs1 := hb1.size; (try simp at hs1); have hR1 : But r w7.heap.size w7 wz := (by refine But.call ?_ hb1 (by go_size); (repeat' (first | (with_reducible exact But.refl _ _ _) | (with_reducible assumption) | (with_reducible refine But.setFlag ?_ _) | (with_reducible refine But.alloc ?_ ?_ _) | (with_reducible refine But.drew ?_) | (with_reducible refine But.setCell ?_ ?_ _) | go_size))); have hn1 : wz.heap.size ≠ r := (by have := hR1.size; omega); (first | (have hZ := But.trans hZ (But.mono hb1 hZ.size)) | (have hZ := hb1)); obtain ⟨ho1, hf1, hz1⟩ := oldsB hZ) | (go_at_call 24; refine Calls.mono (rsum _ _ r _ _ (by (repeat' (first | (with_reducible assumption) | (with_reducible apply flag.set) | (with_reducible apply flag.alloc) | (with_reducible apply flag.drew) | (with_reducible apply flag.setOther) | omega | (simp; omega) | (simp; done))))) ?_; rintro e wz ⟨rfl, hb1, F1⟩; have hs1 := hb1.size; (try simp at hs1); have hR1 : But r w7.heap.size w7 wz := (by refine But.call ?_ hb1 (by go_size); (repeat' (first | (with_reducible exact But.refl _ _ _) | (with_reducible assumption) | (with_reducible refine But.setFlag ?_ _) | (with_reducible refine But.alloc ?_ ?_ _) | (with_reducible refine But.drew ?_) | (with_reducible refine But.setCell ?_ ?_ _) | go_size))); have hn1 : wz.heap.size ≠ r := (by have := hR1.size; omega); (first | (have hZ := But.trans hZ (But.mono hb1 hZ.size)) | (have hZ := hb1)); obtain ⟨ho1, hf1, hz1⟩ := oldsB hZ))
              all_goals
                go_wp2_with fail
                go_meet
                case rel =>
                  refine ⟨_, rfl, ?_, ?_, ?_, ?_, ?_, ?_⟩
                  · omega
                  · simp [World.setCell] <;> omega
                  · (repeat' (first | (with_reducible exact But.refl _ _ _) | (with_reducible assumption) | (with_reducible refine But.setFlag ?_ _) | (with_reducible refine But.alloc ?_ ?_ _) | (with_reducible refine But.drew ?_) | (with_reducible refine But.setCell ?_ ?_ _) | go_size))
                  · (repeat' (first | (with_reducible assumption) | (with_reducible apply flag.set) | (with_reducible apply flag.alloc) | (with_reducible apply flag.drew) | (with_reducible apply flag.setOther) | omega | (simp; omega) | (simp; done)))
                  · go_simp
                  · go_simp
            case rest =>
              obtain ⟨b8, rfl, hk1, hk2, hB, hF, d0, d1⟩ := hcut
              clear k0 k1 k2 k3 k4 k5 k6 k7 k14 k15 hR0 F0 hn0
              obtain ⟨w8, hv⟩ : ∃ v, v = wc := ⟨_, rfl⟩
              subst hv
              have HO : Hid (Below w.heap.size w w8) := HO.out.trans ((hB.mono HO.out.size).below hrw)
              have RB : Hid (Blk w8 (w.heap.size + 1 + 1) #[.int .i64 0, .int .i64 0, .int .i64 0, .int .i64 0, .int .i64 0] 31) := Blk.but RB.out hB neR.out
              have FL : Hid (flag r ((((((((false || !mulK m.C x) || !addK (mulQ m.C x) m.D) || !mulK m.A x) || !addK (mulQ m.A x) m.B) || !divK (hV m x) (tV m x)) || !subK nil (divQ (hV m x) (tV m x))) || !mulK m.C (subQ nil (divQ (hV m x) (tV m x)))) || !addK m.A (mulQ m.C (subQ nil (divQ (hV m x) (tV m x))))) w8) := hF
              have nb8 : Hid (b8 ≠ r) := by show b8 ≠ r; omega
              have hrl : r < w8.heap.size := FL.out.lt
              have K84 : Hid (w8.cell? ⟨w.heap.size, 0, none⟩ = some (.int .i64 m.A.n)) := kbut hB K68.out ne0.out
              have K85 : Hid (w8.cell? ⟨w.heap.size, 1, none⟩ = some (.int .i64 m.A.d)) := kbut hB K69.out ne0.out
              have K86 : Hid (w8.cell? ⟨w.heap.size, 2, none⟩ = some (.int .i64 m.B.n)) := kbut hB K70.out ne0.out
              have K87 : Hid (w8.cell? ⟨w.heap.size, 3, none⟩ = some (.int .i64 m.B.d)) := kbut hB K71.out ne0.out
              have K88 : Hid (w8.cell? ⟨w.heap.size, 4, none⟩ = some (.int .i64 m.C.n)) := kbut hB K72.out ne0.out
              have K89 : Hid (w8.cell? ⟨w.heap.size, 5, none⟩ = some (.int .i64 m.C.d)) := kbut hB K73.out ne0.out
              have K90 : Hid (w8.cell? ⟨w.heap.size, 6, none⟩ = some (.int .i64 m.D.n)) := kbut hB K74.out ne0.out
              have K91 : Hid (w8.cell? ⟨w.heap.size, 7, none⟩ = some (.int .i64 m.D.d)) := kbut hB K75.out ne0.out
              have K92 : Hid (w8.cell? ⟨w.heap.size + 1, 0, none⟩ = some (.int .i64 x.n)) := kbut hB K76.out ne1.out
              have K93 : Hid (w8.cell? ⟨w.heap.size + 1, 1, none⟩ = some (.int .i64 x.d)) := kbut hB K77.out ne1.out
              have K94 : Hid (w8.cell? ⟨b4, 0, none⟩ = some (.int .i64 (tV m x).n)) := kbut hB K78.out nb4.out
              have K95 : Hid (w8.cell? ⟨b4, 1, none⟩ = some (.int .i64 (tV m x).d)) := kbut hB K79.out nb4.out
              have K96 : Hid (w8.cell? ⟨b6, 0, none⟩ = some (.int .i64 (hV m x).n)) := kbut hB K80.out nb6.out
              have K97 : Hid (w8.cell? ⟨b6, 1, none⟩ = some (.int .i64 (hV m x).d)) := kbut hB K81.out nb6.out
              have K98 : Hid (w8.cell? ⟨b7, 0, none⟩ = some (.int .i64 (subQ nil (divQ (hV m x) (tV m x))).n)) := kbut hB K82.out nb7.out
              have K99 : Hid (w8.cell? ⟨b7, 1, none⟩ = some (.int .i64 (subQ nil (divQ (hV m x) (tV m x))).d)) := kbut hB K83.out nb7.out
              clear K68 K69 K70 K71 K72 K73 K74 K75 K76 K77 K78 K79 K80 K81 K82 K83
              have K100 : Hid (w8.cell? ⟨b8, 0, none⟩ = some (.int .i64 (addQ m.A (mulQ m.C (subQ nil (divQ (hV m x) (tV m x))))).n)) := d0
              have K101 : Hid (w8.cell? ⟨b8, 1, none⟩ = some (.int .i64 (addQ m.A (mulQ m.C (subQ nil (divQ (hV m x) (tV m x))))).d)) := d1
              clear hB hF hk1 hk2 d0 d1
              have hF := FL.out.cell
              obtain ⟨j1, j2⟩ := im_flag h0 h1 hz
              clear okA okB okC okD st
              cases hk : ((((((((false || !mulK m.C x) || !addK (mulQ m.C x) m.D) || !mulK m.A x) || !addK (mulQ m.A x) m.B) || !divK (hV m x) (tV m x)) || !subK nil (divQ (hV m x) (tV m x))) || !mulK m.C (subQ nil (divQ (hV m x) (tV m x)))) || !addK m.A (mulQ m.C (subQ nil (divQ (hV m x) (tV m x)))))
              case true =>
                have hc := j1 hk
                rw [hk] at hF
                clear j1 j2 hk
                have r0 := RB.out.cell (j := 0) rfl
                have r1 := RB.out.cell (j := 1) rfl
                have r2 := RB.out.cell (j := 2) rfl
                have r3 := RB.out.cell (j := 3) rfl
                have r4 := RB.out.cell (j := 4) rfl
                have rf := RB.out.frozen
                repeat go_step
                refine bodyPost_ret (v := .agg #[.int .i64 3, .int .i64 0, .int .i64 0, .int .i64 0, .int .i64 0]) (by simp [results, Try.results7, go_sem, r0, r1, r2, r3, r4, World.cell?_alloc_lt, RB.out.lt] <;> (repeat' (first | rfl | apply And.intro))) rfl ⟨by rw [hc]; rfl, ?_⟩
                have h := HO.out
                have hlt := RB.out.lt
                have hsz := h.size
                go_grown
              case false =>
                obtain ⟨hc, v1, v2⟩ := j2 hk
                rw [hk] at hF
                clear j1 j2 hk
                have V1 : Hid _ := v1
                have V2 : Hid _ := v2
                clear v1 v2
                have c14 := K98.out
                have c15 := K99.out
                have c16 := K100.out
                have c17 := K101.out
                have r0 := RB.out.cell (j := 0) rfl
                have r1 := RB.out.cell (j := 1) rfl
                have r2 := RB.out.cell (j := 2) rfl
                have r3 := RB.out.cell (j := 3) rfl
                have r4 := RB.out.cell (j := 4) rfl
                have rf := RB.out.frozen
                repeat go_step
                refine bodyPost_ret (v := .agg #[.int .i64 0, .int .i64 (subQ nil (divQ (hV m x) (tV m x))).n, .int .i64 (subQ nil (divQ (hV m x) (tV m x))).d, .int .i64 (addQ m.A (mulQ m.C (subQ nil (divQ (hV m x) (tV m x))))).n, .int .i64 (addQ m.A (mulQ m.C (subQ nil (divQ (hV m x) (tV m x))))).d]) (by simp [results, Try.results7, go_sem, r0, r1, r2, r3, r4, World.cell?_alloc_lt, RB.out.lt] <;> (repeat' (first | rfl | apply And.intro))) rfl ⟨by have v1 := V1.out; have v2 := V2.out; rw [hc, v2, v1]; rfl, ?_⟩
                have h := HO.out
                have hlt := RB.out.lt
                have hsz := h.size
                go_grown
theorem iimg (m : Mx) (x : Q) (w : World) : Calls Try.prog 7 #[.agg #[.int .i64 m.A.n, .int .i64 m.A.d, .int .i64 m.B.n, .int .i64 m.B.d, .int .i64 m.C.n, .int .i64 m.C.d, .int .i64 m.D.n, .int .i64 m.D.d], .agg #[.int .i64 x.n, .int .i64 x.d]] w fun e w' => e = .returned (.agg #[.int .i64 (imC m x), .int .i64 (sel (imC m x) (nQ (bV m x))).n, .int .i64 (sel (imC m x) (nQ (bV m x))).d, .int .i64 (sel (imC m x) (cV m x)).n, .int .i64 (sel (imC m x) (cV m x)).d]) ∧ Below w.heap.size w w' := by
  cases h : m.ok
  · rw [show imC m x = 1 from by unfold imC; rw [h]; rfl]
    exact iimg_0 m x w h
  cases h1 : x.ok
  · rw [show imC m x = 1 from by unfold imC; rw [h, h1]; rfl]
    exact iimg_1 m x w h h1
  · exact iimg_2 m x w h h1
end Go.Proofs.Ytdmjfphmgpkfcaa
