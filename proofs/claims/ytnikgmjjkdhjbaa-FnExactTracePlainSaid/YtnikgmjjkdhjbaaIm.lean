/- Two systems joined: the program's way. -/
import Derived.Test.YtnikgmjjkdhjbaaIp
namespace Go.Proofs.Ytnikgmjjkdhjbaa
open Go.RowKit
set_option linter.unusedVariables false
set_option linter.unusedSimpArgs false
/-- The system of no part. -/
def isU (m : Mx) : Bool := decide (m.A.n = 1 ∧ m.A.d = 1 ∧ m.B.n = 0 ∧ m.B.d = 1 ∧ m.C.n = 0 ∧ m.C.d = 1 ∧ m.D.n = 1 ∧ m.D.d = 1)
theorem isU_t {m : Mx} (h : isU m = true) : m.A = one ∧ m.B = nil ∧ m.C = nil ∧ m.D = one := by
  have := of_decide_eq_true h
  obtain ⟨⟨a, b⟩, ⟨c, d⟩, ⟨e, f⟩, ⟨g, k⟩⟩ := m
  simp only at this
  obtain ⟨rfl, rfl, rfl, rfl, rfl, rfl, rfl, rfl⟩ := this
  exact ⟨rfl, rfl, rfl, rfl⟩
theorem mx_ok {m : Mx} (h : m.ok = true) : m.A.ok = true ∧ m.B.ok = true ∧ m.C.ok = true ∧ m.D.ok = true := by
  simpa [Mx.ok, and_assoc] using h
theorem join_l {a b : Mx} (ha : a.ok = true) (hb : b.ok = true) (h : isU a = true) : jC a b = 0 ∧ jQA a b = b.A ∧ jQB a b = b.B ∧ jQC a b = b.C ∧ jQD a b = b.D := by
  obtain ⟨h1, h2, h3, h4⟩ := isU_t h
  obtain ⟨k1, k2, k3, k4⟩ := mx_ok hb
  have A : jKA a b = true ∧ jQA a b = b.A := by unfold jKA jQA; rw [h1, h3]; exact two_at (mul_one k1) (mul_nil k2) k1
  have B : jKB a b = true ∧ jQB a b = b.B := by unfold jKB jQB; rw [h2, h4]; exact two_at' (mul_nil k1) (mul_one k2) k2
  have C : jKC a b = true ∧ jQC a b = b.C := by unfold jKC jQC; rw [h1, h3]; exact two_at (mul_one k3) (mul_nil k4) k3
  have D : jKD a b = true ∧ jQD a b = b.D := by unfold jKD jQD; rw [h2, h4]; exact two_at' (mul_nil k3) (mul_one k4) k4
  refine ⟨?_, A.2, B.2, C.2, D.2⟩
  simp [jC, ha, hb, A.1, B.1, C.1, D.1]
theorem join_r {a b : Mx} (ha : a.ok = true) (hb : b.ok = true) (h : isU b = true) : jC a b = 0 ∧ jQA a b = a.A ∧ jQB a b = a.B ∧ jQC a b = a.C ∧ jQD a b = a.D := by
  obtain ⟨h1, h2, h3, h4⟩ := isU_t h
  obtain ⟨k1, k2, k3, k4⟩ := mx_ok ha
  have A : jKA a b = true ∧ jQA a b = a.A := by unfold jKA jQA; rw [h1, h2]; exact two_at (one_mul k1) (nil_mul k3) k1
  have B : jKB a b = true ∧ jQB a b = a.B := by unfold jKB jQB; rw [h1, h2]; exact two_at (one_mul k2) (nil_mul k4) k2
  have C : jKC a b = true ∧ jQC a b = a.C := by unfold jKC jQC; rw [h3, h4]; exact two_at' (nil_mul k1) (one_mul k3) k3
  have D : jKD a b = true ∧ jQD a b = a.D := by unfold jKD jQD; rw [h3, h4]; exact two_at' (nil_mul k2) (one_mul k4) k4
  refine ⟨?_, A.2, B.2, C.2, D.2⟩
  simp [jC, ha, hb, A.1, B.1, C.1, D.1]
theorem join_flag {a b : Mx} (ha : a.ok = true) (hb : b.ok = true) : jC a b = if ((((false || !jKA a b) || !jKB a b) || !jKC a b) || !jKD a b) = true then 3 else 0 := by
  unfold jC; rw [ha, hb]
  cases jKA a b <;> cases jKB a b <;> cases jKC a b <;> cases jKD a b <;> rfl
set_option maxRecDepth 20000 in
set_option maxHeartbeats 1600000 in
theorem ijoin_0 (a b : Mx) (w : World) (ha : a.ok = false) : Calls Try.prog 28 #[.agg #[.int .i64 a.A.n, .int .i64 a.A.d, .int .i64 a.B.n, .int .i64 a.B.d, .int .i64 a.C.n, .int .i64 a.C.d, .int .i64 a.D.n, .int .i64 a.D.d], .agg #[.int .i64 b.A.n, .int .i64 b.A.d, .int .i64 b.B.n, .int .i64 b.B.d, .int .i64 b.C.n, .int .i64 b.C.d, .int .i64 b.D.n, .int .i64 b.D.d]] w fun e w' => e = .returned (.agg #[.int .i64 1, .int .i64 0, .int .i64 0, .int .i64 0, .int .i64 0, .int .i64 0, .int .i64 0, .int .i64 0, .int .i64 0]) ∧ Below w.heap.size w w' := by
  have qa := mfault_ne a
  have qb := mfault_ne b
  rw [ha] at qa
  go_enter Try.func28, Try.ntmps28
  go_wp2_with fail
  refine (imfault a _).mono ?_
  rintro e w1 ⟨rfl, hb⟩
  have HO : Hid (Below w.heap.size w w1) := by refine box_step ?_ hb (by simp <;> omega); go_grown
  have X0 : Blk w1 (w.heap.size) #[.int .i64 a.A.n, .int .i64 a.A.d, .int .i64 a.B.n, .int .i64 a.B.d, .int .i64 a.C.n, .int .i64 a.C.d, .int .i64 a.D.n, .int .i64 a.D.d] 27 := Blk.old ((Blk.alloc (Blk.alloc (Blk.new (by simp)) _) _)) hb
  have K0 : Hid (w1.cell? ⟨w.heap.size, 0, none⟩ = some (.int .i64 a.A.n)) := X0.cell rfl
  have K1 : Hid (w1.cell? ⟨w.heap.size, 1, none⟩ = some (.int .i64 a.A.d)) := X0.cell rfl
  have K2 : Hid (w1.cell? ⟨w.heap.size, 2, none⟩ = some (.int .i64 a.B.n)) := X0.cell rfl
  have K3 : Hid (w1.cell? ⟨w.heap.size, 3, none⟩ = some (.int .i64 a.B.d)) := X0.cell rfl
  have K4 : Hid (w1.cell? ⟨w.heap.size, 4, none⟩ = some (.int .i64 a.C.n)) := X0.cell rfl
  have K5 : Hid (w1.cell? ⟨w.heap.size, 5, none⟩ = some (.int .i64 a.C.d)) := X0.cell rfl
  have K6 : Hid (w1.cell? ⟨w.heap.size, 6, none⟩ = some (.int .i64 a.D.n)) := X0.cell rfl
  have K7 : Hid (w1.cell? ⟨w.heap.size, 7, none⟩ = some (.int .i64 a.D.d)) := X0.cell rfl
  clear X0
  have X1 : Blk w1 (w.heap.size + 1) #[.int .i64 b.A.n, .int .i64 b.A.d, .int .i64 b.B.n, .int .i64 b.B.d, .int .i64 b.C.n, .int .i64 b.C.d, .int .i64 b.D.n, .int .i64 b.D.d] 27 := Blk.old ((Blk.alloc (Blk.new (by simp)) _)) hb
  have K8 : Hid (w1.cell? ⟨w.heap.size + 1, 0, none⟩ = some (.int .i64 b.A.n)) := X1.cell rfl
  have K9 : Hid (w1.cell? ⟨w.heap.size + 1, 1, none⟩ = some (.int .i64 b.A.d)) := X1.cell rfl
  have K10 : Hid (w1.cell? ⟨w.heap.size + 1, 2, none⟩ = some (.int .i64 b.B.n)) := X1.cell rfl
  have K11 : Hid (w1.cell? ⟨w.heap.size + 1, 3, none⟩ = some (.int .i64 b.B.d)) := X1.cell rfl
  have K12 : Hid (w1.cell? ⟨w.heap.size + 1, 4, none⟩ = some (.int .i64 b.C.n)) := X1.cell rfl
  have K13 : Hid (w1.cell? ⟨w.heap.size + 1, 5, none⟩ = some (.int .i64 b.C.d)) := X1.cell rfl
  have K14 : Hid (w1.cell? ⟨w.heap.size + 1, 6, none⟩ = some (.int .i64 b.D.n)) := X1.cell rfl
  have K15 : Hid (w1.cell? ⟨w.heap.size + 1, 7, none⟩ = some (.int .i64 b.D.d)) := X1.cell rfl
  clear X1
  have RB : Hid (Blk w1 (w.heap.size + 1 + 1) #[.int .i64 0, .int .i64 0, .int .i64 0, .int .i64 0, .int .i64 0, .int .i64 0, .int .i64 0, .int .i64 0, .int .i64 0] 37) := Blk.old (Blk.new (by simp)) hb
  clear hb
  have r0 := RB.out.cell (j := 0) rfl
  have r1 := RB.out.cell (j := 1) rfl
  have r2 := RB.out.cell (j := 2) rfl
  have r3 := RB.out.cell (j := 3) rfl
  have r4 := RB.out.cell (j := 4) rfl
  have r5 := RB.out.cell (j := 5) rfl
  have r6 := RB.out.cell (j := 6) rfl
  have r7 := RB.out.cell (j := 7) rfl
  have r8 := RB.out.cell (j := 8) rfl
  have rf := RB.out.frozen
  go_wp2
  refine bodyPost_ret (v := .agg #[.int .i64 1, .int .i64 0, .int .i64 0, .int .i64 0, .int .i64 0, .int .i64 0, .int .i64 0, .int .i64 0, .int .i64 0]) (by simp [results, Try.results28, go_sem, r0, r1, r2, r3, r4, r5, r6, r7, r8, World.cell?_alloc_lt, RB.out.lt] <;> (repeat' (first | rfl | apply And.intro))) rfl ⟨rfl, ?_⟩
  have h := HO.out
  have hlt := RB.out.lt
  have hsz := h.size
  go_grown
set_option maxRecDepth 20000 in
set_option maxHeartbeats 1600000 in
theorem ijoin_1 (a b : Mx) (w : World) (ha : a.ok = true) (hb0 : b.ok = false) : Calls Try.prog 28 #[.agg #[.int .i64 a.A.n, .int .i64 a.A.d, .int .i64 a.B.n, .int .i64 a.B.d, .int .i64 a.C.n, .int .i64 a.C.d, .int .i64 a.D.n, .int .i64 a.D.d], .agg #[.int .i64 b.A.n, .int .i64 b.A.d, .int .i64 b.B.n, .int .i64 b.B.d, .int .i64 b.C.n, .int .i64 b.C.d, .int .i64 b.D.n, .int .i64 b.D.d]] w fun e w' => e = .returned (.agg #[.int .i64 1, .int .i64 0, .int .i64 0, .int .i64 0, .int .i64 0, .int .i64 0, .int .i64 0, .int .i64 0, .int .i64 0]) ∧ Below w.heap.size w w' := by
  have qa := mfault_ne a
  have qb := mfault_ne b
  rw [ha] at qa
  rw [hb0] at qb
  go_enter Try.func28, Try.ntmps28
  go_wp2_with fail
  refine (imfault a _).mono ?_
  rintro e w1 ⟨rfl, hb⟩
  have HO : Hid (Below w.heap.size w w1) := by refine box_step ?_ hb (by simp <;> omega); go_grown
  have X0 : Blk w1 (w.heap.size) #[.int .i64 a.A.n, .int .i64 a.A.d, .int .i64 a.B.n, .int .i64 a.B.d, .int .i64 a.C.n, .int .i64 a.C.d, .int .i64 a.D.n, .int .i64 a.D.d] 27 := Blk.old ((Blk.alloc (Blk.alloc (Blk.new (by simp)) _) _)) hb
  have K0 : Hid (w1.cell? ⟨w.heap.size, 0, none⟩ = some (.int .i64 a.A.n)) := X0.cell rfl
  have K1 : Hid (w1.cell? ⟨w.heap.size, 1, none⟩ = some (.int .i64 a.A.d)) := X0.cell rfl
  have K2 : Hid (w1.cell? ⟨w.heap.size, 2, none⟩ = some (.int .i64 a.B.n)) := X0.cell rfl
  have K3 : Hid (w1.cell? ⟨w.heap.size, 3, none⟩ = some (.int .i64 a.B.d)) := X0.cell rfl
  have K4 : Hid (w1.cell? ⟨w.heap.size, 4, none⟩ = some (.int .i64 a.C.n)) := X0.cell rfl
  have K5 : Hid (w1.cell? ⟨w.heap.size, 5, none⟩ = some (.int .i64 a.C.d)) := X0.cell rfl
  have K6 : Hid (w1.cell? ⟨w.heap.size, 6, none⟩ = some (.int .i64 a.D.n)) := X0.cell rfl
  have K7 : Hid (w1.cell? ⟨w.heap.size, 7, none⟩ = some (.int .i64 a.D.d)) := X0.cell rfl
  clear X0
  have X1 : Blk w1 (w.heap.size + 1) #[.int .i64 b.A.n, .int .i64 b.A.d, .int .i64 b.B.n, .int .i64 b.B.d, .int .i64 b.C.n, .int .i64 b.C.d, .int .i64 b.D.n, .int .i64 b.D.d] 27 := Blk.old ((Blk.alloc (Blk.new (by simp)) _)) hb
  have K8 : Hid (w1.cell? ⟨w.heap.size + 1, 0, none⟩ = some (.int .i64 b.A.n)) := X1.cell rfl
  have K9 : Hid (w1.cell? ⟨w.heap.size + 1, 1, none⟩ = some (.int .i64 b.A.d)) := X1.cell rfl
  have K10 : Hid (w1.cell? ⟨w.heap.size + 1, 2, none⟩ = some (.int .i64 b.B.n)) := X1.cell rfl
  have K11 : Hid (w1.cell? ⟨w.heap.size + 1, 3, none⟩ = some (.int .i64 b.B.d)) := X1.cell rfl
  have K12 : Hid (w1.cell? ⟨w.heap.size + 1, 4, none⟩ = some (.int .i64 b.C.n)) := X1.cell rfl
  have K13 : Hid (w1.cell? ⟨w.heap.size + 1, 5, none⟩ = some (.int .i64 b.C.d)) := X1.cell rfl
  have K14 : Hid (w1.cell? ⟨w.heap.size + 1, 6, none⟩ = some (.int .i64 b.D.n)) := X1.cell rfl
  have K15 : Hid (w1.cell? ⟨w.heap.size + 1, 7, none⟩ = some (.int .i64 b.D.d)) := X1.cell rfl
  clear X1
  have RB : Hid (Blk w1 (w.heap.size + 1 + 1) #[.int .i64 0, .int .i64 0, .int .i64 0, .int .i64 0, .int .i64 0, .int .i64 0, .int .i64 0, .int .i64 0, .int .i64 0] 37) := Blk.old (Blk.new (by simp)) hb
  clear hb
  have c8 := K8.out
  have c9 := K9.out
  have c10 := K10.out
  have c11 := K11.out
  have c12 := K12.out
  have c13 := K13.out
  have c14 := K14.out
  have c15 := K15.out
  have r0 := RB.out.cell (j := 0) rfl
  have r1 := RB.out.cell (j := 1) rfl
  have r2 := RB.out.cell (j := 2) rfl
  have r3 := RB.out.cell (j := 3) rfl
  have r4 := RB.out.cell (j := 4) rfl
  have r5 := RB.out.cell (j := 5) rfl
  have r6 := RB.out.cell (j := 6) rfl
  have r7 := RB.out.cell (j := 7) rfl
  have r8 := RB.out.cell (j := 8) rfl
  have rf := RB.out.frozen
  go_wp2_with fail
  refine (imfault b _).mono ?_
  rintro e w2 ⟨rfl, hb⟩
  clear c8 c9 c10 c11 c12 c13 c14 c15 r0 r1 r2 r3 r4 r5 r6 r7 r8 rf
  have HO : Hid (Below w.heap.size w w2) := by have h := HO.out; have hs := h.size; refine box_step ?_ hb (by first | exact hs | (simp <;> omega)); go_grown
  have RB : Hid (Blk w2 (w.heap.size + 1 + 1) #[.int .i64 0, .int .i64 0, .int .i64 0, .int .i64 0, .int .i64 0, .int .i64 0, .int .i64 0, .int .i64 0, .int .i64 0] 37) := Blk.old (RB.out) hb
  have K16 : Hid (w2.cell? ⟨w.heap.size, 0, none⟩ = some (.int .i64 a.A.n)) := kold hb (K0.out)
  have K17 : Hid (w2.cell? ⟨w.heap.size, 1, none⟩ = some (.int .i64 a.A.d)) := kold hb (K1.out)
  have K18 : Hid (w2.cell? ⟨w.heap.size, 2, none⟩ = some (.int .i64 a.B.n)) := kold hb (K2.out)
  have K19 : Hid (w2.cell? ⟨w.heap.size, 3, none⟩ = some (.int .i64 a.B.d)) := kold hb (K3.out)
  have K20 : Hid (w2.cell? ⟨w.heap.size, 4, none⟩ = some (.int .i64 a.C.n)) := kold hb (K4.out)
  have K21 : Hid (w2.cell? ⟨w.heap.size, 5, none⟩ = some (.int .i64 a.C.d)) := kold hb (K5.out)
  have K22 : Hid (w2.cell? ⟨w.heap.size, 6, none⟩ = some (.int .i64 a.D.n)) := kold hb (K6.out)
  have K23 : Hid (w2.cell? ⟨w.heap.size, 7, none⟩ = some (.int .i64 a.D.d)) := kold hb (K7.out)
  have K24 : Hid (w2.cell? ⟨w.heap.size + 1, 0, none⟩ = some (.int .i64 b.A.n)) := kold hb (K8.out)
  have K25 : Hid (w2.cell? ⟨w.heap.size + 1, 1, none⟩ = some (.int .i64 b.A.d)) := kold hb (K9.out)
  have K26 : Hid (w2.cell? ⟨w.heap.size + 1, 2, none⟩ = some (.int .i64 b.B.n)) := kold hb (K10.out)
  have K27 : Hid (w2.cell? ⟨w.heap.size + 1, 3, none⟩ = some (.int .i64 b.B.d)) := kold hb (K11.out)
  have K28 : Hid (w2.cell? ⟨w.heap.size + 1, 4, none⟩ = some (.int .i64 b.C.n)) := kold hb (K12.out)
  have K29 : Hid (w2.cell? ⟨w.heap.size + 1, 5, none⟩ = some (.int .i64 b.C.d)) := kold hb (K13.out)
  have K30 : Hid (w2.cell? ⟨w.heap.size + 1, 6, none⟩ = some (.int .i64 b.D.n)) := kold hb (K14.out)
  have K31 : Hid (w2.cell? ⟨w.heap.size + 1, 7, none⟩ = some (.int .i64 b.D.d)) := kold hb (K15.out)
  clear K0 K1 K2 K3 K4 K5 K6 K7 K8 K9 K10 K11 K12 K13 K14 K15
  clear hb
  have r0 := RB.out.cell (j := 0) rfl
  have r1 := RB.out.cell (j := 1) rfl
  have r2 := RB.out.cell (j := 2) rfl
  have r3 := RB.out.cell (j := 3) rfl
  have r4 := RB.out.cell (j := 4) rfl
  have r5 := RB.out.cell (j := 5) rfl
  have r6 := RB.out.cell (j := 6) rfl
  have r7 := RB.out.cell (j := 7) rfl
  have r8 := RB.out.cell (j := 8) rfl
  have rf := RB.out.frozen
  go_wp2
  refine bodyPost_ret (v := .agg #[.int .i64 1, .int .i64 0, .int .i64 0, .int .i64 0, .int .i64 0, .int .i64 0, .int .i64 0, .int .i64 0, .int .i64 0]) (by simp [results, Try.results28, go_sem, r0, r1, r2, r3, r4, r5, r6, r7, r8, World.cell?_alloc_lt, RB.out.lt] <;> (repeat' (first | rfl | apply And.intro))) rfl ⟨rfl, ?_⟩
  have h := HO.out
  have hlt := RB.out.lt
  have hsz := h.size
  go_grown
set_option maxRecDepth 20000 in
set_option maxHeartbeats 3200000 in
theorem ijoin_2 (a b : Mx) (w : World) (ha : a.ok = true) (hb0 : b.ok = true) : Calls Try.prog 28 #[.agg #[.int .i64 a.A.n, .int .i64 a.A.d, .int .i64 a.B.n, .int .i64 a.B.d, .int .i64 a.C.n, .int .i64 a.C.d, .int .i64 a.D.n, .int .i64 a.D.d], .agg #[.int .i64 b.A.n, .int .i64 b.A.d, .int .i64 b.B.n, .int .i64 b.B.d, .int .i64 b.C.n, .int .i64 b.C.d, .int .i64 b.D.n, .int .i64 b.D.d]] w fun e w' => e = .returned (.agg #[.int .i64 (jC a b), .int .i64 (sel (jC a b) (jQA a b)).n, .int .i64 (sel (jC a b) (jQA a b)).d, .int .i64 (sel (jC a b) (jQB a b)).n, .int .i64 (sel (jC a b) (jQB a b)).d, .int .i64 (sel (jC a b) (jQC a b)).n, .int .i64 (sel (jC a b) (jQC a b)).d, .int .i64 (sel (jC a b) (jQD a b)).n, .int .i64 (sel (jC a b) (jQD a b)).d]) ∧ Below w.heap.size w w' := by
  have qa := mfault_ne a
  have qb := mfault_ne b
  rw [ha] at qa
  rw [hb0] at qb
  have st : Try.prog.stoodInHeld 27 = false := by kernel_rfl
  go_enter Try.func28, Try.ntmps28
  go_wp2_with fail
  refine (imfault a _).mono ?_
  rintro e w1 ⟨rfl, hb⟩
  have HO : Hid (Below w.heap.size w w1) := by refine box_step ?_ hb (by simp <;> omega); go_grown
  have X0 : Blk w1 (w.heap.size) #[.int .i64 a.A.n, .int .i64 a.A.d, .int .i64 a.B.n, .int .i64 a.B.d, .int .i64 a.C.n, .int .i64 a.C.d, .int .i64 a.D.n, .int .i64 a.D.d] 27 := Blk.old ((Blk.alloc (Blk.alloc (Blk.new (by simp)) _) _)) hb
  have K0 : Hid (w1.cell? ⟨w.heap.size, 0, none⟩ = some (.int .i64 a.A.n)) := X0.cell rfl
  have K1 : Hid (w1.cell? ⟨w.heap.size, 1, none⟩ = some (.int .i64 a.A.d)) := X0.cell rfl
  have K2 : Hid (w1.cell? ⟨w.heap.size, 2, none⟩ = some (.int .i64 a.B.n)) := X0.cell rfl
  have K3 : Hid (w1.cell? ⟨w.heap.size, 3, none⟩ = some (.int .i64 a.B.d)) := X0.cell rfl
  have K4 : Hid (w1.cell? ⟨w.heap.size, 4, none⟩ = some (.int .i64 a.C.n)) := X0.cell rfl
  have K5 : Hid (w1.cell? ⟨w.heap.size, 5, none⟩ = some (.int .i64 a.C.d)) := X0.cell rfl
  have K6 : Hid (w1.cell? ⟨w.heap.size, 6, none⟩ = some (.int .i64 a.D.n)) := X0.cell rfl
  have K7 : Hid (w1.cell? ⟨w.heap.size, 7, none⟩ = some (.int .i64 a.D.d)) := X0.cell rfl
  clear X0
  have X1 : Blk w1 (w.heap.size + 1) #[.int .i64 b.A.n, .int .i64 b.A.d, .int .i64 b.B.n, .int .i64 b.B.d, .int .i64 b.C.n, .int .i64 b.C.d, .int .i64 b.D.n, .int .i64 b.D.d] 27 := Blk.old ((Blk.alloc (Blk.new (by simp)) _)) hb
  have K8 : Hid (w1.cell? ⟨w.heap.size + 1, 0, none⟩ = some (.int .i64 b.A.n)) := X1.cell rfl
  have K9 : Hid (w1.cell? ⟨w.heap.size + 1, 1, none⟩ = some (.int .i64 b.A.d)) := X1.cell rfl
  have K10 : Hid (w1.cell? ⟨w.heap.size + 1, 2, none⟩ = some (.int .i64 b.B.n)) := X1.cell rfl
  have K11 : Hid (w1.cell? ⟨w.heap.size + 1, 3, none⟩ = some (.int .i64 b.B.d)) := X1.cell rfl
  have K12 : Hid (w1.cell? ⟨w.heap.size + 1, 4, none⟩ = some (.int .i64 b.C.n)) := X1.cell rfl
  have K13 : Hid (w1.cell? ⟨w.heap.size + 1, 5, none⟩ = some (.int .i64 b.C.d)) := X1.cell rfl
  have K14 : Hid (w1.cell? ⟨w.heap.size + 1, 6, none⟩ = some (.int .i64 b.D.n)) := X1.cell rfl
  have K15 : Hid (w1.cell? ⟨w.heap.size + 1, 7, none⟩ = some (.int .i64 b.D.d)) := X1.cell rfl
  clear X1
  have RB : Hid (Blk w1 (w.heap.size + 1 + 1) #[.int .i64 0, .int .i64 0, .int .i64 0, .int .i64 0, .int .i64 0, .int .i64 0, .int .i64 0, .int .i64 0, .int .i64 0] 37) := Blk.old (Blk.new (by simp)) hb
  clear hb
  have c8 := K8.out
  have c9 := K9.out
  have c10 := K10.out
  have c11 := K11.out
  have c12 := K12.out
  have c13 := K13.out
  have c14 := K14.out
  have c15 := K15.out
  have r0 := RB.out.cell (j := 0) rfl
  have r1 := RB.out.cell (j := 1) rfl
  have r2 := RB.out.cell (j := 2) rfl
  have r3 := RB.out.cell (j := 3) rfl
  have r4 := RB.out.cell (j := 4) rfl
  have r5 := RB.out.cell (j := 5) rfl
  have r6 := RB.out.cell (j := 6) rfl
  have r7 := RB.out.cell (j := 7) rfl
  have r8 := RB.out.cell (j := 8) rfl
  have rf := RB.out.frozen
  go_wp2_with fail
  refine (imfault b _).mono ?_
  rintro e w2 ⟨rfl, hb⟩
  clear c8 c9 c10 c11 c12 c13 c14 c15 r0 r1 r2 r3 r4 r5 r6 r7 r8 rf
  have HO : Hid (Below w.heap.size w w2) := by have h := HO.out; have hs := h.size; refine box_step ?_ hb (by first | exact hs | (simp <;> omega)); go_grown
  have RB : Hid (Blk w2 (w.heap.size + 1 + 1) #[.int .i64 0, .int .i64 0, .int .i64 0, .int .i64 0, .int .i64 0, .int .i64 0, .int .i64 0, .int .i64 0, .int .i64 0] 37) := Blk.old (RB.out) hb
  have K16 : Hid (w2.cell? ⟨w.heap.size, 0, none⟩ = some (.int .i64 a.A.n)) := kold hb (K0.out)
  have K17 : Hid (w2.cell? ⟨w.heap.size, 1, none⟩ = some (.int .i64 a.A.d)) := kold hb (K1.out)
  have K18 : Hid (w2.cell? ⟨w.heap.size, 2, none⟩ = some (.int .i64 a.B.n)) := kold hb (K2.out)
  have K19 : Hid (w2.cell? ⟨w.heap.size, 3, none⟩ = some (.int .i64 a.B.d)) := kold hb (K3.out)
  have K20 : Hid (w2.cell? ⟨w.heap.size, 4, none⟩ = some (.int .i64 a.C.n)) := kold hb (K4.out)
  have K21 : Hid (w2.cell? ⟨w.heap.size, 5, none⟩ = some (.int .i64 a.C.d)) := kold hb (K5.out)
  have K22 : Hid (w2.cell? ⟨w.heap.size, 6, none⟩ = some (.int .i64 a.D.n)) := kold hb (K6.out)
  have K23 : Hid (w2.cell? ⟨w.heap.size, 7, none⟩ = some (.int .i64 a.D.d)) := kold hb (K7.out)
  have K24 : Hid (w2.cell? ⟨w.heap.size + 1, 0, none⟩ = some (.int .i64 b.A.n)) := kold hb (K8.out)
  have K25 : Hid (w2.cell? ⟨w.heap.size + 1, 1, none⟩ = some (.int .i64 b.A.d)) := kold hb (K9.out)
  have K26 : Hid (w2.cell? ⟨w.heap.size + 1, 2, none⟩ = some (.int .i64 b.B.n)) := kold hb (K10.out)
  have K27 : Hid (w2.cell? ⟨w.heap.size + 1, 3, none⟩ = some (.int .i64 b.B.d)) := kold hb (K11.out)
  have K28 : Hid (w2.cell? ⟨w.heap.size + 1, 4, none⟩ = some (.int .i64 b.C.n)) := kold hb (K12.out)
  have K29 : Hid (w2.cell? ⟨w.heap.size + 1, 5, none⟩ = some (.int .i64 b.C.d)) := kold hb (K13.out)
  have K30 : Hid (w2.cell? ⟨w.heap.size + 1, 6, none⟩ = some (.int .i64 b.D.n)) := kold hb (K14.out)
  have K31 : Hid (w2.cell? ⟨w.heap.size + 1, 7, none⟩ = some (.int .i64 b.D.d)) := kold hb (K15.out)
  clear K0 K1 K2 K3 K4 K5 K6 K7 K8 K9 K10 K11 K12 K13 K14 K15
  clear hb
  have r0 := RB.out.cell (j := 0) rfl
  have r1 := RB.out.cell (j := 1) rfl
  have r2 := RB.out.cell (j := 2) rfl
  have r3 := RB.out.cell (j := 3) rfl
  have r4 := RB.out.cell (j := 4) rfl
  have r5 := RB.out.cell (j := 5) rfl
  have r6 := RB.out.cell (j := 6) rfl
  have r7 := RB.out.cell (j := 7) rfl
  have r8 := RB.out.cell (j := 8) rfl
  have rf := RB.out.frozen
  go_wp2_with fail
  refine (istraight _).mono ?_
  rintro e w3 ⟨rfl, hb⟩
  clear r0 r1 r2 r3 r4 r5 r6 r7 r8 rf
  have HO : Hid (Below w.heap.size w w3) := by have h := HO.out; have hs := h.size; refine box_step ?_ hb (by first | exact hs | (simp <;> omega)); go_grown
  have RB : Hid (Blk w3 (w.heap.size + 1 + 1) #[.int .i64 0, .int .i64 0, .int .i64 0, .int .i64 0, .int .i64 0, .int .i64 0, .int .i64 0, .int .i64 0, .int .i64 0] 37) := Blk.old (RB.out) hb
  have K32 : Hid (w3.cell? ⟨w.heap.size, 0, none⟩ = some (.int .i64 a.A.n)) := kold hb (K16.out)
  have K33 : Hid (w3.cell? ⟨w.heap.size, 1, none⟩ = some (.int .i64 a.A.d)) := kold hb (K17.out)
  have K34 : Hid (w3.cell? ⟨w.heap.size, 2, none⟩ = some (.int .i64 a.B.n)) := kold hb (K18.out)
  have K35 : Hid (w3.cell? ⟨w.heap.size, 3, none⟩ = some (.int .i64 a.B.d)) := kold hb (K19.out)
  have K36 : Hid (w3.cell? ⟨w.heap.size, 4, none⟩ = some (.int .i64 a.C.n)) := kold hb (K20.out)
  have K37 : Hid (w3.cell? ⟨w.heap.size, 5, none⟩ = some (.int .i64 a.C.d)) := kold hb (K21.out)
  have K38 : Hid (w3.cell? ⟨w.heap.size, 6, none⟩ = some (.int .i64 a.D.n)) := kold hb (K22.out)
  have K39 : Hid (w3.cell? ⟨w.heap.size, 7, none⟩ = some (.int .i64 a.D.d)) := kold hb (K23.out)
  have K40 : Hid (w3.cell? ⟨w.heap.size + 1, 0, none⟩ = some (.int .i64 b.A.n)) := kold hb (K24.out)
  have K41 : Hid (w3.cell? ⟨w.heap.size + 1, 1, none⟩ = some (.int .i64 b.A.d)) := kold hb (K25.out)
  have K42 : Hid (w3.cell? ⟨w.heap.size + 1, 2, none⟩ = some (.int .i64 b.B.n)) := kold hb (K26.out)
  have K43 : Hid (w3.cell? ⟨w.heap.size + 1, 3, none⟩ = some (.int .i64 b.B.d)) := kold hb (K27.out)
  have K44 : Hid (w3.cell? ⟨w.heap.size + 1, 4, none⟩ = some (.int .i64 b.C.n)) := kold hb (K28.out)
  have K45 : Hid (w3.cell? ⟨w.heap.size + 1, 5, none⟩ = some (.int .i64 b.C.d)) := kold hb (K29.out)
  have K46 : Hid (w3.cell? ⟨w.heap.size + 1, 6, none⟩ = some (.int .i64 b.D.n)) := kold hb (K30.out)
  have K47 : Hid (w3.cell? ⟨w.heap.size + 1, 7, none⟩ = some (.int .i64 b.D.d)) := kold hb (K31.out)
  clear K16 K17 K18 K19 K20 K21 K22 K23 K24 K25 K26 K27 K28 K29 K30 K31
  clear hb
  clear qa qb
  go_upto_region 4 with fail
  go_cut [17] (fun c wx => c = .bool (isU a) ∧ wx = w3)
  case first =>
    have c0 := K32.out
    have c1 := K33.out
    have c2 := K34.out
    have c3 := K35.out
    have c4 := K36.out
    have c5 := K37.out
    have c6 := K38.out
    have c7 := K39.out
    cases x0 : ((1 : Int) == a.A.n)
    case false =>
      go_wp2
      go_meet
      case rel =>
        refine ⟨?_, rfl⟩
        unfold isU
        simp only [beq_iff_eq, beq_eq_false_iff_ne] at x0
        rw [decide_eq_false (by omega)]
    case true =>
      cases x1 : ((1 : Int) == a.A.d)
      case false =>
        go_wp2
        go_meet
        case rel =>
          refine ⟨?_, rfl⟩
          unfold isU
          simp only [beq_iff_eq, beq_eq_false_iff_ne] at x0 x1
          rw [decide_eq_false (by omega)]
      case true =>
        cases x2 : ((0 : Int) == a.B.n)
        case false =>
          go_wp2
          go_meet
          case rel =>
            refine ⟨?_, rfl⟩
            unfold isU
            simp only [beq_iff_eq, beq_eq_false_iff_ne] at x0 x1 x2
            rw [decide_eq_false (by omega)]
        case true =>
          cases x3 : ((1 : Int) == a.B.d)
          case false =>
            go_wp2
            go_meet
            case rel =>
              refine ⟨?_, rfl⟩
              unfold isU
              simp only [beq_iff_eq, beq_eq_false_iff_ne] at x0 x1 x2 x3
              rw [decide_eq_false (by omega)]
          case true =>
            cases x4 : ((0 : Int) == a.C.n)
            case false =>
              go_wp2
              go_meet
              case rel =>
                refine ⟨?_, rfl⟩
                unfold isU
                simp only [beq_iff_eq, beq_eq_false_iff_ne] at x0 x1 x2 x3 x4
                rw [decide_eq_false (by omega)]
            case true =>
              cases x5 : ((1 : Int) == a.C.d)
              case false =>
                go_wp2
                go_meet
                case rel =>
                  refine ⟨?_, rfl⟩
                  unfold isU
                  simp only [beq_iff_eq, beq_eq_false_iff_ne] at x0 x1 x2 x3 x4 x5
                  rw [decide_eq_false (by omega)]
              case true =>
                cases x6 : ((1 : Int) == a.D.n)
                case false =>
                  go_wp2
                  go_meet
                  case rel =>
                    refine ⟨?_, rfl⟩
                    unfold isU
                    simp only [beq_iff_eq, beq_eq_false_iff_ne] at x0 x1 x2 x3 x4 x5 x6
                    rw [decide_eq_false (by omega)]
                case true =>
                  cases x7 : ((1 : Int) == a.D.d)
                  case false =>
                    go_wp2
                    go_meet
                    case rel =>
                      refine ⟨?_, rfl⟩
                      unfold isU
                      simp only [beq_iff_eq, beq_eq_false_iff_ne] at x0 x1 x2 x3 x4 x5 x6 x7
                      rw [decide_eq_false (by omega)]
                  case true =>
                    go_wp2
                    go_meet
                    case rel =>
                      refine ⟨?_, rfl⟩
                      unfold isU
                      simp only [beq_iff_eq, beq_eq_false_iff_ne] at x0 x1 x2 x3 x4 x5 x6 x7
                      rw [decide_eq_true (by omega)]
  case rest =>
    obtain ⟨rfl, hw⟩ := hcut
    have hw2 := hw.symm
    subst hw2
    clear hw
    cases hu : isU a
    case true =>
      obtain ⟨e0, e1, e2, e3, e4⟩ := join_l ha hb0 hu
      have c8 := K40.out
      have c9 := K41.out
      have c10 := K42.out
      have c11 := K43.out
      have c12 := K44.out
      have c13 := K45.out
      have c14 := K46.out
      have c15 := K47.out
      have r0 := RB.out.cell (j := 0) rfl
      have r1 := RB.out.cell (j := 1) rfl
      have r2 := RB.out.cell (j := 2) rfl
      have r3 := RB.out.cell (j := 3) rfl
      have r4 := RB.out.cell (j := 4) rfl
      have r5 := RB.out.cell (j := 5) rfl
      have r6 := RB.out.cell (j := 6) rfl
      have r7 := RB.out.cell (j := 7) rfl
      have r8 := RB.out.cell (j := 8) rfl
      have rf := RB.out.frozen
      repeat go_step
      refine bodyPost_ret (v := .agg #[.int .i64 0, .int .i64 b.A.n, .int .i64 b.A.d, .int .i64 b.B.n, .int .i64 b.B.d, .int .i64 b.C.n, .int .i64 b.C.d, .int .i64 b.D.n, .int .i64 b.D.d]) (by simp [results, Try.results28, go_sem, r0, r1, r2, r3, r4, r5, r6, r7, r8, World.cell?_alloc_lt, RB.out.lt] <;> (repeat' (first | rfl | apply And.intro))) rfl ⟨by rw [e0, e1, e2, e3, e4]; rfl, ?_⟩
      have h := HO.out
      have hlt := RB.out.lt
      have hsz := h.size
      go_grown
    case false =>
      go_upto_region 6 with fail
      go_cut [22] (fun c wx => c = .bool (isU b) ∧ wx = w3)
      case first =>
        have c8 := K40.out
        have c9 := K41.out
        have c10 := K42.out
        have c11 := K43.out
        have c12 := K44.out
        have c13 := K45.out
        have c14 := K46.out
        have c15 := K47.out
        cases x0 : ((1 : Int) == b.A.n)
        case false =>
          go_wp2
          go_meet
          case rel =>
            refine ⟨?_, rfl⟩
            unfold isU
            simp only [beq_iff_eq, beq_eq_false_iff_ne] at x0
            rw [decide_eq_false (by omega)]
        case true =>
          cases x1 : ((1 : Int) == b.A.d)
          case false =>
            go_wp2
            go_meet
            case rel =>
              refine ⟨?_, rfl⟩
              unfold isU
              simp only [beq_iff_eq, beq_eq_false_iff_ne] at x0 x1
              rw [decide_eq_false (by omega)]
          case true =>
            cases x2 : ((0 : Int) == b.B.n)
            case false =>
              go_wp2
              go_meet
              case rel =>
                refine ⟨?_, rfl⟩
                unfold isU
                simp only [beq_iff_eq, beq_eq_false_iff_ne] at x0 x1 x2
                rw [decide_eq_false (by omega)]
            case true =>
              cases x3 : ((1 : Int) == b.B.d)
              case false =>
                go_wp2
                go_meet
                case rel =>
                  refine ⟨?_, rfl⟩
                  unfold isU
                  simp only [beq_iff_eq, beq_eq_false_iff_ne] at x0 x1 x2 x3
                  rw [decide_eq_false (by omega)]
              case true =>
                cases x4 : ((0 : Int) == b.C.n)
                case false =>
                  go_wp2
                  go_meet
                  case rel =>
                    refine ⟨?_, rfl⟩
                    unfold isU
                    simp only [beq_iff_eq, beq_eq_false_iff_ne] at x0 x1 x2 x3 x4
                    rw [decide_eq_false (by omega)]
                case true =>
                  cases x5 : ((1 : Int) == b.C.d)
                  case false =>
                    go_wp2
                    go_meet
                    case rel =>
                      refine ⟨?_, rfl⟩
                      unfold isU
                      simp only [beq_iff_eq, beq_eq_false_iff_ne] at x0 x1 x2 x3 x4 x5
                      rw [decide_eq_false (by omega)]
                  case true =>
                    cases x6 : ((1 : Int) == b.D.n)
                    case false =>
                      go_wp2
                      go_meet
                      case rel =>
                        refine ⟨?_, rfl⟩
                        unfold isU
                        simp only [beq_iff_eq, beq_eq_false_iff_ne] at x0 x1 x2 x3 x4 x5 x6
                        rw [decide_eq_false (by omega)]
                    case true =>
                      cases x7 : ((1 : Int) == b.D.d)
                      case false =>
                        go_wp2
                        go_meet
                        case rel =>
                          refine ⟨?_, rfl⟩
                          unfold isU
                          simp only [beq_iff_eq, beq_eq_false_iff_ne] at x0 x1 x2 x3 x4 x5 x6 x7
                          rw [decide_eq_false (by omega)]
                      case true =>
                        go_wp2
                        go_meet
                        case rel =>
                          refine ⟨?_, rfl⟩
                          unfold isU
                          simp only [beq_iff_eq, beq_eq_false_iff_ne] at x0 x1 x2 x3 x4 x5 x6 x7
                          rw [decide_eq_true (by omega)]
      case rest =>
        obtain ⟨rfl, hw⟩ := hcut
        have hw2 := hw.symm
        subst hw2
        clear hw
        cases hv : isU b
        case true =>
          obtain ⟨e0, e1, e2, e3, e4⟩ := join_r ha hb0 hv
          have c0 := K32.out
          have c1 := K33.out
          have c2 := K34.out
          have c3 := K35.out
          have c4 := K36.out
          have c5 := K37.out
          have c6 := K38.out
          have c7 := K39.out
          have r0 := RB.out.cell (j := 0) rfl
          have r1 := RB.out.cell (j := 1) rfl
          have r2 := RB.out.cell (j := 2) rfl
          have r3 := RB.out.cell (j := 3) rfl
          have r4 := RB.out.cell (j := 4) rfl
          have r5 := RB.out.cell (j := 5) rfl
          have r6 := RB.out.cell (j := 6) rfl
          have r7 := RB.out.cell (j := 7) rfl
          have r8 := RB.out.cell (j := 8) rfl
          have rf := RB.out.frozen
          repeat go_step
          refine bodyPost_ret (v := .agg #[.int .i64 0, .int .i64 a.A.n, .int .i64 a.A.d, .int .i64 a.B.n, .int .i64 a.B.d, .int .i64 a.C.n, .int .i64 a.C.d, .int .i64 a.D.n, .int .i64 a.D.d]) (by simp [results, Try.results28, go_sem, r0, r1, r2, r3, r4, r5, r6, r7, r8, World.cell?_alloc_lt, RB.out.lt] <;> (repeat' (first | rfl | apply And.intro))) rfl ⟨by rw [e0, e1, e2, e3, e4]; rfl, ?_⟩
          have h := HO.out
          have hlt := RB.out.lt
          have hsz := h.size
          go_grown
        case false =>
          go_upto_region 9 with fail
          obtain ⟨r, hr⟩ : ∃ r, r = w3.heap.size := ⟨_, rfl⟩
          obtain ⟨w4, hY⟩ : ∃ Y, Y = w3.alloc (.cells #[.bool false] 101) := ⟨_, rfl⟩
          rw [← hY, ← hr]
          have FL : Hid (flag r false w4) := by rw [hY, hr]; exact Blk.new rfl
          have hrl : r < w4.heap.size := FL.out.lt
          have hrw : w.heap.size ≤ r := by rw [hr]; exact HO.out.size
          have HO : Hid (Below w.heap.size w w4) := by rw [hY]; exact HO.out.alloc HO.out.size _
          have ne0 : Hid (w.heap.size ≠ r) := by have hh : w.heap.size < w3.heap.size := World.block_lt_of_cell? _ _ K32.out; show w.heap.size ≠ r; omega
          have ne1 : Hid (w.heap.size + 1 ≠ r) := by have hh : w.heap.size + 1 < w3.heap.size := World.block_lt_of_cell? _ _ K40.out; show w.heap.size + 1 ≠ r; omega
          have neR : Hid (w.heap.size + 1 + 1 ≠ r) := by have := RB.out.lt; show w.heap.size + 1 + 1 ≠ r; omega
          have RB : Hid (Blk w4 (w.heap.size + 1 + 1) #[.int .i64 0, .int .i64 0, .int .i64 0, .int .i64 0, .int .i64 0, .int .i64 0, .int .i64 0, .int .i64 0, .int .i64 0] 37) := by rw [hY]; exact Blk.alloc RB.out _
          have K48 : Hid (w4.cell? ⟨w.heap.size, 0, none⟩ = some (.int .i64 a.A.n)) := by rw [hY]; exact cell_old K32.out
          have K49 : Hid (w4.cell? ⟨w.heap.size, 1, none⟩ = some (.int .i64 a.A.d)) := by rw [hY]; exact cell_old K33.out
          have K50 : Hid (w4.cell? ⟨w.heap.size, 2, none⟩ = some (.int .i64 a.B.n)) := by rw [hY]; exact cell_old K34.out
          have K51 : Hid (w4.cell? ⟨w.heap.size, 3, none⟩ = some (.int .i64 a.B.d)) := by rw [hY]; exact cell_old K35.out
          have K52 : Hid (w4.cell? ⟨w.heap.size, 4, none⟩ = some (.int .i64 a.C.n)) := by rw [hY]; exact cell_old K36.out
          have K53 : Hid (w4.cell? ⟨w.heap.size, 5, none⟩ = some (.int .i64 a.C.d)) := by rw [hY]; exact cell_old K37.out
          have K54 : Hid (w4.cell? ⟨w.heap.size, 6, none⟩ = some (.int .i64 a.D.n)) := by rw [hY]; exact cell_old K38.out
          have K55 : Hid (w4.cell? ⟨w.heap.size, 7, none⟩ = some (.int .i64 a.D.d)) := by rw [hY]; exact cell_old K39.out
          have K56 : Hid (w4.cell? ⟨w.heap.size + 1, 0, none⟩ = some (.int .i64 b.A.n)) := by rw [hY]; exact cell_old K40.out
          have K57 : Hid (w4.cell? ⟨w.heap.size + 1, 1, none⟩ = some (.int .i64 b.A.d)) := by rw [hY]; exact cell_old K41.out
          have K58 : Hid (w4.cell? ⟨w.heap.size + 1, 2, none⟩ = some (.int .i64 b.B.n)) := by rw [hY]; exact cell_old K42.out
          have K59 : Hid (w4.cell? ⟨w.heap.size + 1, 3, none⟩ = some (.int .i64 b.B.d)) := by rw [hY]; exact cell_old K43.out
          have K60 : Hid (w4.cell? ⟨w.heap.size + 1, 4, none⟩ = some (.int .i64 b.C.n)) := by rw [hY]; exact cell_old K44.out
          have K61 : Hid (w4.cell? ⟨w.heap.size + 1, 5, none⟩ = some (.int .i64 b.C.d)) := by rw [hY]; exact cell_old K45.out
          have K62 : Hid (w4.cell? ⟨w.heap.size + 1, 6, none⟩ = some (.int .i64 b.D.n)) := by rw [hY]; exact cell_old K46.out
          have K63 : Hid (w4.cell? ⟨w.heap.size + 1, 7, none⟩ = some (.int .i64 b.D.d)) := by rw [hY]; exact cell_old K47.out
          clear K32 K33 K34 K35 K36 K37 K38 K39 K40 K41 K42 K43 K44 K45 K46 K47 hY hr
          have k0 : ∀ W, But r w4.heap.size w4 W → W.cell? ⟨w.heap.size, 0, none⟩ = some (.int .i64 a.A.n) := fun _ h => kbut h K48.out ne0.out
          have k1 : ∀ W, But r w4.heap.size w4 W → W.cell? ⟨w.heap.size, 1, none⟩ = some (.int .i64 a.A.d) := fun _ h => kbut h K49.out ne0.out
          have k2 : ∀ W, But r w4.heap.size w4 W → W.cell? ⟨w.heap.size, 2, none⟩ = some (.int .i64 a.B.n) := fun _ h => kbut h K50.out ne0.out
          have k3 : ∀ W, But r w4.heap.size w4 W → W.cell? ⟨w.heap.size, 3, none⟩ = some (.int .i64 a.B.d) := fun _ h => kbut h K51.out ne0.out
          have k4 : ∀ W, But r w4.heap.size w4 W → W.cell? ⟨w.heap.size, 4, none⟩ = some (.int .i64 a.C.n) := fun _ h => kbut h K52.out ne0.out
          have k5 : ∀ W, But r w4.heap.size w4 W → W.cell? ⟨w.heap.size, 5, none⟩ = some (.int .i64 a.C.d) := fun _ h => kbut h K53.out ne0.out
          have k6 : ∀ W, But r w4.heap.size w4 W → W.cell? ⟨w.heap.size, 6, none⟩ = some (.int .i64 a.D.n) := fun _ h => kbut h K54.out ne0.out
          have k7 : ∀ W, But r w4.heap.size w4 W → W.cell? ⟨w.heap.size, 7, none⟩ = some (.int .i64 a.D.d) := fun _ h => kbut h K55.out ne0.out
          have k8 : ∀ W, But r w4.heap.size w4 W → W.cell? ⟨w.heap.size + 1, 0, none⟩ = some (.int .i64 b.A.n) := fun _ h => kbut h K56.out ne1.out
          have k9 : ∀ W, But r w4.heap.size w4 W → W.cell? ⟨w.heap.size + 1, 1, none⟩ = some (.int .i64 b.A.d) := fun _ h => kbut h K57.out ne1.out
          have k10 : ∀ W, But r w4.heap.size w4 W → W.cell? ⟨w.heap.size + 1, 2, none⟩ = some (.int .i64 b.B.n) := fun _ h => kbut h K58.out ne1.out
          have k11 : ∀ W, But r w4.heap.size w4 W → W.cell? ⟨w.heap.size + 1, 3, none⟩ = some (.int .i64 b.B.d) := fun _ h => kbut h K59.out ne1.out
          have k12 : ∀ W, But r w4.heap.size w4 W → W.cell? ⟨w.heap.size + 1, 4, none⟩ = some (.int .i64 b.C.n) := fun _ h => kbut h K60.out ne1.out
          have k13 : ∀ W, But r w4.heap.size w4 W → W.cell? ⟨w.heap.size + 1, 5, none⟩ = some (.int .i64 b.C.d) := fun _ h => kbut h K61.out ne1.out
          have k14 : ∀ W, But r w4.heap.size w4 W → W.cell? ⟨w.heap.size + 1, 6, none⟩ = some (.int .i64 b.D.n) := fun _ h => kbut h K62.out ne1.out
          have k15 : ∀ W, But r w4.heap.size w4 W → W.cell? ⟨w.heap.size + 1, 7, none⟩ = some (.int .i64 b.D.d) := fun _ h => kbut h K63.out ne1.out
          have hR0 : But r w4.heap.size w4 w4 := But.refl _ _ _
          have F0 : flag r (false) w4 := FL.out
          have hn0 : w4.heap.size ≠ r := by omega
          go_wp2_with fail
          go_cut [6] (fun p wx => ∃ k : Nat, p = .pointer (some ⟨k, 0, none⟩) ∧ w4.heap.size ≤ k ∧ k < wx.heap.size ∧ But r w4.heap.size w4 wx ∧ flag r ((((false || !twK b.A a.A b.B a.C) || !twK b.A a.B b.B a.D) || !twK b.C a.A b.D a.C) || !twK b.C a.B b.D a.D) wx ∧ wx.cell? ⟨k, 0, none⟩ = some (.int .i64 (twQ b.A a.A b.B a.C).n) ∧ wx.cell? ⟨k, 1, none⟩ = some (.int .i64 (twQ b.A a.A b.B a.C).d) ∧ wx.cell? ⟨k, 2, none⟩ = some (.int .i64 (twQ b.A a.B b.B a.D).n) ∧ wx.cell? ⟨k, 3, none⟩ = some (.int .i64 (twQ b.A a.B b.B a.D).d) ∧ wx.cell? ⟨k, 4, none⟩ = some (.int .i64 (twQ b.C a.A b.D a.C).n) ∧ wx.cell? ⟨k, 5, none⟩ = some (.int .i64 (twQ b.C a.A b.D a.C).d) ∧ wx.cell? ⟨k, 6, none⟩ = some (.int .i64 (twQ b.C a.B b.D a.D).n) ∧ wx.cell? ⟨k, 7, none⟩ = some (.int .i64 (twQ b.C a.B b.D a.D).d))
          case first =>
            go_region_held3 (fun W => But r w4.heap.size w4 W) ((repeat' (first | (with_reducible exact But.refl _ _ _) | (with_reducible assumption) | (with_reducible refine But.setFlag ?_ _) | (with_reducible refine But.alloc ?_ ?_ _) | (with_reducible refine But.drew ?_) | (with_reducible refine But.setCell ?_ ?_ _) | go_size))) (first | (go_at_call 76; refine Calls.mono (rtwo _ _ _ _ r _ _ (by (repeat' (first | (with_reducible assumption) | (with_reducible apply flag.set) | (with_reducible apply flag.alloc) | (with_reducible apply flag.drew) | (with_reducible apply flag.setOther) | omega | (simp; omega) | (simp; done))))) ?_; rintro e w1 ⟨rfl, hb1, F1⟩; have hs1 := hb1.size; (try simp at hs1); have hR1 : But r w4.heap.size w4 w1 := (by refine But.call ?_ hb1 (by go_size); (repeat' (first | (with_reducible exact But.refl _ _ _) | (with_reducible assumption) | (with_reducible refine But.setFlag ?_ _) | (with_reducible refine But.alloc ?_ ?_ _) | (with_reducible refine But.drew ?_) | (with_reducible refine But.setCell ?_ ?_ _) | go_size))); have hn1 : w1.heap.size ≠ r := (by have := hR1.size; omega); (first | (have hZ := But.trans hZ (But.mono hb1 hZ.size)) | (have hZ := hb1)); obtain ⟨ho1, hf1, hz1⟩ := oldsB hZ))
            all_goals
              go_wp2_with fail
              go_meet
              case rel =>
                refine ⟨_, rfl, ?_, ?_, ?_, ?_, ?_, ?_, ?_, ?_, ?_, ?_, ?_, ?_⟩
                · omega
                · simp [World.setCell] <;> omega
                · (repeat' (first | (with_reducible exact But.refl _ _ _) | (with_reducible assumption) | (with_reducible refine But.setFlag ?_ _) | (with_reducible refine But.alloc ?_ ?_ _) | (with_reducible refine But.drew ?_) | (with_reducible refine But.setCell ?_ ?_ _) | go_size))
                · (repeat' (first | (with_reducible assumption) | (with_reducible apply flag.set) | (with_reducible apply flag.alloc) | (with_reducible apply flag.drew) | (with_reducible apply flag.setOther) | omega | (simp; omega) | (simp; done)))
                · go_simp
                · go_simp
                · go_simp
                · go_simp
                · go_simp
                · go_simp
                · go_simp
                · go_simp
          case rest =>
            obtain ⟨b5, rfl, hk1, hk2, hB, hF, d0, d1, d2, d3, d4, d5, d6, d7⟩ := hcut
            clear k0 k1 k2 k3 k4 k5 k6 k7 k8 k9 k10 k11 k12 k13 k14 k15 hR0 F0 hn0
            obtain ⟨w5, hv⟩ : ∃ v, v = wc := ⟨_, rfl⟩
            subst hv
            have HO : Hid (Below w.heap.size w w5) := HO.out.trans ((hB.mono HO.out.size).below hrw)
            have RB : Hid (Blk w5 (w.heap.size + 1 + 1) #[.int .i64 0, .int .i64 0, .int .i64 0, .int .i64 0, .int .i64 0, .int .i64 0, .int .i64 0, .int .i64 0, .int .i64 0] 37) := Blk.but RB.out hB neR.out
            have FL : Hid (flag r ((((false || !twK b.A a.A b.B a.C) || !twK b.A a.B b.B a.D) || !twK b.C a.A b.D a.C) || !twK b.C a.B b.D a.D) w5) := hF
            have nb5 : Hid (b5 ≠ r) := by show b5 ≠ r; omega
            have hrl : r < w5.heap.size := FL.out.lt
            have K64 : Hid (w5.cell? ⟨w.heap.size, 0, none⟩ = some (.int .i64 a.A.n)) := kbut hB K48.out ne0.out
            have K65 : Hid (w5.cell? ⟨w.heap.size, 1, none⟩ = some (.int .i64 a.A.d)) := kbut hB K49.out ne0.out
            have K66 : Hid (w5.cell? ⟨w.heap.size, 2, none⟩ = some (.int .i64 a.B.n)) := kbut hB K50.out ne0.out
            have K67 : Hid (w5.cell? ⟨w.heap.size, 3, none⟩ = some (.int .i64 a.B.d)) := kbut hB K51.out ne0.out
            have K68 : Hid (w5.cell? ⟨w.heap.size, 4, none⟩ = some (.int .i64 a.C.n)) := kbut hB K52.out ne0.out
            have K69 : Hid (w5.cell? ⟨w.heap.size, 5, none⟩ = some (.int .i64 a.C.d)) := kbut hB K53.out ne0.out
            have K70 : Hid (w5.cell? ⟨w.heap.size, 6, none⟩ = some (.int .i64 a.D.n)) := kbut hB K54.out ne0.out
            have K71 : Hid (w5.cell? ⟨w.heap.size, 7, none⟩ = some (.int .i64 a.D.d)) := kbut hB K55.out ne0.out
            have K72 : Hid (w5.cell? ⟨w.heap.size + 1, 0, none⟩ = some (.int .i64 b.A.n)) := kbut hB K56.out ne1.out
            have K73 : Hid (w5.cell? ⟨w.heap.size + 1, 1, none⟩ = some (.int .i64 b.A.d)) := kbut hB K57.out ne1.out
            have K74 : Hid (w5.cell? ⟨w.heap.size + 1, 2, none⟩ = some (.int .i64 b.B.n)) := kbut hB K58.out ne1.out
            have K75 : Hid (w5.cell? ⟨w.heap.size + 1, 3, none⟩ = some (.int .i64 b.B.d)) := kbut hB K59.out ne1.out
            have K76 : Hid (w5.cell? ⟨w.heap.size + 1, 4, none⟩ = some (.int .i64 b.C.n)) := kbut hB K60.out ne1.out
            have K77 : Hid (w5.cell? ⟨w.heap.size + 1, 5, none⟩ = some (.int .i64 b.C.d)) := kbut hB K61.out ne1.out
            have K78 : Hid (w5.cell? ⟨w.heap.size + 1, 6, none⟩ = some (.int .i64 b.D.n)) := kbut hB K62.out ne1.out
            have K79 : Hid (w5.cell? ⟨w.heap.size + 1, 7, none⟩ = some (.int .i64 b.D.d)) := kbut hB K63.out ne1.out
            clear K48 K49 K50 K51 K52 K53 K54 K55 K56 K57 K58 K59 K60 K61 K62 K63
            have K80 : Hid (w5.cell? ⟨b5, 0, none⟩ = some (.int .i64 (twQ b.A a.A b.B a.C).n)) := d0
            have K81 : Hid (w5.cell? ⟨b5, 1, none⟩ = some (.int .i64 (twQ b.A a.A b.B a.C).d)) := d1
            have K82 : Hid (w5.cell? ⟨b5, 2, none⟩ = some (.int .i64 (twQ b.A a.B b.B a.D).n)) := d2
            have K83 : Hid (w5.cell? ⟨b5, 3, none⟩ = some (.int .i64 (twQ b.A a.B b.B a.D).d)) := d3
            have K84 : Hid (w5.cell? ⟨b5, 4, none⟩ = some (.int .i64 (twQ b.C a.A b.D a.C).n)) := d4
            have K85 : Hid (w5.cell? ⟨b5, 5, none⟩ = some (.int .i64 (twQ b.C a.A b.D a.C).d)) := d5
            have K86 : Hid (w5.cell? ⟨b5, 6, none⟩ = some (.int .i64 (twQ b.C a.B b.D a.D).n)) := d6
            have K87 : Hid (w5.cell? ⟨b5, 7, none⟩ = some (.int .i64 (twQ b.C a.B b.D a.D).d)) := d7
            clear hB hF hk1 hk2 d0 d1 d2 d3 d4 d5 d6 d7
            have hF := FL.out.cell
            have hj := join_flag ha hb0
            cases hk : ((((false || !twK b.A a.A b.B a.C) || !twK b.A a.B b.B a.D) || !twK b.C a.A b.D a.C) || !twK b.C a.B b.D a.D)
            case true =>
              have hc : jC a b = 3 := hj.trans (if_pos hk)
              rw [hk] at hF
              clear hj hk st
              have r0 := RB.out.cell (j := 0) rfl
              have r1 := RB.out.cell (j := 1) rfl
              have r2 := RB.out.cell (j := 2) rfl
              have r3 := RB.out.cell (j := 3) rfl
              have r4 := RB.out.cell (j := 4) rfl
              have r5 := RB.out.cell (j := 5) rfl
              have r6 := RB.out.cell (j := 6) rfl
              have r7 := RB.out.cell (j := 7) rfl
              have r8 := RB.out.cell (j := 8) rfl
              have rf := RB.out.frozen
              repeat go_step
              refine bodyPost_ret (v := .agg #[.int .i64 3, .int .i64 0, .int .i64 0, .int .i64 0, .int .i64 0, .int .i64 0, .int .i64 0, .int .i64 0, .int .i64 0]) (by simp [results, Try.results28, go_sem, r0, r1, r2, r3, r4, r5, r6, r7, r8, World.cell?_alloc_lt, RB.out.lt] <;> (repeat' (first | rfl | apply And.intro))) rfl ⟨by rw [hc]; rfl, ?_⟩
              have h := HO.out
              have hlt := RB.out.lt
              have hsz := h.size
              go_grown
            case false =>
              have hc : jC a b = 0 := hj.trans (if_neg (fun h => Bool.noConfusion (hk.symm.trans h)))
              rw [hk] at hF
              clear hj hk st
              have c16 := K80.out
              have c17 := K81.out
              have c18 := K82.out
              have c19 := K83.out
              have c20 := K84.out
              have c21 := K85.out
              have c22 := K86.out
              have c23 := K87.out
              have r0 := RB.out.cell (j := 0) rfl
              have r1 := RB.out.cell (j := 1) rfl
              have r2 := RB.out.cell (j := 2) rfl
              have r3 := RB.out.cell (j := 3) rfl
              have r4 := RB.out.cell (j := 4) rfl
              have r5 := RB.out.cell (j := 5) rfl
              have r6 := RB.out.cell (j := 6) rfl
              have r7 := RB.out.cell (j := 7) rfl
              have r8 := RB.out.cell (j := 8) rfl
              have rf := RB.out.frozen
              repeat go_step
              refine bodyPost_ret (v := .agg #[.int .i64 0, .int .i64 (twQ b.A a.A b.B a.C).n, .int .i64 (twQ b.A a.A b.B a.C).d, .int .i64 (twQ b.A a.B b.B a.D).n, .int .i64 (twQ b.A a.B b.B a.D).d, .int .i64 (twQ b.C a.A b.D a.C).n, .int .i64 (twQ b.C a.A b.D a.C).d, .int .i64 (twQ b.C a.B b.D a.D).n, .int .i64 (twQ b.C a.B b.D a.D).d]) (by simp [results, Try.results28, go_sem, r0, r1, r2, r3, r4, r5, r6, r7, r8, World.cell?_alloc_lt, RB.out.lt] <;> (repeat' (first | rfl | apply And.intro))) rfl ⟨by rw [hc]; rfl, ?_⟩
              have h := HO.out
              have hlt := RB.out.lt
              have hsz := h.size
              go_grown
theorem ijoin (a b : Mx) (w : World) : Calls Try.prog 28 #[.agg #[.int .i64 a.A.n, .int .i64 a.A.d, .int .i64 a.B.n, .int .i64 a.B.d, .int .i64 a.C.n, .int .i64 a.C.d, .int .i64 a.D.n, .int .i64 a.D.d], .agg #[.int .i64 b.A.n, .int .i64 b.A.d, .int .i64 b.B.n, .int .i64 b.B.d, .int .i64 b.C.n, .int .i64 b.C.d, .int .i64 b.D.n, .int .i64 b.D.d]] w fun e w' => e = .returned (.agg #[.int .i64 (jC a b), .int .i64 (sel (jC a b) (jQA a b)).n, .int .i64 (sel (jC a b) (jQA a b)).d, .int .i64 (sel (jC a b) (jQB a b)).n, .int .i64 (sel (jC a b) (jQB a b)).d, .int .i64 (sel (jC a b) (jQC a b)).n, .int .i64 (sel (jC a b) (jQC a b)).d, .int .i64 (sel (jC a b) (jQD a b)).n, .int .i64 (sel (jC a b) (jQD a b)).d]) ∧ Below w.heap.size w w' := by
  cases ha : a.ok
  · have h : jC a b = 1 := by simp [jC, ha]
    rw [h]; exact ijoin_0 a b w ha
  cases hb : b.ok
  · have h : jC a b = 1 := by simp [jC, ha, hb]
    rw [h]; exact ijoin_1 a b w ha hb
  exact ijoin_2 a b w ha hb
end Go.Proofs.Ytnikgmjjkdhjbaa
