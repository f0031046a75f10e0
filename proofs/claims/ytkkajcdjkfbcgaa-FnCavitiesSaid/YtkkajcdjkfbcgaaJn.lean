/- A system's faults, its join with another: the specification's way. -/
import Derived.Test.YtkkajcdjkfbcgaaBk
namespace Go.Proofs.Ytkkajcdjkfbcgaa
open Go.RowKit
set_option linter.unusedVariables false
set_option linter.unusedSimpArgs false
set_option maxHeartbeats 1600000 in
theorem sgood_0 (m : Mx) (w : World) (hA : m.A.ok = false) : Calls Try.prog 116 #[.agg #[.int .i64 m.A.n, .int .i64 m.A.d, .int .i64 m.B.n, .int .i64 m.B.d, .int .i64 m.C.n, .int .i64 m.C.d, .int .i64 m.D.n, .int .i64 m.D.d]] w fun e w' => e = .returned (.bool false) ∧ Below w.heap.size w w' := by
  have qA := fault_eq m.A.n m.A.d
  rw [show rightB m.A.n m.A.d = m.A.ok from rfl] at qA
  go_enter Try.func116, Try.ntmps116
  go_wp2_with fail
  refine (sfaultq m.A _).mono ?_
  rintro e w1 ⟨rfl, hb⟩
  have HO : Hid (Below w.heap.size w w1) := by refine box_step ?_ hb (by simp <;> omega); go_grown
  have X0 : Blk w1 (w.heap.size) #[.int .i64 m.A.n, .int .i64 m.A.d, .int .i64 m.B.n, .int .i64 m.B.d, .int .i64 m.C.n, .int .i64 m.C.d, .int .i64 m.D.n, .int .i64 m.D.d] 44 := Blk.old ((Blk.new (by simp))) hb
  have K0 : Hid (w1.cell? ⟨w.heap.size, 0, none⟩ = some (.int .i64 m.A.n)) := X0.cell rfl
  have K1 : Hid (w1.cell? ⟨w.heap.size, 1, none⟩ = some (.int .i64 m.A.d)) := X0.cell rfl
  have K2 : Hid (w1.cell? ⟨w.heap.size, 2, none⟩ = some (.int .i64 m.B.n)) := X0.cell rfl
  have K3 : Hid (w1.cell? ⟨w.heap.size, 3, none⟩ = some (.int .i64 m.B.d)) := X0.cell rfl
  have K4 : Hid (w1.cell? ⟨w.heap.size, 4, none⟩ = some (.int .i64 m.C.n)) := X0.cell rfl
  have K5 : Hid (w1.cell? ⟨w.heap.size, 5, none⟩ = some (.int .i64 m.C.d)) := X0.cell rfl
  have K6 : Hid (w1.cell? ⟨w.heap.size, 6, none⟩ = some (.int .i64 m.D.n)) := X0.cell rfl
  have K7 : Hid (w1.cell? ⟨w.heap.size, 7, none⟩ = some (.int .i64 m.D.d)) := X0.cell rfl
  clear X0
  clear hb
  have c0 := K0.out
  have c1 := K1.out
  have c2 := K2.out
  have c3 := K3.out
  have c4 := K4.out
  have c5 := K5.out
  have c6 := K6.out
  have c7 := K7.out
  go_wp2
  go_ret
  refine ⟨by first | rfl | simp, ?_⟩
  have h := HO.out
  have hsz := h.size
  go_grown
set_option maxHeartbeats 1600000 in
theorem sgood_1 (m : Mx) (w : World) (hA : m.A.ok = true) (hB : m.B.ok = false) : Calls Try.prog 116 #[.agg #[.int .i64 m.A.n, .int .i64 m.A.d, .int .i64 m.B.n, .int .i64 m.B.d, .int .i64 m.C.n, .int .i64 m.C.d, .int .i64 m.D.n, .int .i64 m.D.d]] w fun e w' => e = .returned (.bool false) ∧ Below w.heap.size w w' := by
  have qA := fault_eq m.A.n m.A.d
  rw [show rightB m.A.n m.A.d = m.A.ok from rfl] at qA
  have qB := fault_eq m.B.n m.B.d
  rw [show rightB m.B.n m.B.d = m.B.ok from rfl] at qB
  go_enter Try.func116, Try.ntmps116
  go_wp2_with fail
  refine (sfaultq m.A _).mono ?_
  rintro e w1 ⟨rfl, hb⟩
  have HO : Hid (Below w.heap.size w w1) := by refine box_step ?_ hb (by simp <;> omega); go_grown
  have X0 : Blk w1 (w.heap.size) #[.int .i64 m.A.n, .int .i64 m.A.d, .int .i64 m.B.n, .int .i64 m.B.d, .int .i64 m.C.n, .int .i64 m.C.d, .int .i64 m.D.n, .int .i64 m.D.d] 44 := Blk.old ((Blk.new (by simp))) hb
  have K0 : Hid (w1.cell? ⟨w.heap.size, 0, none⟩ = some (.int .i64 m.A.n)) := X0.cell rfl
  have K1 : Hid (w1.cell? ⟨w.heap.size, 1, none⟩ = some (.int .i64 m.A.d)) := X0.cell rfl
  have K2 : Hid (w1.cell? ⟨w.heap.size, 2, none⟩ = some (.int .i64 m.B.n)) := X0.cell rfl
  have K3 : Hid (w1.cell? ⟨w.heap.size, 3, none⟩ = some (.int .i64 m.B.d)) := X0.cell rfl
  have K4 : Hid (w1.cell? ⟨w.heap.size, 4, none⟩ = some (.int .i64 m.C.n)) := X0.cell rfl
  have K5 : Hid (w1.cell? ⟨w.heap.size, 5, none⟩ = some (.int .i64 m.C.d)) := X0.cell rfl
  have K6 : Hid (w1.cell? ⟨w.heap.size, 6, none⟩ = some (.int .i64 m.D.n)) := X0.cell rfl
  have K7 : Hid (w1.cell? ⟨w.heap.size, 7, none⟩ = some (.int .i64 m.D.d)) := X0.cell rfl
  clear X0
  clear hb
  have c0 := K0.out
  have c1 := K1.out
  have c2 := K2.out
  have c3 := K3.out
  have c4 := K4.out
  have c5 := K5.out
  have c6 := K6.out
  have c7 := K7.out
  go_wp2_with fail
  refine (sfaultq m.B _).mono ?_
  rintro e w2 ⟨rfl, hb⟩
  clear c0 c1 c2 c3 c4 c5 c6 c7
  have HO : Hid (Below w.heap.size w w2) := by have h := HO.out; have hs := h.size; refine box_step ?_ hb (by first | exact hs | (simp <;> omega)); go_grown
  have K8 : Hid (w2.cell? ⟨w.heap.size, 0, none⟩ = some (.int .i64 m.A.n)) := kold hb (K0.out)
  have K9 : Hid (w2.cell? ⟨w.heap.size, 1, none⟩ = some (.int .i64 m.A.d)) := kold hb (K1.out)
  have K10 : Hid (w2.cell? ⟨w.heap.size, 2, none⟩ = some (.int .i64 m.B.n)) := kold hb (K2.out)
  have K11 : Hid (w2.cell? ⟨w.heap.size, 3, none⟩ = some (.int .i64 m.B.d)) := kold hb (K3.out)
  have K12 : Hid (w2.cell? ⟨w.heap.size, 4, none⟩ = some (.int .i64 m.C.n)) := kold hb (K4.out)
  have K13 : Hid (w2.cell? ⟨w.heap.size, 5, none⟩ = some (.int .i64 m.C.d)) := kold hb (K5.out)
  have K14 : Hid (w2.cell? ⟨w.heap.size, 6, none⟩ = some (.int .i64 m.D.n)) := kold hb (K6.out)
  have K15 : Hid (w2.cell? ⟨w.heap.size, 7, none⟩ = some (.int .i64 m.D.d)) := kold hb (K7.out)
  clear K0 K1 K2 K3 K4 K5 K6 K7
  clear hb
  have c0 := K8.out
  have c1 := K9.out
  have c2 := K10.out
  have c3 := K11.out
  have c4 := K12.out
  have c5 := K13.out
  have c6 := K14.out
  have c7 := K15.out
  go_wp2
  go_ret
  refine ⟨by first | rfl | simp, ?_⟩
  have h := HO.out
  have hsz := h.size
  go_grown
set_option maxHeartbeats 1600000 in
theorem sgood_2 (m : Mx) (w : World) (hA : m.A.ok = true) (hB : m.B.ok = true) (hC : m.C.ok = false) : Calls Try.prog 116 #[.agg #[.int .i64 m.A.n, .int .i64 m.A.d, .int .i64 m.B.n, .int .i64 m.B.d, .int .i64 m.C.n, .int .i64 m.C.d, .int .i64 m.D.n, .int .i64 m.D.d]] w fun e w' => e = .returned (.bool false) ∧ Below w.heap.size w w' := by
  have qA := fault_eq m.A.n m.A.d
  rw [show rightB m.A.n m.A.d = m.A.ok from rfl] at qA
  have qB := fault_eq m.B.n m.B.d
  rw [show rightB m.B.n m.B.d = m.B.ok from rfl] at qB
  have qC := fault_eq m.C.n m.C.d
  rw [show rightB m.C.n m.C.d = m.C.ok from rfl] at qC
  go_enter Try.func116, Try.ntmps116
  go_wp2_with fail
  refine (sfaultq m.A _).mono ?_
  rintro e w1 ⟨rfl, hb⟩
  have HO : Hid (Below w.heap.size w w1) := by refine box_step ?_ hb (by simp <;> omega); go_grown
  have X0 : Blk w1 (w.heap.size) #[.int .i64 m.A.n, .int .i64 m.A.d, .int .i64 m.B.n, .int .i64 m.B.d, .int .i64 m.C.n, .int .i64 m.C.d, .int .i64 m.D.n, .int .i64 m.D.d] 44 := Blk.old ((Blk.new (by simp))) hb
  have K0 : Hid (w1.cell? ⟨w.heap.size, 0, none⟩ = some (.int .i64 m.A.n)) := X0.cell rfl
  have K1 : Hid (w1.cell? ⟨w.heap.size, 1, none⟩ = some (.int .i64 m.A.d)) := X0.cell rfl
  have K2 : Hid (w1.cell? ⟨w.heap.size, 2, none⟩ = some (.int .i64 m.B.n)) := X0.cell rfl
  have K3 : Hid (w1.cell? ⟨w.heap.size, 3, none⟩ = some (.int .i64 m.B.d)) := X0.cell rfl
  have K4 : Hid (w1.cell? ⟨w.heap.size, 4, none⟩ = some (.int .i64 m.C.n)) := X0.cell rfl
  have K5 : Hid (w1.cell? ⟨w.heap.size, 5, none⟩ = some (.int .i64 m.C.d)) := X0.cell rfl
  have K6 : Hid (w1.cell? ⟨w.heap.size, 6, none⟩ = some (.int .i64 m.D.n)) := X0.cell rfl
  have K7 : Hid (w1.cell? ⟨w.heap.size, 7, none⟩ = some (.int .i64 m.D.d)) := X0.cell rfl
  clear X0
  clear hb
  have c0 := K0.out
  have c1 := K1.out
  have c2 := K2.out
  have c3 := K3.out
  have c4 := K4.out
  have c5 := K5.out
  have c6 := K6.out
  have c7 := K7.out
  go_wp2_with fail
  refine (sfaultq m.B _).mono ?_
  rintro e w2 ⟨rfl, hb⟩
  clear c0 c1 c2 c3 c4 c5 c6 c7
  have HO : Hid (Below w.heap.size w w2) := by have h := HO.out; have hs := h.size; refine box_step ?_ hb (by first | exact hs | (simp <;> omega)); go_grown
  have K8 : Hid (w2.cell? ⟨w.heap.size, 0, none⟩ = some (.int .i64 m.A.n)) := kold hb (K0.out)
  have K9 : Hid (w2.cell? ⟨w.heap.size, 1, none⟩ = some (.int .i64 m.A.d)) := kold hb (K1.out)
  have K10 : Hid (w2.cell? ⟨w.heap.size, 2, none⟩ = some (.int .i64 m.B.n)) := kold hb (K2.out)
  have K11 : Hid (w2.cell? ⟨w.heap.size, 3, none⟩ = some (.int .i64 m.B.d)) := kold hb (K3.out)
  have K12 : Hid (w2.cell? ⟨w.heap.size, 4, none⟩ = some (.int .i64 m.C.n)) := kold hb (K4.out)
  have K13 : Hid (w2.cell? ⟨w.heap.size, 5, none⟩ = some (.int .i64 m.C.d)) := kold hb (K5.out)
  have K14 : Hid (w2.cell? ⟨w.heap.size, 6, none⟩ = some (.int .i64 m.D.n)) := kold hb (K6.out)
  have K15 : Hid (w2.cell? ⟨w.heap.size, 7, none⟩ = some (.int .i64 m.D.d)) := kold hb (K7.out)
  clear K0 K1 K2 K3 K4 K5 K6 K7
  clear hb
  have c0 := K8.out
  have c1 := K9.out
  have c2 := K10.out
  have c3 := K11.out
  have c4 := K12.out
  have c5 := K13.out
  have c6 := K14.out
  have c7 := K15.out
  go_wp2_with fail
  refine (sfaultq m.C _).mono ?_
  rintro e w3 ⟨rfl, hb⟩
  clear c0 c1 c2 c3 c4 c5 c6 c7
  have HO : Hid (Below w.heap.size w w3) := by have h := HO.out; have hs := h.size; refine box_step ?_ hb (by first | exact hs | (simp <;> omega)); go_grown
  have K16 : Hid (w3.cell? ⟨w.heap.size, 0, none⟩ = some (.int .i64 m.A.n)) := kold hb (K8.out)
  have K17 : Hid (w3.cell? ⟨w.heap.size, 1, none⟩ = some (.int .i64 m.A.d)) := kold hb (K9.out)
  have K18 : Hid (w3.cell? ⟨w.heap.size, 2, none⟩ = some (.int .i64 m.B.n)) := kold hb (K10.out)
  have K19 : Hid (w3.cell? ⟨w.heap.size, 3, none⟩ = some (.int .i64 m.B.d)) := kold hb (K11.out)
  have K20 : Hid (w3.cell? ⟨w.heap.size, 4, none⟩ = some (.int .i64 m.C.n)) := kold hb (K12.out)
  have K21 : Hid (w3.cell? ⟨w.heap.size, 5, none⟩ = some (.int .i64 m.C.d)) := kold hb (K13.out)
  have K22 : Hid (w3.cell? ⟨w.heap.size, 6, none⟩ = some (.int .i64 m.D.n)) := kold hb (K14.out)
  have K23 : Hid (w3.cell? ⟨w.heap.size, 7, none⟩ = some (.int .i64 m.D.d)) := kold hb (K15.out)
  clear K8 K9 K10 K11 K12 K13 K14 K15
  clear hb
  have c0 := K16.out
  have c1 := K17.out
  have c2 := K18.out
  have c3 := K19.out
  have c4 := K20.out
  have c5 := K21.out
  have c6 := K22.out
  have c7 := K23.out
  go_wp2
  go_ret
  refine ⟨by first | rfl | simp, ?_⟩
  have h := HO.out
  have hsz := h.size
  go_grown
set_option maxHeartbeats 1600000 in
theorem sgood_3 (m : Mx) (w : World) (hA : m.A.ok = true) (hB : m.B.ok = true) (hC : m.C.ok = true) : Calls Try.prog 116 #[.agg #[.int .i64 m.A.n, .int .i64 m.A.d, .int .i64 m.B.n, .int .i64 m.B.d, .int .i64 m.C.n, .int .i64 m.C.d, .int .i64 m.D.n, .int .i64 m.D.d]] w fun e w' => e = .returned (.bool m.D.ok) ∧ Below w.heap.size w w' := by
  have qA := fault_eq m.A.n m.A.d
  rw [show rightB m.A.n m.A.d = m.A.ok from rfl] at qA
  have qB := fault_eq m.B.n m.B.d
  rw [show rightB m.B.n m.B.d = m.B.ok from rfl] at qB
  have qC := fault_eq m.C.n m.C.d
  rw [show rightB m.C.n m.C.d = m.C.ok from rfl] at qC
  have qD := fault_eq m.D.n m.D.d
  rw [show rightB m.D.n m.D.d = m.D.ok from rfl] at qD
  go_enter Try.func116, Try.ntmps116
  go_wp2_with fail
  refine (sfaultq m.A _).mono ?_
  rintro e w1 ⟨rfl, hb⟩
  have HO : Hid (Below w.heap.size w w1) := by refine box_step ?_ hb (by simp <;> omega); go_grown
  have X0 : Blk w1 (w.heap.size) #[.int .i64 m.A.n, .int .i64 m.A.d, .int .i64 m.B.n, .int .i64 m.B.d, .int .i64 m.C.n, .int .i64 m.C.d, .int .i64 m.D.n, .int .i64 m.D.d] 44 := Blk.old ((Blk.new (by simp))) hb
  have K0 : Hid (w1.cell? ⟨w.heap.size, 0, none⟩ = some (.int .i64 m.A.n)) := X0.cell rfl
  have K1 : Hid (w1.cell? ⟨w.heap.size, 1, none⟩ = some (.int .i64 m.A.d)) := X0.cell rfl
  have K2 : Hid (w1.cell? ⟨w.heap.size, 2, none⟩ = some (.int .i64 m.B.n)) := X0.cell rfl
  have K3 : Hid (w1.cell? ⟨w.heap.size, 3, none⟩ = some (.int .i64 m.B.d)) := X0.cell rfl
  have K4 : Hid (w1.cell? ⟨w.heap.size, 4, none⟩ = some (.int .i64 m.C.n)) := X0.cell rfl
  have K5 : Hid (w1.cell? ⟨w.heap.size, 5, none⟩ = some (.int .i64 m.C.d)) := X0.cell rfl
  have K6 : Hid (w1.cell? ⟨w.heap.size, 6, none⟩ = some (.int .i64 m.D.n)) := X0.cell rfl
  have K7 : Hid (w1.cell? ⟨w.heap.size, 7, none⟩ = some (.int .i64 m.D.d)) := X0.cell rfl
  clear X0
  clear hb
  have c0 := K0.out
  have c1 := K1.out
  have c2 := K2.out
  have c3 := K3.out
  have c4 := K4.out
  have c5 := K5.out
  have c6 := K6.out
  have c7 := K7.out
  go_wp2_with fail
  refine (sfaultq m.B _).mono ?_
  rintro e w2 ⟨rfl, hb⟩
  clear c0 c1 c2 c3 c4 c5 c6 c7
  have HO : Hid (Below w.heap.size w w2) := by have h := HO.out; have hs := h.size; refine box_step ?_ hb (by first | exact hs | (simp <;> omega)); go_grown
  have K8 : Hid (w2.cell? ⟨w.heap.size, 0, none⟩ = some (.int .i64 m.A.n)) := kold hb (K0.out)
  have K9 : Hid (w2.cell? ⟨w.heap.size, 1, none⟩ = some (.int .i64 m.A.d)) := kold hb (K1.out)
  have K10 : Hid (w2.cell? ⟨w.heap.size, 2, none⟩ = some (.int .i64 m.B.n)) := kold hb (K2.out)
  have K11 : Hid (w2.cell? ⟨w.heap.size, 3, none⟩ = some (.int .i64 m.B.d)) := kold hb (K3.out)
  have K12 : Hid (w2.cell? ⟨w.heap.size, 4, none⟩ = some (.int .i64 m.C.n)) := kold hb (K4.out)
  have K13 : Hid (w2.cell? ⟨w.heap.size, 5, none⟩ = some (.int .i64 m.C.d)) := kold hb (K5.out)
  have K14 : Hid (w2.cell? ⟨w.heap.size, 6, none⟩ = some (.int .i64 m.D.n)) := kold hb (K6.out)
  have K15 : Hid (w2.cell? ⟨w.heap.size, 7, none⟩ = some (.int .i64 m.D.d)) := kold hb (K7.out)
  clear K0 K1 K2 K3 K4 K5 K6 K7
  clear hb
  have c0 := K8.out
  have c1 := K9.out
  have c2 := K10.out
  have c3 := K11.out
  have c4 := K12.out
  have c5 := K13.out
  have c6 := K14.out
  have c7 := K15.out
  go_wp2_with fail
  refine (sfaultq m.C _).mono ?_
  rintro e w3 ⟨rfl, hb⟩
  clear c0 c1 c2 c3 c4 c5 c6 c7
  have HO : Hid (Below w.heap.size w w3) := by have h := HO.out; have hs := h.size; refine box_step ?_ hb (by first | exact hs | (simp <;> omega)); go_grown
  have K16 : Hid (w3.cell? ⟨w.heap.size, 0, none⟩ = some (.int .i64 m.A.n)) := kold hb (K8.out)
  have K17 : Hid (w3.cell? ⟨w.heap.size, 1, none⟩ = some (.int .i64 m.A.d)) := kold hb (K9.out)
  have K18 : Hid (w3.cell? ⟨w.heap.size, 2, none⟩ = some (.int .i64 m.B.n)) := kold hb (K10.out)
  have K19 : Hid (w3.cell? ⟨w.heap.size, 3, none⟩ = some (.int .i64 m.B.d)) := kold hb (K11.out)
  have K20 : Hid (w3.cell? ⟨w.heap.size, 4, none⟩ = some (.int .i64 m.C.n)) := kold hb (K12.out)
  have K21 : Hid (w3.cell? ⟨w.heap.size, 5, none⟩ = some (.int .i64 m.C.d)) := kold hb (K13.out)
  have K22 : Hid (w3.cell? ⟨w.heap.size, 6, none⟩ = some (.int .i64 m.D.n)) := kold hb (K14.out)
  have K23 : Hid (w3.cell? ⟨w.heap.size, 7, none⟩ = some (.int .i64 m.D.d)) := kold hb (K15.out)
  clear K8 K9 K10 K11 K12 K13 K14 K15
  clear hb
  have c0 := K16.out
  have c1 := K17.out
  have c2 := K18.out
  have c3 := K19.out
  have c4 := K20.out
  have c5 := K21.out
  have c6 := K22.out
  have c7 := K23.out
  go_wp2_with fail
  refine (sfaultq m.D _).mono ?_
  rintro e w4 ⟨rfl, hb⟩
  clear c0 c1 c2 c3 c4 c5 c6 c7
  have HO : Hid (Below w.heap.size w w4) := by have h := HO.out; have hs := h.size; refine box_step ?_ hb (by first | exact hs | (simp <;> omega)); go_grown
  have K24 : Hid (w4.cell? ⟨w.heap.size, 0, none⟩ = some (.int .i64 m.A.n)) := kold hb (K16.out)
  have K25 : Hid (w4.cell? ⟨w.heap.size, 1, none⟩ = some (.int .i64 m.A.d)) := kold hb (K17.out)
  have K26 : Hid (w4.cell? ⟨w.heap.size, 2, none⟩ = some (.int .i64 m.B.n)) := kold hb (K18.out)
  have K27 : Hid (w4.cell? ⟨w.heap.size, 3, none⟩ = some (.int .i64 m.B.d)) := kold hb (K19.out)
  have K28 : Hid (w4.cell? ⟨w.heap.size, 4, none⟩ = some (.int .i64 m.C.n)) := kold hb (K20.out)
  have K29 : Hid (w4.cell? ⟨w.heap.size, 5, none⟩ = some (.int .i64 m.C.d)) := kold hb (K21.out)
  have K30 : Hid (w4.cell? ⟨w.heap.size, 6, none⟩ = some (.int .i64 m.D.n)) := kold hb (K22.out)
  have K31 : Hid (w4.cell? ⟨w.heap.size, 7, none⟩ = some (.int .i64 m.D.d)) := kold hb (K23.out)
  clear K16 K17 K18 K19 K20 K21 K22 K23
  clear hb
  have c0 := K24.out
  have c1 := K25.out
  have c2 := K26.out
  have c3 := K27.out
  have c4 := K28.out
  have c5 := K29.out
  have c6 := K30.out
  have c7 := K31.out
  go_wp2
  go_ret
  refine ⟨by first | rfl | simp, ?_⟩
  have h := HO.out
  have hsz := h.size
  go_grown
theorem sgood (m : Mx) (w : World) : Calls Try.prog 116 #[.agg #[.int .i64 m.A.n, .int .i64 m.A.d, .int .i64 m.B.n, .int .i64 m.B.d, .int .i64 m.C.n, .int .i64 m.C.d, .int .i64 m.D.n, .int .i64 m.D.d]] w fun e w' => e = .returned (.bool m.ok) ∧ Below w.heap.size w w' := by
  unfold Mx.ok
  cases hA : m.A.ok
  · exact sgood_0 m w hA
  cases hB : m.B.ok
  · exact sgood_1 m w hA hB
  cases hC : m.C.ok
  · exact sgood_2 m w hA hB hC
  · have := sgood_3 m w hA hB hC
    simpa using this
/-- What two systems joined come to: the code, and the four fractions. -/
def jKA (a b : Mx) : Bool := twK b.A a.A b.B a.C
def jQA (a b : Mx) : Q := twQ b.A a.A b.B a.C
def jKB (a b : Mx) : Bool := twK b.A a.B b.B a.D
def jQB (a b : Mx) : Q := twQ b.A a.B b.B a.D
def jKC (a b : Mx) : Bool := twK b.C a.A b.D a.C
def jQC (a b : Mx) : Q := twQ b.C a.A b.D a.C
def jKD (a b : Mx) : Bool := twK b.C a.B b.D a.D
def jQD (a b : Mx) : Q := twQ b.C a.B b.D a.D
def jC (a b : Mx) : Int := if (a.ok && b.ok) = true then (if (jKA a b && jKB a b && jKC a b && jKD a b) = true then 0 else 3) else 1
set_option maxHeartbeats 1600000 in
theorem sjoin_0 (a b : Mx) (w : World) (ha : a.ok = false) : Calls Try.prog 78 #[.agg #[.int .i64 a.A.n, .int .i64 a.A.d, .int .i64 a.B.n, .int .i64 a.B.d, .int .i64 a.C.n, .int .i64 a.C.d, .int .i64 a.D.n, .int .i64 a.D.d], .agg #[.int .i64 b.A.n, .int .i64 b.A.d, .int .i64 b.B.n, .int .i64 b.B.d, .int .i64 b.C.n, .int .i64 b.C.d, .int .i64 b.D.n, .int .i64 b.D.d]] w fun e w' => e = .returned (.agg #[.int .i64 1, .int .i64 0, .int .i64 0, .int .i64 0, .int .i64 0, .int .i64 0, .int .i64 0, .int .i64 0, .int .i64 0]) ∧ Below w.heap.size w w' := by
  go_enter Try.func78, Try.ntmps78
  go_wp2_with fail
  refine (sgood a _).mono ?_
  rintro e w1 ⟨rfl, hb⟩
  have HO : Hid (Below w.heap.size w w1) := by refine box_step ?_ hb (by simp <;> omega); go_grown
  have X0 : Blk w1 (w.heap.size) #[.int .i64 a.A.n, .int .i64 a.A.d, .int .i64 a.B.n, .int .i64 a.B.d, .int .i64 a.C.n, .int .i64 a.C.d, .int .i64 a.D.n, .int .i64 a.D.d] 44 := Blk.old ((Blk.alloc (Blk.alloc (Blk.new (by simp)) _) _)) hb
  have K0 : Hid (w1.cell? ⟨w.heap.size, 0, none⟩ = some (.int .i64 a.A.n)) := X0.cell rfl
  have K1 : Hid (w1.cell? ⟨w.heap.size, 1, none⟩ = some (.int .i64 a.A.d)) := X0.cell rfl
  have K2 : Hid (w1.cell? ⟨w.heap.size, 2, none⟩ = some (.int .i64 a.B.n)) := X0.cell rfl
  have K3 : Hid (w1.cell? ⟨w.heap.size, 3, none⟩ = some (.int .i64 a.B.d)) := X0.cell rfl
  have K4 : Hid (w1.cell? ⟨w.heap.size, 4, none⟩ = some (.int .i64 a.C.n)) := X0.cell rfl
  have K5 : Hid (w1.cell? ⟨w.heap.size, 5, none⟩ = some (.int .i64 a.C.d)) := X0.cell rfl
  have K6 : Hid (w1.cell? ⟨w.heap.size, 6, none⟩ = some (.int .i64 a.D.n)) := X0.cell rfl
  have K7 : Hid (w1.cell? ⟨w.heap.size, 7, none⟩ = some (.int .i64 a.D.d)) := X0.cell rfl
  clear X0
  have X1 : Blk w1 (w.heap.size + 1) #[.int .i64 b.A.n, .int .i64 b.A.d, .int .i64 b.B.n, .int .i64 b.B.d, .int .i64 b.C.n, .int .i64 b.C.d, .int .i64 b.D.n, .int .i64 b.D.d] 44 := Blk.old ((Blk.alloc (Blk.new (by simp)) _)) hb
  have K8 : Hid (w1.cell? ⟨w.heap.size + 1, 0, none⟩ = some (.int .i64 b.A.n)) := X1.cell rfl
  have K9 : Hid (w1.cell? ⟨w.heap.size + 1, 1, none⟩ = some (.int .i64 b.A.d)) := X1.cell rfl
  have K10 : Hid (w1.cell? ⟨w.heap.size + 1, 2, none⟩ = some (.int .i64 b.B.n)) := X1.cell rfl
  have K11 : Hid (w1.cell? ⟨w.heap.size + 1, 3, none⟩ = some (.int .i64 b.B.d)) := X1.cell rfl
  have K12 : Hid (w1.cell? ⟨w.heap.size + 1, 4, none⟩ = some (.int .i64 b.C.n)) := X1.cell rfl
  have K13 : Hid (w1.cell? ⟨w.heap.size + 1, 5, none⟩ = some (.int .i64 b.C.d)) := X1.cell rfl
  have K14 : Hid (w1.cell? ⟨w.heap.size + 1, 6, none⟩ = some (.int .i64 b.D.n)) := X1.cell rfl
  have K15 : Hid (w1.cell? ⟨w.heap.size + 1, 7, none⟩ = some (.int .i64 b.D.d)) := X1.cell rfl
  clear X1
  have RB : Hid (Blk w1 (w.heap.size + 1 + 1) #[.int .i64 0, .int .i64 0, .int .i64 0, .int .i64 0, .int .i64 0, .int .i64 0, .int .i64 0, .int .i64 0, .int .i64 0] 46) := Blk.old (Blk.new (by simp)) hb
  clear hb
  have r0 := RB.out.cell (j := 0) rfl
  have r1 := RB.out.cell (j := 1) rfl
  have r2 := RB.out.cell (j := 2) rfl
  have r3 := RB.out.cell (j := 3) rfl
  have r4 := RB.out.cell (j := 4) rfl
  have r5 := RB.out.cell (j := 5) rfl
  have r6 := RB.out.cell (j := 6) rfl
  have r7 := RB.out.cell (j := 7) rfl
  have r8 := RB.out.cell (j := 8) rfl
  have rf := RB.out.frozen
  go_wp2
  refine bodyPost_ret (v := .agg #[.int .i64 1, .int .i64 0, .int .i64 0, .int .i64 0, .int .i64 0, .int .i64 0, .int .i64 0, .int .i64 0, .int .i64 0]) (by simp [results, Try.results78, go_sem, r0, r1, r2, r3, r4, r5, r6, r7, r8, World.cell?_alloc_lt, RB.out.lt] <;> (repeat' (first | rfl | apply And.intro))) rfl ⟨rfl, ?_⟩
  have h := HO.out
  have hlt := RB.out.lt
  have hsz := h.size
  go_grown
set_option maxHeartbeats 1600000 in
theorem sjoin_1 (a b : Mx) (w : World) (ha : a.ok = true) (hb0 : b.ok = false) : Calls Try.prog 78 #[.agg #[.int .i64 a.A.n, .int .i64 a.A.d, .int .i64 a.B.n, .int .i64 a.B.d, .int .i64 a.C.n, .int .i64 a.C.d, .int .i64 a.D.n, .int .i64 a.D.d], .agg #[.int .i64 b.A.n, .int .i64 b.A.d, .int .i64 b.B.n, .int .i64 b.B.d, .int .i64 b.C.n, .int .i64 b.C.d, .int .i64 b.D.n, .int .i64 b.D.d]] w fun e w' => e = .returned (.agg #[.int .i64 1, .int .i64 0, .int .i64 0, .int .i64 0, .int .i64 0, .int .i64 0, .int .i64 0, .int .i64 0, .int .i64 0]) ∧ Below w.heap.size w w' := by
  go_enter Try.func78, Try.ntmps78
  go_wp2_with fail
  refine (sgood a _).mono ?_
  rintro e w1 ⟨rfl, hb⟩
  have HO : Hid (Below w.heap.size w w1) := by refine box_step ?_ hb (by simp <;> omega); go_grown
  have X0 : Blk w1 (w.heap.size) #[.int .i64 a.A.n, .int .i64 a.A.d, .int .i64 a.B.n, .int .i64 a.B.d, .int .i64 a.C.n, .int .i64 a.C.d, .int .i64 a.D.n, .int .i64 a.D.d] 44 := Blk.old ((Blk.alloc (Blk.alloc (Blk.new (by simp)) _) _)) hb
  have K0 : Hid (w1.cell? ⟨w.heap.size, 0, none⟩ = some (.int .i64 a.A.n)) := X0.cell rfl
  have K1 : Hid (w1.cell? ⟨w.heap.size, 1, none⟩ = some (.int .i64 a.A.d)) := X0.cell rfl
  have K2 : Hid (w1.cell? ⟨w.heap.size, 2, none⟩ = some (.int .i64 a.B.n)) := X0.cell rfl
  have K3 : Hid (w1.cell? ⟨w.heap.size, 3, none⟩ = some (.int .i64 a.B.d)) := X0.cell rfl
  have K4 : Hid (w1.cell? ⟨w.heap.size, 4, none⟩ = some (.int .i64 a.C.n)) := X0.cell rfl
  have K5 : Hid (w1.cell? ⟨w.heap.size, 5, none⟩ = some (.int .i64 a.C.d)) := X0.cell rfl
  have K6 : Hid (w1.cell? ⟨w.heap.size, 6, none⟩ = some (.int .i64 a.D.n)) := X0.cell rfl
  have K7 : Hid (w1.cell? ⟨w.heap.size, 7, none⟩ = some (.int .i64 a.D.d)) := X0.cell rfl
  clear X0
  have X1 : Blk w1 (w.heap.size + 1) #[.int .i64 b.A.n, .int .i64 b.A.d, .int .i64 b.B.n, .int .i64 b.B.d, .int .i64 b.C.n, .int .i64 b.C.d, .int .i64 b.D.n, .int .i64 b.D.d] 44 := Blk.old ((Blk.alloc (Blk.new (by simp)) _)) hb
  have K8 : Hid (w1.cell? ⟨w.heap.size + 1, 0, none⟩ = some (.int .i64 b.A.n)) := X1.cell rfl
  have K9 : Hid (w1.cell? ⟨w.heap.size + 1, 1, none⟩ = some (.int .i64 b.A.d)) := X1.cell rfl
  have K10 : Hid (w1.cell? ⟨w.heap.size + 1, 2, none⟩ = some (.int .i64 b.B.n)) := X1.cell rfl
  have K11 : Hid (w1.cell? ⟨w.heap.size + 1, 3, none⟩ = some (.int .i64 b.B.d)) := X1.cell rfl
  have K12 : Hid (w1.cell? ⟨w.heap.size + 1, 4, none⟩ = some (.int .i64 b.C.n)) := X1.cell rfl
  have K13 : Hid (w1.cell? ⟨w.heap.size + 1, 5, none⟩ = some (.int .i64 b.C.d)) := X1.cell rfl
  have K14 : Hid (w1.cell? ⟨w.heap.size + 1, 6, none⟩ = some (.int .i64 b.D.n)) := X1.cell rfl
  have K15 : Hid (w1.cell? ⟨w.heap.size + 1, 7, none⟩ = some (.int .i64 b.D.d)) := X1.cell rfl
  clear X1
  have RB : Hid (Blk w1 (w.heap.size + 1 + 1) #[.int .i64 0, .int .i64 0, .int .i64 0, .int .i64 0, .int .i64 0, .int .i64 0, .int .i64 0, .int .i64 0, .int .i64 0] 46) := Blk.old (Blk.new (by simp)) hb
  clear hb
  have c0 := K0.out
  have c1 := K1.out
  have c2 := K2.out
  have c3 := K3.out
  have c4 := K4.out
  have c5 := K5.out
  have c6 := K6.out
  have c7 := K7.out
  have c8 := K8.out
  have c9 := K9.out
  have c10 := K10.out
  have c11 := K11.out
  have c12 := K12.out
  have c13 := K13.out
  have c14 := K14.out
  have c15 := K15.out
  have r0 := RB.out.cell (j := 0) rfl
  have r1 := RB.out.cell (j := 1) rfl
  have r2 := RB.out.cell (j := 2) rfl
  have r3 := RB.out.cell (j := 3) rfl
  have r4 := RB.out.cell (j := 4) rfl
  have r5 := RB.out.cell (j := 5) rfl
  have r6 := RB.out.cell (j := 6) rfl
  have r7 := RB.out.cell (j := 7) rfl
  have r8 := RB.out.cell (j := 8) rfl
  have rf := RB.out.frozen
  go_wp2_with fail
  refine (sgood b _).mono ?_
  rintro e w2 ⟨rfl, hb⟩
  clear c0 c1 c2 c3 c4 c5 c6 c7 c8 c9 c10 c11 c12 c13 c14 c15 r0 r1 r2 r3 r4 r5 r6 r7 r8 rf
  have HO : Hid (Below w.heap.size w w2) := by have h := HO.out; have hs := h.size; refine box_step ?_ hb (by first | exact hs | (simp <;> omega)); go_grown
  have RB : Hid (Blk w2 (w.heap.size + 1 + 1) #[.int .i64 0, .int .i64 0, .int .i64 0, .int .i64 0, .int .i64 0, .int .i64 0, .int .i64 0, .int .i64 0, .int .i64 0] 46) := Blk.old (RB.out) hb
  have K16 : Hid (w2.cell? ⟨w.heap.size, 0, none⟩ = some (.int .i64 a.A.n)) := kold hb (K0.out)
  have K17 : Hid (w2.cell? ⟨w.heap.size, 1, none⟩ = some (.int .i64 a.A.d)) := kold hb (K1.out)
  have K18 : Hid (w2.cell? ⟨w.heap.size, 2, none⟩ = some (.int .i64 a.B.n)) := kold hb (K2.out)
  have K19 : Hid (w2.cell? ⟨w.heap.size, 3, none⟩ = some (.int .i64 a.B.d)) := kold hb (K3.out)
  have K20 : Hid (w2.cell? ⟨w.heap.size, 4, none⟩ = some (.int .i64 a.C.n)) := kold hb (K4.out)
  have K21 : Hid (w2.cell? ⟨w.heap.size, 5, none⟩ = some (.int .i64 a.C.d)) := kold hb (K5.out)
  have K22 : Hid (w2.cell? ⟨w.heap.size, 6, none⟩ = some (.int .i64 a.D.n)) := kold hb (K6.out)
  have K23 : Hid (w2.cell? ⟨w.heap.size, 7, none⟩ = some (.int .i64 a.D.d)) := kold hb (K7.out)
  have K24 : Hid (w2.cell? ⟨w.heap.size + 1, 0, none⟩ = some (.int .i64 b.A.n)) := kold hb (K8.out)
  have K25 : Hid (w2.cell? ⟨w.heap.size + 1, 1, none⟩ = some (.int .i64 b.A.d)) := kold hb (K9.out)
  have K26 : Hid (w2.cell? ⟨w.heap.size + 1, 2, none⟩ = some (.int .i64 b.B.n)) := kold hb (K10.out)
  have K27 : Hid (w2.cell? ⟨w.heap.size + 1, 3, none⟩ = some (.int .i64 b.B.d)) := kold hb (K11.out)
  have K28 : Hid (w2.cell? ⟨w.heap.size + 1, 4, none⟩ = some (.int .i64 b.C.n)) := kold hb (K12.out)
  have K29 : Hid (w2.cell? ⟨w.heap.size + 1, 5, none⟩ = some (.int .i64 b.C.d)) := kold hb (K13.out)
  have K30 : Hid (w2.cell? ⟨w.heap.size + 1, 6, none⟩ = some (.int .i64 b.D.n)) := kold hb (K14.out)
  have K31 : Hid (w2.cell? ⟨w.heap.size + 1, 7, none⟩ = some (.int .i64 b.D.d)) := kold hb (K15.out)
  clear K0 K1 K2 K3 K4 K5 K6 K7 K8 K9 K10 K11 K12 K13 K14 K15
  clear hb
  have r0 := RB.out.cell (j := 0) rfl
  have r1 := RB.out.cell (j := 1) rfl
  have r2 := RB.out.cell (j := 2) rfl
  have r3 := RB.out.cell (j := 3) rfl
  have r4 := RB.out.cell (j := 4) rfl
  have r5 := RB.out.cell (j := 5) rfl
  have r6 := RB.out.cell (j := 6) rfl
  have r7 := RB.out.cell (j := 7) rfl
  have r8 := RB.out.cell (j := 8) rfl
  have rf := RB.out.frozen
  go_wp2
  refine bodyPost_ret (v := .agg #[.int .i64 1, .int .i64 0, .int .i64 0, .int .i64 0, .int .i64 0, .int .i64 0, .int .i64 0, .int .i64 0, .int .i64 0]) (by simp [results, Try.results78, go_sem, r0, r1, r2, r3, r4, r5, r6, r7, r8, World.cell?_alloc_lt, RB.out.lt] <;> (repeat' (first | rfl | apply And.intro))) rfl ⟨rfl, ?_⟩
  have h := HO.out
  have hlt := RB.out.lt
  have hsz := h.size
  go_grown
set_option maxHeartbeats 1600000 in
theorem sjoin_2 (a b : Mx) (w : World) (ha : a.ok = true) (hb0 : b.ok = true) : Calls Try.prog 78 #[.agg #[.int .i64 a.A.n, .int .i64 a.A.d, .int .i64 a.B.n, .int .i64 a.B.d, .int .i64 a.C.n, .int .i64 a.C.d, .int .i64 a.D.n, .int .i64 a.D.d], .agg #[.int .i64 b.A.n, .int .i64 b.A.d, .int .i64 b.B.n, .int .i64 b.B.d, .int .i64 b.C.n, .int .i64 b.C.d, .int .i64 b.D.n, .int .i64 b.D.d]] w fun e w' => e = .returned (.agg #[.int .i64 (jC a b), .int .i64 (sel (jC a b) (jQA a b)).n, .int .i64 (sel (jC a b) (jQA a b)).d, .int .i64 (sel (jC a b) (jQB a b)).n, .int .i64 (sel (jC a b) (jQB a b)).d, .int .i64 (sel (jC a b) (jQC a b)).n, .int .i64 (sel (jC a b) (jQC a b)).d, .int .i64 (sel (jC a b) (jQD a b)).n, .int .i64 (sel (jC a b) (jQD a b)).d]) ∧ Below w.heap.size w w' := by
  go_enter Try.func78, Try.ntmps78
  go_wp2_with fail
  refine (sgood a _).mono ?_
  rintro e w1 ⟨rfl, hb⟩
  have HO : Hid (Below w.heap.size w w1) := by refine box_step ?_ hb (by simp <;> omega); go_grown
  have X0 : Blk w1 (w.heap.size) #[.int .i64 a.A.n, .int .i64 a.A.d, .int .i64 a.B.n, .int .i64 a.B.d, .int .i64 a.C.n, .int .i64 a.C.d, .int .i64 a.D.n, .int .i64 a.D.d] 44 := Blk.old ((Blk.alloc (Blk.alloc (Blk.new (by simp)) _) _)) hb
  have K0 : Hid (w1.cell? ⟨w.heap.size, 0, none⟩ = some (.int .i64 a.A.n)) := X0.cell rfl
  have K1 : Hid (w1.cell? ⟨w.heap.size, 1, none⟩ = some (.int .i64 a.A.d)) := X0.cell rfl
  have K2 : Hid (w1.cell? ⟨w.heap.size, 2, none⟩ = some (.int .i64 a.B.n)) := X0.cell rfl
  have K3 : Hid (w1.cell? ⟨w.heap.size, 3, none⟩ = some (.int .i64 a.B.d)) := X0.cell rfl
  have K4 : Hid (w1.cell? ⟨w.heap.size, 4, none⟩ = some (.int .i64 a.C.n)) := X0.cell rfl
  have K5 : Hid (w1.cell? ⟨w.heap.size, 5, none⟩ = some (.int .i64 a.C.d)) := X0.cell rfl
  have K6 : Hid (w1.cell? ⟨w.heap.size, 6, none⟩ = some (.int .i64 a.D.n)) := X0.cell rfl
  have K7 : Hid (w1.cell? ⟨w.heap.size, 7, none⟩ = some (.int .i64 a.D.d)) := X0.cell rfl
  clear X0
  have X1 : Blk w1 (w.heap.size + 1) #[.int .i64 b.A.n, .int .i64 b.A.d, .int .i64 b.B.n, .int .i64 b.B.d, .int .i64 b.C.n, .int .i64 b.C.d, .int .i64 b.D.n, .int .i64 b.D.d] 44 := Blk.old ((Blk.alloc (Blk.new (by simp)) _)) hb
  have K8 : Hid (w1.cell? ⟨w.heap.size + 1, 0, none⟩ = some (.int .i64 b.A.n)) := X1.cell rfl
  have K9 : Hid (w1.cell? ⟨w.heap.size + 1, 1, none⟩ = some (.int .i64 b.A.d)) := X1.cell rfl
  have K10 : Hid (w1.cell? ⟨w.heap.size + 1, 2, none⟩ = some (.int .i64 b.B.n)) := X1.cell rfl
  have K11 : Hid (w1.cell? ⟨w.heap.size + 1, 3, none⟩ = some (.int .i64 b.B.d)) := X1.cell rfl
  have K12 : Hid (w1.cell? ⟨w.heap.size + 1, 4, none⟩ = some (.int .i64 b.C.n)) := X1.cell rfl
  have K13 : Hid (w1.cell? ⟨w.heap.size + 1, 5, none⟩ = some (.int .i64 b.C.d)) := X1.cell rfl
  have K14 : Hid (w1.cell? ⟨w.heap.size + 1, 6, none⟩ = some (.int .i64 b.D.n)) := X1.cell rfl
  have K15 : Hid (w1.cell? ⟨w.heap.size + 1, 7, none⟩ = some (.int .i64 b.D.d)) := X1.cell rfl
  clear X1
  have RB : Hid (Blk w1 (w.heap.size + 1 + 1) #[.int .i64 0, .int .i64 0, .int .i64 0, .int .i64 0, .int .i64 0, .int .i64 0, .int .i64 0, .int .i64 0, .int .i64 0] 46) := Blk.old (Blk.new (by simp)) hb
  clear hb
  have c8 := K8.out
  have c9 := K9.out
  have c10 := K10.out
  have c11 := K11.out
  have c12 := K12.out
  have c13 := K13.out
  have c14 := K14.out
  have c15 := K15.out
  have r0 := RB.out.cell (j := 0) rfl
  have r1 := RB.out.cell (j := 1) rfl
  have r2 := RB.out.cell (j := 2) rfl
  have r3 := RB.out.cell (j := 3) rfl
  have r4 := RB.out.cell (j := 4) rfl
  have r5 := RB.out.cell (j := 5) rfl
  have r6 := RB.out.cell (j := 6) rfl
  have r7 := RB.out.cell (j := 7) rfl
  have r8 := RB.out.cell (j := 8) rfl
  have rf := RB.out.frozen
  go_wp2_with fail
  refine (sgood b _).mono ?_
  rintro e w2 ⟨rfl, hb⟩
  clear c8 c9 c10 c11 c12 c13 c14 c15 r0 r1 r2 r3 r4 r5 r6 r7 r8 rf
  have HO : Hid (Below w.heap.size w w2) := by have h := HO.out; have hs := h.size; refine box_step ?_ hb (by first | exact hs | (simp <;> omega)); go_grown
  have RB : Hid (Blk w2 (w.heap.size + 1 + 1) #[.int .i64 0, .int .i64 0, .int .i64 0, .int .i64 0, .int .i64 0, .int .i64 0, .int .i64 0, .int .i64 0, .int .i64 0] 46) := Blk.old (RB.out) hb
  have K16 : Hid (w2.cell? ⟨w.heap.size, 0, none⟩ = some (.int .i64 a.A.n)) := kold hb (K0.out)
  have K17 : Hid (w2.cell? ⟨w.heap.size, 1, none⟩ = some (.int .i64 a.A.d)) := kold hb (K1.out)
  have K18 : Hid (w2.cell? ⟨w.heap.size, 2, none⟩ = some (.int .i64 a.B.n)) := kold hb (K2.out)
  have K19 : Hid (w2.cell? ⟨w.heap.size, 3, none⟩ = some (.int .i64 a.B.d)) := kold hb (K3.out)
  have K20 : Hid (w2.cell? ⟨w.heap.size, 4, none⟩ = some (.int .i64 a.C.n)) := kold hb (K4.out)
  have K21 : Hid (w2.cell? ⟨w.heap.size, 5, none⟩ = some (.int .i64 a.C.d)) := kold hb (K5.out)
  have K22 : Hid (w2.cell? ⟨w.heap.size, 6, none⟩ = some (.int .i64 a.D.n)) := kold hb (K6.out)
  have K23 : Hid (w2.cell? ⟨w.heap.size, 7, none⟩ = some (.int .i64 a.D.d)) := kold hb (K7.out)
  have K24 : Hid (w2.cell? ⟨w.heap.size + 1, 0, none⟩ = some (.int .i64 b.A.n)) := kold hb (K8.out)
  have K25 : Hid (w2.cell? ⟨w.heap.size + 1, 1, none⟩ = some (.int .i64 b.A.d)) := kold hb (K9.out)
  have K26 : Hid (w2.cell? ⟨w.heap.size + 1, 2, none⟩ = some (.int .i64 b.B.n)) := kold hb (K10.out)
  have K27 : Hid (w2.cell? ⟨w.heap.size + 1, 3, none⟩ = some (.int .i64 b.B.d)) := kold hb (K11.out)
  have K28 : Hid (w2.cell? ⟨w.heap.size + 1, 4, none⟩ = some (.int .i64 b.C.n)) := kold hb (K12.out)
  have K29 : Hid (w2.cell? ⟨w.heap.size + 1, 5, none⟩ = some (.int .i64 b.C.d)) := kold hb (K13.out)
  have K30 : Hid (w2.cell? ⟨w.heap.size + 1, 6, none⟩ = some (.int .i64 b.D.n)) := kold hb (K14.out)
  have K31 : Hid (w2.cell? ⟨w.heap.size + 1, 7, none⟩ = some (.int .i64 b.D.d)) := kold hb (K15.out)
  clear K0 K1 K2 K3 K4 K5 K6 K7 K8 K9 K10 K11 K12 K13 K14 K15
  clear hb
  go_upto_region 3 with fail
  go_cut [5] (fun p wx => ∃ k : Nat, p = .pointer (some ⟨k, 0, none⟩) ∧ w2.heap.size ≤ k ∧ k < wx.heap.size ∧ Below w2.heap.size w2 wx ∧ wx.cell? ⟨k, 0, none⟩ = some (.bool (twK b.A a.A b.B a.C)) ∧ wx.cell? ⟨k, 1, none⟩ = some (.int .i64 (twQ b.A a.A b.B a.C).n) ∧ wx.cell? ⟨k, 2, none⟩ = some (.int .i64 (twQ b.A a.A b.B a.C).d))
  case first =>
    have c0 := K16.out
    have c1 := K17.out
    have c2 := K18.out
    have c3 := K19.out
    have c4 := K20.out
    have c5 := K21.out
    have c6 := K22.out
    have c7 := K23.out
    have c8 := K24.out
    have c9 := K25.out
    have c10 := K26.out
    have c11 := K27.out
    have c12 := K28.out
    have c13 := K29.out
    have c14 := K30.out
    have c15 := K31.out
    go_wp2_with fail
    refine (stwo b.A a.A b.B a.C _).mono ?_
    rintro e w1 ⟨rfl, hb⟩
    have hs := hb.size
    clear c0 c1 c2 c3 c4 c5 c6 c7 c8 c9 c10 c11 c12 c13 c14 c15
    go_wp2
    go_meet
    case rel =>
      refine ⟨_, rfl, ?_, ?_, ?_, ?_, ?_, ?_⟩
      · first | exact hs | omega
      · simp
      · go_grown
      · go_simp
      · go_simp
      · go_simp
  case rest =>
    obtain ⟨b3, rfl, hk1, hk2, hB, d0, d1, d2⟩ := hcut
    obtain ⟨w3, hv⟩ : ∃ v, v = wc := ⟨_, rfl⟩
    subst hv
    have HO : Hid (Below w.heap.size w w3) := box_step HO.out hB (by first | exact Nat.le_refl _ | exact HO.out.size)
    have RB : Hid (Blk w3 (w.heap.size + 1 + 1) #[.int .i64 0, .int .i64 0, .int .i64 0, .int .i64 0, .int .i64 0, .int .i64 0, .int .i64 0, .int .i64 0, .int .i64 0] 46) := Blk.old RB.out hB
    have K32 : Hid (w3.cell? ⟨w.heap.size, 0, none⟩ = some (.int .i64 a.A.n)) := kold hB (K16.out)
    have K33 : Hid (w3.cell? ⟨w.heap.size, 1, none⟩ = some (.int .i64 a.A.d)) := kold hB (K17.out)
    have K34 : Hid (w3.cell? ⟨w.heap.size, 2, none⟩ = some (.int .i64 a.B.n)) := kold hB (K18.out)
    have K35 : Hid (w3.cell? ⟨w.heap.size, 3, none⟩ = some (.int .i64 a.B.d)) := kold hB (K19.out)
    have K36 : Hid (w3.cell? ⟨w.heap.size, 4, none⟩ = some (.int .i64 a.C.n)) := kold hB (K20.out)
    have K37 : Hid (w3.cell? ⟨w.heap.size, 5, none⟩ = some (.int .i64 a.C.d)) := kold hB (K21.out)
    have K38 : Hid (w3.cell? ⟨w.heap.size, 6, none⟩ = some (.int .i64 a.D.n)) := kold hB (K22.out)
    have K39 : Hid (w3.cell? ⟨w.heap.size, 7, none⟩ = some (.int .i64 a.D.d)) := kold hB (K23.out)
    have K40 : Hid (w3.cell? ⟨w.heap.size + 1, 0, none⟩ = some (.int .i64 b.A.n)) := kold hB (K24.out)
    have K41 : Hid (w3.cell? ⟨w.heap.size + 1, 1, none⟩ = some (.int .i64 b.A.d)) := kold hB (K25.out)
    have K42 : Hid (w3.cell? ⟨w.heap.size + 1, 2, none⟩ = some (.int .i64 b.B.n)) := kold hB (K26.out)
    have K43 : Hid (w3.cell? ⟨w.heap.size + 1, 3, none⟩ = some (.int .i64 b.B.d)) := kold hB (K27.out)
    have K44 : Hid (w3.cell? ⟨w.heap.size + 1, 4, none⟩ = some (.int .i64 b.C.n)) := kold hB (K28.out)
    have K45 : Hid (w3.cell? ⟨w.heap.size + 1, 5, none⟩ = some (.int .i64 b.C.d)) := kold hB (K29.out)
    have K46 : Hid (w3.cell? ⟨w.heap.size + 1, 6, none⟩ = some (.int .i64 b.D.n)) := kold hB (K30.out)
    have K47 : Hid (w3.cell? ⟨w.heap.size + 1, 7, none⟩ = some (.int .i64 b.D.d)) := kold hB (K31.out)
    clear K16 K17 K18 K19 K20 K21 K22 K23 K24 K25 K26 K27 K28 K29 K30 K31
    have K48 : Hid (w3.cell? ⟨b3, 0, none⟩ = some (.bool (twK b.A a.A b.B a.C))) := d0
    have K49 : Hid (w3.cell? ⟨b3, 1, none⟩ = some (.int .i64 (twQ b.A a.A b.B a.C).n)) := d1
    have K50 : Hid (w3.cell? ⟨b3, 2, none⟩ = some (.int .i64 (twQ b.A a.A b.B a.C).d)) := d2
    clear hB hk1 hk2 d0 d1 d2
    go_upto_region 4 with fail
    go_cut [6] (fun p wx => ∃ k : Nat, p = .pointer (some ⟨k, 0, none⟩) ∧ w3.heap.size ≤ k ∧ k < wx.heap.size ∧ Below w3.heap.size w3 wx ∧ wx.cell? ⟨k, 0, none⟩ = some (.bool (twK b.A a.B b.B a.D)) ∧ wx.cell? ⟨k, 1, none⟩ = some (.int .i64 (twQ b.A a.B b.B a.D).n) ∧ wx.cell? ⟨k, 2, none⟩ = some (.int .i64 (twQ b.A a.B b.B a.D).d))
    case first =>
      have c0 := K32.out
      have c1 := K33.out
      have c2 := K34.out
      have c3 := K35.out
      have c4 := K36.out
      have c5 := K37.out
      have c6 := K38.out
      have c7 := K39.out
      have c8 := K40.out
      have c9 := K41.out
      have c10 := K42.out
      have c11 := K43.out
      have c12 := K44.out
      have c13 := K45.out
      have c14 := K46.out
      have c15 := K47.out
      go_wp2_with fail
      refine (stwo b.A a.B b.B a.D _).mono ?_
      rintro e w1 ⟨rfl, hb⟩
      have hs := hb.size
      clear c0 c1 c2 c3 c4 c5 c6 c7 c8 c9 c10 c11 c12 c13 c14 c15
      go_wp2
      go_meet
      case rel =>
        refine ⟨_, rfl, ?_, ?_, ?_, ?_, ?_, ?_⟩
        · first | exact hs | omega
        · simp
        · go_grown
        · go_simp
        · go_simp
        · go_simp
    case rest =>
      obtain ⟨b4, rfl, hk1, hk2, hB, d0, d1, d2⟩ := hcut
      obtain ⟨w4, hv⟩ : ∃ v, v = wc := ⟨_, rfl⟩
      subst hv
      have HO : Hid (Below w.heap.size w w4) := box_step HO.out hB (by first | exact Nat.le_refl _ | exact HO.out.size)
      have RB : Hid (Blk w4 (w.heap.size + 1 + 1) #[.int .i64 0, .int .i64 0, .int .i64 0, .int .i64 0, .int .i64 0, .int .i64 0, .int .i64 0, .int .i64 0, .int .i64 0] 46) := Blk.old RB.out hB
      have K51 : Hid (w4.cell? ⟨w.heap.size, 0, none⟩ = some (.int .i64 a.A.n)) := kold hB (K32.out)
      have K52 : Hid (w4.cell? ⟨w.heap.size, 1, none⟩ = some (.int .i64 a.A.d)) := kold hB (K33.out)
      have K53 : Hid (w4.cell? ⟨w.heap.size, 2, none⟩ = some (.int .i64 a.B.n)) := kold hB (K34.out)
      have K54 : Hid (w4.cell? ⟨w.heap.size, 3, none⟩ = some (.int .i64 a.B.d)) := kold hB (K35.out)
      have K55 : Hid (w4.cell? ⟨w.heap.size, 4, none⟩ = some (.int .i64 a.C.n)) := kold hB (K36.out)
      have K56 : Hid (w4.cell? ⟨w.heap.size, 5, none⟩ = some (.int .i64 a.C.d)) := kold hB (K37.out)
      have K57 : Hid (w4.cell? ⟨w.heap.size, 6, none⟩ = some (.int .i64 a.D.n)) := kold hB (K38.out)
      have K58 : Hid (w4.cell? ⟨w.heap.size, 7, none⟩ = some (.int .i64 a.D.d)) := kold hB (K39.out)
      have K59 : Hid (w4.cell? ⟨w.heap.size + 1, 0, none⟩ = some (.int .i64 b.A.n)) := kold hB (K40.out)
      have K60 : Hid (w4.cell? ⟨w.heap.size + 1, 1, none⟩ = some (.int .i64 b.A.d)) := kold hB (K41.out)
      have K61 : Hid (w4.cell? ⟨w.heap.size + 1, 2, none⟩ = some (.int .i64 b.B.n)) := kold hB (K42.out)
      have K62 : Hid (w4.cell? ⟨w.heap.size + 1, 3, none⟩ = some (.int .i64 b.B.d)) := kold hB (K43.out)
      have K63 : Hid (w4.cell? ⟨w.heap.size + 1, 4, none⟩ = some (.int .i64 b.C.n)) := kold hB (K44.out)
      have K64 : Hid (w4.cell? ⟨w.heap.size + 1, 5, none⟩ = some (.int .i64 b.C.d)) := kold hB (K45.out)
      have K65 : Hid (w4.cell? ⟨w.heap.size + 1, 6, none⟩ = some (.int .i64 b.D.n)) := kold hB (K46.out)
      have K66 : Hid (w4.cell? ⟨w.heap.size + 1, 7, none⟩ = some (.int .i64 b.D.d)) := kold hB (K47.out)
      have K67 : Hid (w4.cell? ⟨b3, 0, none⟩ = some (.bool (twK b.A a.A b.B a.C))) := kold hB (K48.out)
      have K68 : Hid (w4.cell? ⟨b3, 1, none⟩ = some (.int .i64 (twQ b.A a.A b.B a.C).n)) := kold hB (K49.out)
      have K69 : Hid (w4.cell? ⟨b3, 2, none⟩ = some (.int .i64 (twQ b.A a.A b.B a.C).d)) := kold hB (K50.out)
      clear K32 K33 K34 K35 K36 K37 K38 K39 K40 K41 K42 K43 K44 K45 K46 K47 K48 K49 K50
      have K70 : Hid (w4.cell? ⟨b4, 0, none⟩ = some (.bool (twK b.A a.B b.B a.D))) := d0
      have K71 : Hid (w4.cell? ⟨b4, 1, none⟩ = some (.int .i64 (twQ b.A a.B b.B a.D).n)) := d1
      have K72 : Hid (w4.cell? ⟨b4, 2, none⟩ = some (.int .i64 (twQ b.A a.B b.B a.D).d)) := d2
      clear hB hk1 hk2 d0 d1 d2
      go_upto_region 5 with fail
      go_cut [7] (fun p wx => ∃ k : Nat, p = .pointer (some ⟨k, 0, none⟩) ∧ w4.heap.size ≤ k ∧ k < wx.heap.size ∧ Below w4.heap.size w4 wx ∧ wx.cell? ⟨k, 0, none⟩ = some (.bool (twK b.C a.A b.D a.C)) ∧ wx.cell? ⟨k, 1, none⟩ = some (.int .i64 (twQ b.C a.A b.D a.C).n) ∧ wx.cell? ⟨k, 2, none⟩ = some (.int .i64 (twQ b.C a.A b.D a.C).d))
      case first =>
        have c0 := K51.out
        have c1 := K52.out
        have c2 := K53.out
        have c3 := K54.out
        have c4 := K55.out
        have c5 := K56.out
        have c6 := K57.out
        have c7 := K58.out
        have c8 := K59.out
        have c9 := K60.out
        have c10 := K61.out
        have c11 := K62.out
        have c12 := K63.out
        have c13 := K64.out
        have c14 := K65.out
        have c15 := K66.out
        go_wp2_with fail
        refine (stwo b.C a.A b.D a.C _).mono ?_
        rintro e w1 ⟨rfl, hb⟩
        have hs := hb.size
        clear c0 c1 c2 c3 c4 c5 c6 c7 c8 c9 c10 c11 c12 c13 c14 c15
        go_wp2
        go_meet
        case rel =>
          refine ⟨_, rfl, ?_, ?_, ?_, ?_, ?_, ?_⟩
          · first | exact hs | omega
          · simp
          · go_grown
          · go_simp
          · go_simp
          · go_simp
      case rest =>
        obtain ⟨b5, rfl, hk1, hk2, hB, d0, d1, d2⟩ := hcut
        obtain ⟨w5, hv⟩ : ∃ v, v = wc := ⟨_, rfl⟩
        subst hv
        have HO : Hid (Below w.heap.size w w5) := box_step HO.out hB (by first | exact Nat.le_refl _ | exact HO.out.size)
        have RB : Hid (Blk w5 (w.heap.size + 1 + 1) #[.int .i64 0, .int .i64 0, .int .i64 0, .int .i64 0, .int .i64 0, .int .i64 0, .int .i64 0, .int .i64 0, .int .i64 0] 46) := Blk.old RB.out hB
        have K73 : Hid (w5.cell? ⟨w.heap.size, 0, none⟩ = some (.int .i64 a.A.n)) := kold hB (K51.out)
        have K74 : Hid (w5.cell? ⟨w.heap.size, 1, none⟩ = some (.int .i64 a.A.d)) := kold hB (K52.out)
        have K75 : Hid (w5.cell? ⟨w.heap.size, 2, none⟩ = some (.int .i64 a.B.n)) := kold hB (K53.out)
        have K76 : Hid (w5.cell? ⟨w.heap.size, 3, none⟩ = some (.int .i64 a.B.d)) := kold hB (K54.out)
        have K77 : Hid (w5.cell? ⟨w.heap.size, 4, none⟩ = some (.int .i64 a.C.n)) := kold hB (K55.out)
        have K78 : Hid (w5.cell? ⟨w.heap.size, 5, none⟩ = some (.int .i64 a.C.d)) := kold hB (K56.out)
        have K79 : Hid (w5.cell? ⟨w.heap.size, 6, none⟩ = some (.int .i64 a.D.n)) := kold hB (K57.out)
        have K80 : Hid (w5.cell? ⟨w.heap.size, 7, none⟩ = some (.int .i64 a.D.d)) := kold hB (K58.out)
        have K81 : Hid (w5.cell? ⟨w.heap.size + 1, 0, none⟩ = some (.int .i64 b.A.n)) := kold hB (K59.out)
        have K82 : Hid (w5.cell? ⟨w.heap.size + 1, 1, none⟩ = some (.int .i64 b.A.d)) := kold hB (K60.out)
        have K83 : Hid (w5.cell? ⟨w.heap.size + 1, 2, none⟩ = some (.int .i64 b.B.n)) := kold hB (K61.out)
        have K84 : Hid (w5.cell? ⟨w.heap.size + 1, 3, none⟩ = some (.int .i64 b.B.d)) := kold hB (K62.out)
        have K85 : Hid (w5.cell? ⟨w.heap.size + 1, 4, none⟩ = some (.int .i64 b.C.n)) := kold hB (K63.out)
        have K86 : Hid (w5.cell? ⟨w.heap.size + 1, 5, none⟩ = some (.int .i64 b.C.d)) := kold hB (K64.out)
        have K87 : Hid (w5.cell? ⟨w.heap.size + 1, 6, none⟩ = some (.int .i64 b.D.n)) := kold hB (K65.out)
        have K88 : Hid (w5.cell? ⟨w.heap.size + 1, 7, none⟩ = some (.int .i64 b.D.d)) := kold hB (K66.out)
        have K89 : Hid (w5.cell? ⟨b3, 0, none⟩ = some (.bool (twK b.A a.A b.B a.C))) := kold hB (K67.out)
        have K90 : Hid (w5.cell? ⟨b3, 1, none⟩ = some (.int .i64 (twQ b.A a.A b.B a.C).n)) := kold hB (K68.out)
        have K91 : Hid (w5.cell? ⟨b3, 2, none⟩ = some (.int .i64 (twQ b.A a.A b.B a.C).d)) := kold hB (K69.out)
        have K92 : Hid (w5.cell? ⟨b4, 0, none⟩ = some (.bool (twK b.A a.B b.B a.D))) := kold hB (K70.out)
        have K93 : Hid (w5.cell? ⟨b4, 1, none⟩ = some (.int .i64 (twQ b.A a.B b.B a.D).n)) := kold hB (K71.out)
        have K94 : Hid (w5.cell? ⟨b4, 2, none⟩ = some (.int .i64 (twQ b.A a.B b.B a.D).d)) := kold hB (K72.out)
        clear K51 K52 K53 K54 K55 K56 K57 K58 K59 K60 K61 K62 K63 K64 K65 K66 K67 K68 K69 K70 K71 K72
        have K95 : Hid (w5.cell? ⟨b5, 0, none⟩ = some (.bool (twK b.C a.A b.D a.C))) := d0
        have K96 : Hid (w5.cell? ⟨b5, 1, none⟩ = some (.int .i64 (twQ b.C a.A b.D a.C).n)) := d1
        have K97 : Hid (w5.cell? ⟨b5, 2, none⟩ = some (.int .i64 (twQ b.C a.A b.D a.C).d)) := d2
        clear hB hk1 hk2 d0 d1 d2
        go_upto_region 6 with fail
        go_cut [8] (fun p wx => ∃ k : Nat, p = .pointer (some ⟨k, 0, none⟩) ∧ w5.heap.size ≤ k ∧ k < wx.heap.size ∧ Below w5.heap.size w5 wx ∧ wx.cell? ⟨k, 0, none⟩ = some (.bool (twK b.C a.B b.D a.D)) ∧ wx.cell? ⟨k, 1, none⟩ = some (.int .i64 (twQ b.C a.B b.D a.D).n) ∧ wx.cell? ⟨k, 2, none⟩ = some (.int .i64 (twQ b.C a.B b.D a.D).d))
        case first =>
          have c0 := K73.out
          have c1 := K74.out
          have c2 := K75.out
          have c3 := K76.out
          have c4 := K77.out
          have c5 := K78.out
          have c6 := K79.out
          have c7 := K80.out
          have c8 := K81.out
          have c9 := K82.out
          have c10 := K83.out
          have c11 := K84.out
          have c12 := K85.out
          have c13 := K86.out
          have c14 := K87.out
          have c15 := K88.out
          go_wp2_with fail
          refine (stwo b.C a.B b.D a.D _).mono ?_
          rintro e w1 ⟨rfl, hb⟩
          have hs := hb.size
          clear c0 c1 c2 c3 c4 c5 c6 c7 c8 c9 c10 c11 c12 c13 c14 c15
          go_wp2
          go_meet
          case rel =>
            refine ⟨_, rfl, ?_, ?_, ?_, ?_, ?_, ?_⟩
            · first | exact hs | omega
            · simp
            · go_grown
            · go_simp
            · go_simp
            · go_simp
        case rest =>
          obtain ⟨b6, rfl, hk1, hk2, hB, d0, d1, d2⟩ := hcut
          obtain ⟨w6, hv⟩ : ∃ v, v = wc := ⟨_, rfl⟩
          subst hv
          have HO : Hid (Below w.heap.size w w6) := box_step HO.out hB (by first | exact Nat.le_refl _ | exact HO.out.size)
          have RB : Hid (Blk w6 (w.heap.size + 1 + 1) #[.int .i64 0, .int .i64 0, .int .i64 0, .int .i64 0, .int .i64 0, .int .i64 0, .int .i64 0, .int .i64 0, .int .i64 0] 46) := Blk.old RB.out hB
          have K98 : Hid (w6.cell? ⟨w.heap.size, 0, none⟩ = some (.int .i64 a.A.n)) := kold hB (K73.out)
          have K99 : Hid (w6.cell? ⟨w.heap.size, 1, none⟩ = some (.int .i64 a.A.d)) := kold hB (K74.out)
          have K100 : Hid (w6.cell? ⟨w.heap.size, 2, none⟩ = some (.int .i64 a.B.n)) := kold hB (K75.out)
          have K101 : Hid (w6.cell? ⟨w.heap.size, 3, none⟩ = some (.int .i64 a.B.d)) := kold hB (K76.out)
          have K102 : Hid (w6.cell? ⟨w.heap.size, 4, none⟩ = some (.int .i64 a.C.n)) := kold hB (K77.out)
          have K103 : Hid (w6.cell? ⟨w.heap.size, 5, none⟩ = some (.int .i64 a.C.d)) := kold hB (K78.out)
          have K104 : Hid (w6.cell? ⟨w.heap.size, 6, none⟩ = some (.int .i64 a.D.n)) := kold hB (K79.out)
          have K105 : Hid (w6.cell? ⟨w.heap.size, 7, none⟩ = some (.int .i64 a.D.d)) := kold hB (K80.out)
          have K106 : Hid (w6.cell? ⟨w.heap.size + 1, 0, none⟩ = some (.int .i64 b.A.n)) := kold hB (K81.out)
          have K107 : Hid (w6.cell? ⟨w.heap.size + 1, 1, none⟩ = some (.int .i64 b.A.d)) := kold hB (K82.out)
          have K108 : Hid (w6.cell? ⟨w.heap.size + 1, 2, none⟩ = some (.int .i64 b.B.n)) := kold hB (K83.out)
          have K109 : Hid (w6.cell? ⟨w.heap.size + 1, 3, none⟩ = some (.int .i64 b.B.d)) := kold hB (K84.out)
          have K110 : Hid (w6.cell? ⟨w.heap.size + 1, 4, none⟩ = some (.int .i64 b.C.n)) := kold hB (K85.out)
          have K111 : Hid (w6.cell? ⟨w.heap.size + 1, 5, none⟩ = some (.int .i64 b.C.d)) := kold hB (K86.out)
          have K112 : Hid (w6.cell? ⟨w.heap.size + 1, 6, none⟩ = some (.int .i64 b.D.n)) := kold hB (K87.out)
          have K113 : Hid (w6.cell? ⟨w.heap.size + 1, 7, none⟩ = some (.int .i64 b.D.d)) := kold hB (K88.out)
          have K114 : Hid (w6.cell? ⟨b3, 0, none⟩ = some (.bool (twK b.A a.A b.B a.C))) := kold hB (K89.out)
          have K115 : Hid (w6.cell? ⟨b3, 1, none⟩ = some (.int .i64 (twQ b.A a.A b.B a.C).n)) := kold hB (K90.out)
          have K116 : Hid (w6.cell? ⟨b3, 2, none⟩ = some (.int .i64 (twQ b.A a.A b.B a.C).d)) := kold hB (K91.out)
          have K117 : Hid (w6.cell? ⟨b4, 0, none⟩ = some (.bool (twK b.A a.B b.B a.D))) := kold hB (K92.out)
          have K118 : Hid (w6.cell? ⟨b4, 1, none⟩ = some (.int .i64 (twQ b.A a.B b.B a.D).n)) := kold hB (K93.out)
          have K119 : Hid (w6.cell? ⟨b4, 2, none⟩ = some (.int .i64 (twQ b.A a.B b.B a.D).d)) := kold hB (K94.out)
          have K120 : Hid (w6.cell? ⟨b5, 0, none⟩ = some (.bool (twK b.C a.A b.D a.C))) := kold hB (K95.out)
          have K121 : Hid (w6.cell? ⟨b5, 1, none⟩ = some (.int .i64 (twQ b.C a.A b.D a.C).n)) := kold hB (K96.out)
          have K122 : Hid (w6.cell? ⟨b5, 2, none⟩ = some (.int .i64 (twQ b.C a.A b.D a.C).d)) := kold hB (K97.out)
          clear K73 K74 K75 K76 K77 K78 K79 K80 K81 K82 K83 K84 K85 K86 K87 K88 K89 K90 K91 K92 K93 K94 K95 K96 K97
          have K123 : Hid (w6.cell? ⟨b6, 0, none⟩ = some (.bool (twK b.C a.B b.D a.D))) := d0
          have K124 : Hid (w6.cell? ⟨b6, 1, none⟩ = some (.int .i64 (twQ b.C a.B b.D a.D).n)) := d1
          have K125 : Hid (w6.cell? ⟨b6, 2, none⟩ = some (.int .i64 (twQ b.C a.B b.D a.D).d)) := d2
          clear hB hk1 hk2 d0 d1 d2
          cases hA : twK b.A a.A b.B a.C
          · have hc : jC a b = 3 := by simp [jC, ha, hb0, jKA, hA]
            have c16 := K114.out
            have c17 := K115.out
            have c18 := K116.out
            have c19 := K117.out
            have c20 := K118.out
            have c21 := K119.out
            have c22 := K120.out
            have c23 := K121.out
            have c24 := K122.out
            have c25 := K123.out
            have c26 := K124.out
            have c27 := K125.out
            have r0 := RB.out.cell (j := 0) rfl
            have r1 := RB.out.cell (j := 1) rfl
            have r2 := RB.out.cell (j := 2) rfl
            have r3 := RB.out.cell (j := 3) rfl
            have r4 := RB.out.cell (j := 4) rfl
            have r5 := RB.out.cell (j := 5) rfl
            have r6 := RB.out.cell (j := 6) rfl
            have r7 := RB.out.cell (j := 7) rfl
            have r8 := RB.out.cell (j := 8) rfl
            have rf := RB.out.frozen
            repeat go_step
            refine bodyPost_ret (v := .agg #[.int .i64 3, .int .i64 0, .int .i64 0, .int .i64 0, .int .i64 0, .int .i64 0, .int .i64 0, .int .i64 0, .int .i64 0]) (by simp [results, Try.results78, go_sem, r0, r1, r2, r3, r4, r5, r6, r7, r8, World.cell?_alloc_lt, RB.out.lt] <;> (repeat' (first | rfl | apply And.intro))) rfl ⟨by rw [hc]; rfl, ?_⟩
            have h := HO.out
            have hlt := RB.out.lt
            have hsz := h.size
            go_grown
          cases hB : twK b.A a.B b.B a.D
          · have hc : jC a b = 3 := by simp [jC, ha, hb0, jKA, hA, jKB, hB]
            have c16 := K114.out
            have c17 := K115.out
            have c18 := K116.out
            have c19 := K117.out
            have c20 := K118.out
            have c21 := K119.out
            have c22 := K120.out
            have c23 := K121.out
            have c24 := K122.out
            have c25 := K123.out
            have c26 := K124.out
            have c27 := K125.out
            have r0 := RB.out.cell (j := 0) rfl
            have r1 := RB.out.cell (j := 1) rfl
            have r2 := RB.out.cell (j := 2) rfl
            have r3 := RB.out.cell (j := 3) rfl
            have r4 := RB.out.cell (j := 4) rfl
            have r5 := RB.out.cell (j := 5) rfl
            have r6 := RB.out.cell (j := 6) rfl
            have r7 := RB.out.cell (j := 7) rfl
            have r8 := RB.out.cell (j := 8) rfl
            have rf := RB.out.frozen
            repeat go_step
            refine bodyPost_ret (v := .agg #[.int .i64 3, .int .i64 0, .int .i64 0, .int .i64 0, .int .i64 0, .int .i64 0, .int .i64 0, .int .i64 0, .int .i64 0]) (by simp [results, Try.results78, go_sem, r0, r1, r2, r3, r4, r5, r6, r7, r8, World.cell?_alloc_lt, RB.out.lt] <;> (repeat' (first | rfl | apply And.intro))) rfl ⟨by rw [hc]; rfl, ?_⟩
            have h := HO.out
            have hlt := RB.out.lt
            have hsz := h.size
            go_grown
          cases hC : twK b.C a.A b.D a.C
          · have hc : jC a b = 3 := by simp [jC, ha, hb0, jKA, hA, jKB, hB, jKC, hC]
            have c16 := K114.out
            have c17 := K115.out
            have c18 := K116.out
            have c19 := K117.out
            have c20 := K118.out
            have c21 := K119.out
            have c22 := K120.out
            have c23 := K121.out
            have c24 := K122.out
            have c25 := K123.out
            have c26 := K124.out
            have c27 := K125.out
            have r0 := RB.out.cell (j := 0) rfl
            have r1 := RB.out.cell (j := 1) rfl
            have r2 := RB.out.cell (j := 2) rfl
            have r3 := RB.out.cell (j := 3) rfl
            have r4 := RB.out.cell (j := 4) rfl
            have r5 := RB.out.cell (j := 5) rfl
            have r6 := RB.out.cell (j := 6) rfl
            have r7 := RB.out.cell (j := 7) rfl
            have r8 := RB.out.cell (j := 8) rfl
            have rf := RB.out.frozen
            repeat go_step
            refine bodyPost_ret (v := .agg #[.int .i64 3, .int .i64 0, .int .i64 0, .int .i64 0, .int .i64 0, .int .i64 0, .int .i64 0, .int .i64 0, .int .i64 0]) (by simp [results, Try.results78, go_sem, r0, r1, r2, r3, r4, r5, r6, r7, r8, World.cell?_alloc_lt, RB.out.lt] <;> (repeat' (first | rfl | apply And.intro))) rfl ⟨by rw [hc]; rfl, ?_⟩
            have h := HO.out
            have hlt := RB.out.lt
            have hsz := h.size
            go_grown
          cases hD : twK b.C a.B b.D a.D
          · have hc : jC a b = 3 := by simp [jC, ha, hb0, jKA, hA, jKB, hB, jKC, hC, jKD, hD]
            have c16 := K114.out
            have c17 := K115.out
            have c18 := K116.out
            have c19 := K117.out
            have c20 := K118.out
            have c21 := K119.out
            have c22 := K120.out
            have c23 := K121.out
            have c24 := K122.out
            have c25 := K123.out
            have c26 := K124.out
            have c27 := K125.out
            have r0 := RB.out.cell (j := 0) rfl
            have r1 := RB.out.cell (j := 1) rfl
            have r2 := RB.out.cell (j := 2) rfl
            have r3 := RB.out.cell (j := 3) rfl
            have r4 := RB.out.cell (j := 4) rfl
            have r5 := RB.out.cell (j := 5) rfl
            have r6 := RB.out.cell (j := 6) rfl
            have r7 := RB.out.cell (j := 7) rfl
            have r8 := RB.out.cell (j := 8) rfl
            have rf := RB.out.frozen
            repeat go_step
            refine bodyPost_ret (v := .agg #[.int .i64 3, .int .i64 0, .int .i64 0, .int .i64 0, .int .i64 0, .int .i64 0, .int .i64 0, .int .i64 0, .int .i64 0]) (by simp [results, Try.results78, go_sem, r0, r1, r2, r3, r4, r5, r6, r7, r8, World.cell?_alloc_lt, RB.out.lt] <;> (repeat' (first | rfl | apply And.intro))) rfl ⟨by rw [hc]; rfl, ?_⟩
            have h := HO.out
            have hlt := RB.out.lt
            have hsz := h.size
            go_grown
          have hc : jC a b = 0 := by simp [jC, ha, hb0, jKA, hA, jKB, hB, jKC, hC, jKD, hD]
          have c16 := K114.out
          have c17 := K115.out
          have c18 := K116.out
          have c19 := K117.out
          have c20 := K118.out
          have c21 := K119.out
          have c22 := K120.out
          have c23 := K121.out
          have c24 := K122.out
          have c25 := K123.out
          have c26 := K124.out
          have c27 := K125.out
          have r0 := RB.out.cell (j := 0) rfl
          have r1 := RB.out.cell (j := 1) rfl
          have r2 := RB.out.cell (j := 2) rfl
          have r3 := RB.out.cell (j := 3) rfl
          have r4 := RB.out.cell (j := 4) rfl
          have r5 := RB.out.cell (j := 5) rfl
          have r6 := RB.out.cell (j := 6) rfl
          have r7 := RB.out.cell (j := 7) rfl
          have r8 := RB.out.cell (j := 8) rfl
          have rf := RB.out.frozen
          repeat go_step
          refine bodyPost_ret (v := .agg #[.int .i64 0, .int .i64 (twQ b.A a.A b.B a.C).n, .int .i64 (twQ b.A a.A b.B a.C).d, .int .i64 (twQ b.A a.B b.B a.D).n, .int .i64 (twQ b.A a.B b.B a.D).d, .int .i64 (twQ b.C a.A b.D a.C).n, .int .i64 (twQ b.C a.A b.D a.C).d, .int .i64 (twQ b.C a.B b.D a.D).n, .int .i64 (twQ b.C a.B b.D a.D).d]) (by simp [results, Try.results78, go_sem, r0, r1, r2, r3, r4, r5, r6, r7, r8, World.cell?_alloc_lt, RB.out.lt] <;> (repeat' (first | rfl | apply And.intro))) rfl ⟨by rw [hc]; rfl, ?_⟩
          have h := HO.out
          have hlt := RB.out.lt
          have hsz := h.size
          go_grown
theorem sjoin (a b : Mx) (w : World) : Calls Try.prog 78 #[.agg #[.int .i64 a.A.n, .int .i64 a.A.d, .int .i64 a.B.n, .int .i64 a.B.d, .int .i64 a.C.n, .int .i64 a.C.d, .int .i64 a.D.n, .int .i64 a.D.d], .agg #[.int .i64 b.A.n, .int .i64 b.A.d, .int .i64 b.B.n, .int .i64 b.B.d, .int .i64 b.C.n, .int .i64 b.C.d, .int .i64 b.D.n, .int .i64 b.D.d]] w fun e w' => e = .returned (.agg #[.int .i64 (jC a b), .int .i64 (sel (jC a b) (jQA a b)).n, .int .i64 (sel (jC a b) (jQA a b)).d, .int .i64 (sel (jC a b) (jQB a b)).n, .int .i64 (sel (jC a b) (jQB a b)).d, .int .i64 (sel (jC a b) (jQC a b)).n, .int .i64 (sel (jC a b) (jQC a b)).d, .int .i64 (sel (jC a b) (jQD a b)).n, .int .i64 (sel (jC a b) (jQD a b)).d]) ∧ Below w.heap.size w w' := by
  cases ha : a.ok
  · have h : jC a b = 1 := by simp [jC, ha]
    rw [h]; exact sjoin_0 a b w ha
  cases hb : b.ok
  · have h : jC a b = 1 := by simp [jC, ha, hb]
    rw [h]; exact sjoin_1 a b w ha hb
  exact sjoin_2 a b w ha hb
end Go.Proofs.Ytkkajcdjkfbcgaa
