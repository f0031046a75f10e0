/- Cavities: the specification. -/
import Derived.Test.YtkkajcdjkfbcgaaCa
import Derived.Handy
namespace Go.Proofs.Ytkkajcdjkfbcgaa
open Go.RowKit
set_option linter.unusedVariables false
set_option linter.unusedSimpArgs false
def cav (L A B : Q) : Bool := L.ok && A.ok && B.ok && decide (0 < L.n)
theorem cav_t {L A B : Q} (h : cav L A B = true) : L.ok = true ∧ A.ok = true ∧ B.ok = true ∧ 0 < L.n := by
  simp only [cav, Bool.and_eq_true, decide_eq_true_eq] at h
  exact ⟨h.1.1.1, h.1.1.2, h.1.2, h.2⟩
set_option maxRecDepth 20000 in
set_option maxHeartbeats 1600000 in
theorem scav_0 (L A B : Q) (w : World) (hL : L.ok = false) : Calls Try.prog 60 #[.agg #[.int .i64 L.n, .int .i64 L.d], .agg #[.int .i64 A.n, .int .i64 A.d], .agg #[.int .i64 B.n, .int .i64 B.d]] w fun e w' => e = .returned (.bool false) ∧ Below w.heap.size w w' := by
  have qL := fault_eq L.n L.d
  rw [show rightB L.n L.d = false from hL] at qL
  go_enter Try.func60, Try.ntmps60
  go_wp2_with fail
  refine (sfaultq L _).mono ?_
  rintro e w1 ⟨rfl, hb⟩
  have HO : Hid (Below w.heap.size w w1) := by refine box_step ?_ hb (by simp <;> omega); go_grown
  have X0 : Blk w1 (w.heap.size) #[.int .i64 L.n, .int .i64 L.d] 32 := Blk.old ((Blk.alloc (Blk.alloc (Blk.new (by simp)) _) _)) hb
  have K0 : Hid (w1.cell? ⟨w.heap.size, 0, none⟩ = some (.int .i64 L.n)) := X0.cell rfl
  have K1 : Hid (w1.cell? ⟨w.heap.size, 1, none⟩ = some (.int .i64 L.d)) := X0.cell rfl
  clear X0
  have X1 : Blk w1 (w.heap.size + 1) #[.int .i64 A.n, .int .i64 A.d] 32 := Blk.old ((Blk.alloc (Blk.new (by simp)) _)) hb
  have K2 : Hid (w1.cell? ⟨w.heap.size + 1, 0, none⟩ = some (.int .i64 A.n)) := X1.cell rfl
  have K3 : Hid (w1.cell? ⟨w.heap.size + 1, 1, none⟩ = some (.int .i64 A.d)) := X1.cell rfl
  clear X1
  have X2 : Blk w1 (w.heap.size + 1 + 1) #[.int .i64 B.n, .int .i64 B.d] 32 := Blk.old ((Blk.new (by simp))) hb
  have K4 : Hid (w1.cell? ⟨w.heap.size + 1 + 1, 0, none⟩ = some (.int .i64 B.n)) := X2.cell rfl
  have K5 : Hid (w1.cell? ⟨w.heap.size + 1 + 1, 1, none⟩ = some (.int .i64 B.d)) := X2.cell rfl
  clear X2
  clear hb
  have c0 := K0.out
  have c1 := K1.out
  have c2 := K2.out
  have c3 := K3.out
  have c4 := K4.out
  have c5 := K5.out
  go_wp2
  go_ret
  refine ⟨by first | rfl | simp, ?_⟩
  have h := HO.out
  have hsz := h.size
  go_grown
set_option maxRecDepth 20000 in
set_option maxHeartbeats 1600000 in
theorem scav_1 (L A B : Q) (w : World) (hL : L.ok = true) (hA : A.ok = false) : Calls Try.prog 60 #[.agg #[.int .i64 L.n, .int .i64 L.d], .agg #[.int .i64 A.n, .int .i64 A.d], .agg #[.int .i64 B.n, .int .i64 B.d]] w fun e w' => e = .returned (.bool false) ∧ Below w.heap.size w w' := by
  have qL := fault_eq L.n L.d
  rw [show rightB L.n L.d = true from hL] at qL
  have qA := fault_eq A.n A.d
  rw [show rightB A.n A.d = false from hA] at qA
  go_enter Try.func60, Try.ntmps60
  go_wp2_with fail
  refine (sfaultq L _).mono ?_
  rintro e w1 ⟨rfl, hb⟩
  have HO : Hid (Below w.heap.size w w1) := by refine box_step ?_ hb (by simp <;> omega); go_grown
  have X0 : Blk w1 (w.heap.size) #[.int .i64 L.n, .int .i64 L.d] 32 := Blk.old ((Blk.alloc (Blk.alloc (Blk.new (by simp)) _) _)) hb
  have K0 : Hid (w1.cell? ⟨w.heap.size, 0, none⟩ = some (.int .i64 L.n)) := X0.cell rfl
  have K1 : Hid (w1.cell? ⟨w.heap.size, 1, none⟩ = some (.int .i64 L.d)) := X0.cell rfl
  clear X0
  have X1 : Blk w1 (w.heap.size + 1) #[.int .i64 A.n, .int .i64 A.d] 32 := Blk.old ((Blk.alloc (Blk.new (by simp)) _)) hb
  have K2 : Hid (w1.cell? ⟨w.heap.size + 1, 0, none⟩ = some (.int .i64 A.n)) := X1.cell rfl
  have K3 : Hid (w1.cell? ⟨w.heap.size + 1, 1, none⟩ = some (.int .i64 A.d)) := X1.cell rfl
  clear X1
  have X2 : Blk w1 (w.heap.size + 1 + 1) #[.int .i64 B.n, .int .i64 B.d] 32 := Blk.old ((Blk.new (by simp))) hb
  have K4 : Hid (w1.cell? ⟨w.heap.size + 1 + 1, 0, none⟩ = some (.int .i64 B.n)) := X2.cell rfl
  have K5 : Hid (w1.cell? ⟨w.heap.size + 1 + 1, 1, none⟩ = some (.int .i64 B.d)) := X2.cell rfl
  clear X2
  clear hb
  have c0 := K0.out
  have c1 := K1.out
  have c2 := K2.out
  have c3 := K3.out
  have c4 := K4.out
  have c5 := K5.out
  go_wp2_with fail
  refine (sfaultq A _).mono ?_
  rintro e w2 ⟨rfl, hb⟩
  clear c0 c1 c2 c3 c4 c5
  have HO : Hid (Below w.heap.size w w2) := by have h := HO.out; have hs := h.size; refine box_step ?_ hb (by first | exact hs | (simp <;> omega)); go_grown
  have K6 : Hid (w2.cell? ⟨w.heap.size, 0, none⟩ = some (.int .i64 L.n)) := kold hb (K0.out)
  have K7 : Hid (w2.cell? ⟨w.heap.size, 1, none⟩ = some (.int .i64 L.d)) := kold hb (K1.out)
  have K8 : Hid (w2.cell? ⟨w.heap.size + 1, 0, none⟩ = some (.int .i64 A.n)) := kold hb (K2.out)
  have K9 : Hid (w2.cell? ⟨w.heap.size + 1, 1, none⟩ = some (.int .i64 A.d)) := kold hb (K3.out)
  have K10 : Hid (w2.cell? ⟨w.heap.size + 1 + 1, 0, none⟩ = some (.int .i64 B.n)) := kold hb (K4.out)
  have K11 : Hid (w2.cell? ⟨w.heap.size + 1 + 1, 1, none⟩ = some (.int .i64 B.d)) := kold hb (K5.out)
  clear K0 K1 K2 K3 K4 K5
  clear hb
  have c0 := K6.out
  have c1 := K7.out
  have c2 := K8.out
  have c3 := K9.out
  have c4 := K10.out
  have c5 := K11.out
  go_wp2
  go_ret
  refine ⟨by first | rfl | simp, ?_⟩
  have h := HO.out
  have hsz := h.size
  go_grown
set_option maxRecDepth 20000 in
set_option maxHeartbeats 1600000 in
theorem scav_2 (L A B : Q) (w : World) (hL : L.ok = true) (hA : A.ok = true) (hB : B.ok = false) : Calls Try.prog 60 #[.agg #[.int .i64 L.n, .int .i64 L.d], .agg #[.int .i64 A.n, .int .i64 A.d], .agg #[.int .i64 B.n, .int .i64 B.d]] w fun e w' => e = .returned (.bool false) ∧ Below w.heap.size w w' := by
  have qL := fault_eq L.n L.d
  rw [show rightB L.n L.d = true from hL] at qL
  have qA := fault_eq A.n A.d
  rw [show rightB A.n A.d = true from hA] at qA
  have qB := fault_eq B.n B.d
  rw [show rightB B.n B.d = false from hB] at qB
  go_enter Try.func60, Try.ntmps60
  go_wp2_with fail
  refine (sfaultq L _).mono ?_
  rintro e w1 ⟨rfl, hb⟩
  have HO : Hid (Below w.heap.size w w1) := by refine box_step ?_ hb (by simp <;> omega); go_grown
  have X0 : Blk w1 (w.heap.size) #[.int .i64 L.n, .int .i64 L.d] 32 := Blk.old ((Blk.alloc (Blk.alloc (Blk.new (by simp)) _) _)) hb
  have K0 : Hid (w1.cell? ⟨w.heap.size, 0, none⟩ = some (.int .i64 L.n)) := X0.cell rfl
  have K1 : Hid (w1.cell? ⟨w.heap.size, 1, none⟩ = some (.int .i64 L.d)) := X0.cell rfl
  clear X0
  have X1 : Blk w1 (w.heap.size + 1) #[.int .i64 A.n, .int .i64 A.d] 32 := Blk.old ((Blk.alloc (Blk.new (by simp)) _)) hb
  have K2 : Hid (w1.cell? ⟨w.heap.size + 1, 0, none⟩ = some (.int .i64 A.n)) := X1.cell rfl
  have K3 : Hid (w1.cell? ⟨w.heap.size + 1, 1, none⟩ = some (.int .i64 A.d)) := X1.cell rfl
  clear X1
  have X2 : Blk w1 (w.heap.size + 1 + 1) #[.int .i64 B.n, .int .i64 B.d] 32 := Blk.old ((Blk.new (by simp))) hb
  have K4 : Hid (w1.cell? ⟨w.heap.size + 1 + 1, 0, none⟩ = some (.int .i64 B.n)) := X2.cell rfl
  have K5 : Hid (w1.cell? ⟨w.heap.size + 1 + 1, 1, none⟩ = some (.int .i64 B.d)) := X2.cell rfl
  clear X2
  clear hb
  have c0 := K0.out
  have c1 := K1.out
  have c2 := K2.out
  have c3 := K3.out
  have c4 := K4.out
  have c5 := K5.out
  go_wp2_with fail
  refine (sfaultq A _).mono ?_
  rintro e w2 ⟨rfl, hb⟩
  clear c0 c1 c2 c3 c4 c5
  have HO : Hid (Below w.heap.size w w2) := by have h := HO.out; have hs := h.size; refine box_step ?_ hb (by first | exact hs | (simp <;> omega)); go_grown
  have K6 : Hid (w2.cell? ⟨w.heap.size, 0, none⟩ = some (.int .i64 L.n)) := kold hb (K0.out)
  have K7 : Hid (w2.cell? ⟨w.heap.size, 1, none⟩ = some (.int .i64 L.d)) := kold hb (K1.out)
  have K8 : Hid (w2.cell? ⟨w.heap.size + 1, 0, none⟩ = some (.int .i64 A.n)) := kold hb (K2.out)
  have K9 : Hid (w2.cell? ⟨w.heap.size + 1, 1, none⟩ = some (.int .i64 A.d)) := kold hb (K3.out)
  have K10 : Hid (w2.cell? ⟨w.heap.size + 1 + 1, 0, none⟩ = some (.int .i64 B.n)) := kold hb (K4.out)
  have K11 : Hid (w2.cell? ⟨w.heap.size + 1 + 1, 1, none⟩ = some (.int .i64 B.d)) := kold hb (K5.out)
  clear K0 K1 K2 K3 K4 K5
  clear hb
  have c0 := K6.out
  have c1 := K7.out
  have c2 := K8.out
  have c3 := K9.out
  have c4 := K10.out
  have c5 := K11.out
  go_wp2_with fail
  refine (sfaultq B _).mono ?_
  rintro e w3 ⟨rfl, hb⟩
  clear c0 c1 c2 c3 c4 c5
  have HO : Hid (Below w.heap.size w w3) := by have h := HO.out; have hs := h.size; refine box_step ?_ hb (by first | exact hs | (simp <;> omega)); go_grown
  have K12 : Hid (w3.cell? ⟨w.heap.size, 0, none⟩ = some (.int .i64 L.n)) := kold hb (K6.out)
  have K13 : Hid (w3.cell? ⟨w.heap.size, 1, none⟩ = some (.int .i64 L.d)) := kold hb (K7.out)
  have K14 : Hid (w3.cell? ⟨w.heap.size + 1, 0, none⟩ = some (.int .i64 A.n)) := kold hb (K8.out)
  have K15 : Hid (w3.cell? ⟨w.heap.size + 1, 1, none⟩ = some (.int .i64 A.d)) := kold hb (K9.out)
  have K16 : Hid (w3.cell? ⟨w.heap.size + 1 + 1, 0, none⟩ = some (.int .i64 B.n)) := kold hb (K10.out)
  have K17 : Hid (w3.cell? ⟨w.heap.size + 1 + 1, 1, none⟩ = some (.int .i64 B.d)) := kold hb (K11.out)
  clear K6 K7 K8 K9 K10 K11
  clear hb
  have c0 := K12.out
  have c1 := K13.out
  have c2 := K14.out
  have c3 := K15.out
  have c4 := K16.out
  have c5 := K17.out
  go_wp2
  go_ret
  refine ⟨by first | rfl | simp, ?_⟩
  have h := HO.out
  have hsz := h.size
  go_grown
set_option maxRecDepth 20000 in
set_option maxHeartbeats 1600000 in
theorem scav_3 (L A B : Q) (w : World) (hL : L.ok = true) (hA : A.ok = true) (hB : B.ok = true) : Calls Try.prog 60 #[.agg #[.int .i64 L.n, .int .i64 L.d], .agg #[.int .i64 A.n, .int .i64 A.d], .agg #[.int .i64 B.n, .int .i64 B.d]] w fun e w' => e = .returned (.bool (decide (0 < L.n))) ∧ Below w.heap.size w w' := by
  have qL := fault_eq L.n L.d
  rw [show rightB L.n L.d = true from hL] at qL
  have qA := fault_eq A.n A.d
  rw [show rightB A.n A.d = true from hA] at qA
  have qB := fault_eq B.n B.d
  rw [show rightB B.n B.d = true from hB] at qB
  go_enter Try.func60, Try.ntmps60
  go_wp2_with fail
  refine (sfaultq L _).mono ?_
  rintro e w1 ⟨rfl, hb⟩
  have HO : Hid (Below w.heap.size w w1) := by refine box_step ?_ hb (by simp <;> omega); go_grown
  have X0 : Blk w1 (w.heap.size) #[.int .i64 L.n, .int .i64 L.d] 32 := Blk.old ((Blk.alloc (Blk.alloc (Blk.new (by simp)) _) _)) hb
  have K0 : Hid (w1.cell? ⟨w.heap.size, 0, none⟩ = some (.int .i64 L.n)) := X0.cell rfl
  have K1 : Hid (w1.cell? ⟨w.heap.size, 1, none⟩ = some (.int .i64 L.d)) := X0.cell rfl
  clear X0
  have X1 : Blk w1 (w.heap.size + 1) #[.int .i64 A.n, .int .i64 A.d] 32 := Blk.old ((Blk.alloc (Blk.new (by simp)) _)) hb
  have K2 : Hid (w1.cell? ⟨w.heap.size + 1, 0, none⟩ = some (.int .i64 A.n)) := X1.cell rfl
  have K3 : Hid (w1.cell? ⟨w.heap.size + 1, 1, none⟩ = some (.int .i64 A.d)) := X1.cell rfl
  clear X1
  have X2 : Blk w1 (w.heap.size + 1 + 1) #[.int .i64 B.n, .int .i64 B.d] 32 := Blk.old ((Blk.new (by simp))) hb
  have K4 : Hid (w1.cell? ⟨w.heap.size + 1 + 1, 0, none⟩ = some (.int .i64 B.n)) := X2.cell rfl
  have K5 : Hid (w1.cell? ⟨w.heap.size + 1 + 1, 1, none⟩ = some (.int .i64 B.d)) := X2.cell rfl
  clear X2
  clear hb
  have c0 := K0.out
  have c1 := K1.out
  have c2 := K2.out
  have c3 := K3.out
  have c4 := K4.out
  have c5 := K5.out
  go_wp2_with fail
  refine (sfaultq A _).mono ?_
  rintro e w2 ⟨rfl, hb⟩
  clear c0 c1 c2 c3 c4 c5
  have HO : Hid (Below w.heap.size w w2) := by have h := HO.out; have hs := h.size; refine box_step ?_ hb (by first | exact hs | (simp <;> omega)); go_grown
  have K6 : Hid (w2.cell? ⟨w.heap.size, 0, none⟩ = some (.int .i64 L.n)) := kold hb (K0.out)
  have K7 : Hid (w2.cell? ⟨w.heap.size, 1, none⟩ = some (.int .i64 L.d)) := kold hb (K1.out)
  have K8 : Hid (w2.cell? ⟨w.heap.size + 1, 0, none⟩ = some (.int .i64 A.n)) := kold hb (K2.out)
  have K9 : Hid (w2.cell? ⟨w.heap.size + 1, 1, none⟩ = some (.int .i64 A.d)) := kold hb (K3.out)
  have K10 : Hid (w2.cell? ⟨w.heap.size + 1 + 1, 0, none⟩ = some (.int .i64 B.n)) := kold hb (K4.out)
  have K11 : Hid (w2.cell? ⟨w.heap.size + 1 + 1, 1, none⟩ = some (.int .i64 B.d)) := kold hb (K5.out)
  clear K0 K1 K2 K3 K4 K5
  clear hb
  have c0 := K6.out
  have c1 := K7.out
  have c2 := K8.out
  have c3 := K9.out
  have c4 := K10.out
  have c5 := K11.out
  go_wp2_with fail
  refine (sfaultq B _).mono ?_
  rintro e w3 ⟨rfl, hb⟩
  clear c0 c1 c2 c3 c4 c5
  have HO : Hid (Below w.heap.size w w3) := by have h := HO.out; have hs := h.size; refine box_step ?_ hb (by first | exact hs | (simp <;> omega)); go_grown
  have K12 : Hid (w3.cell? ⟨w.heap.size, 0, none⟩ = some (.int .i64 L.n)) := kold hb (K6.out)
  have K13 : Hid (w3.cell? ⟨w.heap.size, 1, none⟩ = some (.int .i64 L.d)) := kold hb (K7.out)
  have K14 : Hid (w3.cell? ⟨w.heap.size + 1, 0, none⟩ = some (.int .i64 A.n)) := kold hb (K8.out)
  have K15 : Hid (w3.cell? ⟨w.heap.size + 1, 1, none⟩ = some (.int .i64 A.d)) := kold hb (K9.out)
  have K16 : Hid (w3.cell? ⟨w.heap.size + 1 + 1, 0, none⟩ = some (.int .i64 B.n)) := kold hb (K10.out)
  have K17 : Hid (w3.cell? ⟨w.heap.size + 1 + 1, 1, none⟩ = some (.int .i64 B.d)) := kold hb (K11.out)
  clear K6 K7 K8 K9 K10 K11
  clear hb
  have c0 := K12.out
  have c1 := K13.out
  have c2 := K14.out
  have c3 := K15.out
  have c4 := K16.out
  have c5 := K17.out
  go_wp2
  go_ret
  refine ⟨by first | rfl | simp, ?_⟩
  have h := HO.out
  have hsz := h.size
  go_grown
theorem scav (L A B : Q) (w : World) : Calls Try.prog 60 #[.agg #[.int .i64 L.n, .int .i64 L.d], .agg #[.int .i64 A.n, .int .i64 A.d], .agg #[.int .i64 B.n, .int .i64 B.d]] w fun e w' => e = .returned (.bool (cav L A B)) ∧ Below w.heap.size w w' := by
  unfold cav
  cases hL : L.ok
  · exact scav_0 L A B w hL
  cases hA : A.ok
  · exact scav_1 L A B w hL hA
  cases hB : B.ok
  · exact scav_2 L A B w hL hA hB
  · exact scav_3 L A B w hL hA hB
def hfK (p : Q) : Bool := leK (addK p p) (addQ p p) one.ok one
def hfQ (p : Q) : Q := leQ (addK p p) (addQ p p) one.ok one
set_option maxRecDepth 20000 in
set_option maxHeartbeats 1600000 in
theorem scv_1 (L A B : Q) (w : World) (hc : cav L A B = false) : Calls Try.prog 19 #[.agg #[.int .i64 L.n, .int .i64 L.d], .agg #[.int .i64 A.n, .int .i64 A.d], .agg #[.int .i64 B.n, .int .i64 B.d]] w fun e w' => e = .returned (.agg #[.int .i64 1, .int .i64 0, .int .i64 0, .int .i64 0, .int .i64 0, .int .i64 0, .int .i64 0, .bool false]) ∧ Below w.heap.size w w' := by
  go_enter Try.func19, Try.ntmps19
  go_wp2_with fail
  refine (scav L A B _).mono ?_
  rintro e w1 ⟨rfl, hb⟩
  have HO : Hid (Below w.heap.size w w1) := by refine box_step ?_ hb (by simp <;> omega); go_grown
  have X0 : Blk w1 (w.heap.size) #[.int .i64 L.n, .int .i64 L.d] 32 := Blk.old ((Blk.alloc (Blk.alloc (Blk.alloc (Blk.new (by simp)) _) _) _)) hb
  have K0 : Hid (w1.cell? ⟨w.heap.size, 0, none⟩ = some (.int .i64 L.n)) := X0.cell rfl
  have K1 : Hid (w1.cell? ⟨w.heap.size, 1, none⟩ = some (.int .i64 L.d)) := X0.cell rfl
  clear X0
  have X1 : Blk w1 (w.heap.size + 1) #[.int .i64 A.n, .int .i64 A.d] 32 := Blk.old ((Blk.alloc (Blk.alloc (Blk.new (by simp)) _) _)) hb
  have K2 : Hid (w1.cell? ⟨w.heap.size + 1, 0, none⟩ = some (.int .i64 A.n)) := X1.cell rfl
  have K3 : Hid (w1.cell? ⟨w.heap.size + 1, 1, none⟩ = some (.int .i64 A.d)) := X1.cell rfl
  clear X1
  have X2 : Blk w1 (w.heap.size + 1 + 1) #[.int .i64 B.n, .int .i64 B.d] 32 := Blk.old ((Blk.alloc (Blk.new (by simp)) _)) hb
  have K4 : Hid (w1.cell? ⟨w.heap.size + 1 + 1, 0, none⟩ = some (.int .i64 B.n)) := X2.cell rfl
  have K5 : Hid (w1.cell? ⟨w.heap.size + 1 + 1, 1, none⟩ = some (.int .i64 B.d)) := X2.cell rfl
  clear X2
  have RB : Hid (Blk w1 (w.heap.size + 1 + 1 + 1) #[.int .i64 0, .int .i64 0, .int .i64 0, .int .i64 0, .int .i64 0, .int .i64 0, .int .i64 0, .bool false] 36) := Blk.old (Blk.new (by simp)) hb
  clear hb
  have r0 := RB.out.cell (j := 0) rfl
  have r1 := RB.out.cell (j := 1) rfl
  have r2 := RB.out.cell (j := 2) rfl
  have r3 := RB.out.cell (j := 3) rfl
  have r4 := RB.out.cell (j := 4) rfl
  have r5 := RB.out.cell (j := 5) rfl
  have r6 := RB.out.cell (j := 6) rfl
  have r7 := RB.out.cell (j := 7) rfl
  have rf := RB.out.frozen
  go_wp2
  refine bodyPost_ret (v := .agg #[.int .i64 1, .int .i64 0, .int .i64 0, .int .i64 0, .int .i64 0, .int .i64 0, .int .i64 0, .bool false]) (by simp [results, Try.results19, go_sem, r0, r1, r2, r3, r4, r5, r6, r7, World.cell?_alloc_lt, RB.out.lt] <;> (repeat' (first | rfl | apply And.intro))) rfl ⟨rfl, ?_⟩
  have h := HO.out
  have hlt := RB.out.lt
  have hsz := h.size
  go_grown
end Go.Proofs.Ytkkajcdjkfbcgaa
