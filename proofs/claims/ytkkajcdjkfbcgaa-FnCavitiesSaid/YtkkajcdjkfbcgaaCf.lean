/- Cavities: what is wrong with one, the program's way. -/
import Derived.Test.YtkkajcdjkfbcgaaCb
import Derived.Test.YtkkajcdjkfbcgaaCc
import Derived.Handy
namespace Go.Proofs.Ytkkajcdjkfbcgaa
open Go.RowKit
set_option linter.unusedVariables false
set_option linter.unusedSimpArgs false
def tri (a b c : Q) : Nat → Q
  | 0 => a
  | 1 => b
  | _ => c
theorem all3 (a b c : Q) : allB (tri a b c) 3 = (a.ok && b.ok && c.ok) := by simp [allB, List.range, List.range.loop, tri, Bool.and_assoc]
theorem any3q (a b c : Q) (w : World) (k : Nat) (h0 : w.cell? ⟨k, 0, none⟩ = some (.int .i64 a.n)) (h1 : w.cell? ⟨k, 1, none⟩ = some (.int .i64 a.d)) (h2 : w.cell? ⟨k, 2, none⟩ = some (.int .i64 b.n)) (h3 : w.cell? ⟨k, 3, none⟩ = some (.int .i64 b.d)) (h4 : w.cell? ⟨k, 4, none⟩ = some (.int .i64 c.n)) (h5 : w.cell? ⟨k, 5, none⟩ = some (.int .i64 c.d)) :
    Calls Try.prog 109 #[.slice (some ⟨k, 0, none⟩) 3 3] w fun e w' => e = .returned (.bool (!(a.ok && b.ok && c.ok))) ∧ Below w.heap.size w w' := by
  have := anyf k 3 3 (tri a b c) w (by omega) (fun i hi => by
    rcases i with _ | _ | _ | i
    · exact ⟨h0, h1⟩
    · exact ⟨h2, h3⟩
    · exact ⟨h4, h5⟩
    · omega)
  rwa [all3] at this
set_option maxRecDepth 20000 in
set_option maxHeartbeats 1600000 in
theorem icavf_0 (L A B : Q) (w : World) (h0 : (L.ok && A.ok && B.ok) = false) : Calls Try.prog 67 #[.agg #[.int .i64 L.n, .int .i64 L.d], .agg #[.int .i64 A.n, .int .i64 A.d], .agg #[.int .i64 B.n, .int .i64 B.d]] w fun e w' => e = .returned (.int .i64 1) ∧ Below w.heap.size w w' := by
  go_enter Try.func67, Try.ntmps67
  go_wp2_with fail
  refine (any3q L A B _ _ ?_ ?_ ?_ ?_ ?_ ?_).mono ?_
  iterate 6 (· exact cell_new (by simp) rfl)
  rintro e w1 ⟨rfl, hb0⟩
  have hb := box_in hb0
  clear hb0
  have HO : Hid (Below w.heap.size w w1) := by refine box_step ?_ hb (by simp <;> omega); go_grown
  have X0 : Blk w1 (w.heap.size) #[.int .i64 L.n, .int .i64 L.d] 32 := Blk.old ((Blk.alloc (Blk.alloc (Blk.new (by simp)) _) _)) hb
  have K0 : Hid (w1.cell? ⟨w.heap.size, 0, none⟩ = some (.int .i64 L.n)) := X0.cell rfl
  have K1 : Hid (w1.cell? ⟨w.heap.size, 1, none⟩ = some (.int .i64 L.d)) := X0.cell rfl
  clear X0
  have X1 : Blk w1 (w.heap.size + 1) #[.int .i64 A.n, .int .i64 A.d] 32 := Blk.old ((Blk.alloc (Blk.new (by simp)) _)) hb
  have K2 : Hid (w1.cell? ⟨w.heap.size + 1, 0, none⟩ = some (.int .i64 A.n)) := X1.cell rfl
  have K3 : Hid (w1.cell? ⟨w.heap.size + 1, 1, none⟩ = some (.int .i64 A.d)) := X1.cell rfl
  clear X1
  have X2 : Blk w1 (w.heap.size + 1 + 1) #[.int .i64 B.n, .int .i64 B.d] 32 := Blk.old ((Blk.new (by simp))) hb
  have K4 : Hid (w1.cell? ⟨w.heap.size + 1 + 1, 0, none⟩ = some (.int .i64 B.n)) := X2.cell rfl
  have K5 : Hid (w1.cell? ⟨w.heap.size + 1 + 1, 1, none⟩ = some (.int .i64 B.d)) := X2.cell rfl
  clear X2
  clear hb
  have c0 := K0.out
  have c1 := K1.out
  have c2 := K2.out
  have c3 := K3.out
  have c4 := K4.out
  have c5 := K5.out
  go_wp2
  go_ret
  refine ⟨by first | rfl | simp, ?_⟩
  have h := HO.out
  have hsz := h.size
  go_grown
set_option maxRecDepth 20000 in
set_option maxHeartbeats 1600000 in
theorem icavf_1 (L A B : Q) (w : World) (h0 : (L.ok && A.ok && B.ok) = true) (hp : L.n ≤ 0) : Calls Try.prog 67 #[.agg #[.int .i64 L.n, .int .i64 L.d], .agg #[.int .i64 A.n, .int .i64 A.d], .agg #[.int .i64 B.n, .int .i64 B.d]] w fun e w' => e = .returned (.int .i64 1) ∧ Below w.heap.size w w' := by
  go_enter Try.func67, Try.ntmps67
  go_wp2_with fail
  refine (any3q L A B _ _ ?_ ?_ ?_ ?_ ?_ ?_).mono ?_
  iterate 6 (· exact cell_new (by simp) rfl)
  rintro e w1 ⟨rfl, hb0⟩
  have hb := box_in hb0
  clear hb0
  have HO : Hid (Below w.heap.size w w1) := by refine box_step ?_ hb (by simp <;> omega); go_grown
  have X0 : Blk w1 (w.heap.size) #[.int .i64 L.n, .int .i64 L.d] 32 := Blk.old ((Blk.alloc (Blk.alloc (Blk.new (by simp)) _) _)) hb
  have K0 : Hid (w1.cell? ⟨w.heap.size, 0, none⟩ = some (.int .i64 L.n)) := X0.cell rfl
  have K1 : Hid (w1.cell? ⟨w.heap.size, 1, none⟩ = some (.int .i64 L.d)) := X0.cell rfl
  clear X0
  have X1 : Blk w1 (w.heap.size + 1) #[.int .i64 A.n, .int .i64 A.d] 32 := Blk.old ((Blk.alloc (Blk.new (by simp)) _)) hb
  have K2 : Hid (w1.cell? ⟨w.heap.size + 1, 0, none⟩ = some (.int .i64 A.n)) := X1.cell rfl
  have K3 : Hid (w1.cell? ⟨w.heap.size + 1, 1, none⟩ = some (.int .i64 A.d)) := X1.cell rfl
  clear X1
  have X2 : Blk w1 (w.heap.size + 1 + 1) #[.int .i64 B.n, .int .i64 B.d] 32 := Blk.old ((Blk.new (by simp))) hb
  have K4 : Hid (w1.cell? ⟨w.heap.size + 1 + 1, 0, none⟩ = some (.int .i64 B.n)) := X2.cell rfl
  have K5 : Hid (w1.cell? ⟨w.heap.size + 1 + 1, 1, none⟩ = some (.int .i64 B.d)) := X2.cell rfl
  clear X2
  clear hb
  have c0 := K0.out
  have c1 := K1.out
  have c2 := K2.out
  have c3 := K3.out
  have c4 := K4.out
  have c5 := K5.out
  go_wp2
  go_ret
  refine ⟨by first | rfl | simp, ?_⟩
  have h := HO.out
  have hsz := h.size
  go_grown
set_option maxRecDepth 20000 in
set_option maxHeartbeats 1600000 in
theorem icavf_2 (L A B : Q) (w : World) (h0 : (L.ok && A.ok && B.ok) = true) (hp : 0 < L.n) : Calls Try.prog 67 #[.agg #[.int .i64 L.n, .int .i64 L.d], .agg #[.int .i64 A.n, .int .i64 A.d], .agg #[.int .i64 B.n, .int .i64 B.d]] w fun e w' => e = .returned (.int .i64 0) ∧ Below w.heap.size w w' := by
  go_enter Try.func67, Try.ntmps67
  go_wp2_with fail
  refine (any3q L A B _ _ ?_ ?_ ?_ ?_ ?_ ?_).mono ?_
  iterate 6 (· exact cell_new (by simp) rfl)
  rintro e w1 ⟨rfl, hb0⟩
  have hb := box_in hb0
  clear hb0
  have HO : Hid (Below w.heap.size w w1) := by refine box_step ?_ hb (by simp <;> omega); go_grown
  have X0 : Blk w1 (w.heap.size) #[.int .i64 L.n, .int .i64 L.d] 32 := Blk.old ((Blk.alloc (Blk.alloc (Blk.new (by simp)) _) _)) hb
  have K0 : Hid (w1.cell? ⟨w.heap.size, 0, none⟩ = some (.int .i64 L.n)) := X0.cell rfl
  have K1 : Hid (w1.cell? ⟨w.heap.size, 1, none⟩ = some (.int .i64 L.d)) := X0.cell rfl
  clear X0
  have X1 : Blk w1 (w.heap.size + 1) #[.int .i64 A.n, .int .i64 A.d] 32 := Blk.old ((Blk.alloc (Blk.new (by simp)) _)) hb
  have K2 : Hid (w1.cell? ⟨w.heap.size + 1, 0, none⟩ = some (.int .i64 A.n)) := X1.cell rfl
  have K3 : Hid (w1.cell? ⟨w.heap.size + 1, 1, none⟩ = some (.int .i64 A.d)) := X1.cell rfl
  clear X1
  have X2 : Blk w1 (w.heap.size + 1 + 1) #[.int .i64 B.n, .int .i64 B.d] 32 := Blk.old ((Blk.new (by simp))) hb
  have K4 : Hid (w1.cell? ⟨w.heap.size + 1 + 1, 0, none⟩ = some (.int .i64 B.n)) := X2.cell rfl
  have K5 : Hid (w1.cell? ⟨w.heap.size + 1 + 1, 1, none⟩ = some (.int .i64 B.d)) := X2.cell rfl
  clear X2
  clear hb
  have c0 := K0.out
  have c1 := K1.out
  have c2 := K2.out
  have c3 := K3.out
  have c4 := K4.out
  have c5 := K5.out
  go_wp2
  go_ret
  refine ⟨by first | rfl | simp, ?_⟩
  have h := HO.out
  have hsz := h.size
  go_grown
theorem icavf_no (L A B : Q) (w : World) (h : cav L A B = false) : Calls Try.prog 67 #[.agg #[.int .i64 L.n, .int .i64 L.d], .agg #[.int .i64 A.n, .int .i64 A.d], .agg #[.int .i64 B.n, .int .i64 B.d]] w fun e w' => e = .returned (.int .i64 1) ∧ Below w.heap.size w w' := by
  cases h0 : (L.ok && A.ok && B.ok)
  · exact icavf_0 L A B w h0
  · refine icavf_1 L A B w h0 ?_
    unfold cav at h
    rw [h0] at h
    simpa using h
theorem icavf_yes (L A B : Q) (w : World) (h : cav L A B = true) : Calls Try.prog 67 #[.agg #[.int .i64 L.n, .int .i64 L.d], .agg #[.int .i64 A.n, .int .i64 A.d], .agg #[.int .i64 B.n, .int .i64 B.d]] w fun e w' => e = .returned (.int .i64 0) ∧ Below w.heap.size w w' := by
  obtain ⟨h1, h2, h3, h4⟩ := cav_t h
  exact icavf_2 L A B w (by rw [h1, h2, h3]; rfl) h4
end Go.Proofs.Ytkkajcdjkfbcgaa
