/- The laws' own copies and comparisons of systems, rays and parts; how they are opened; parts' faults; systems turned about. -/
import Derived.Test.YtkkajcdjkfbcgaaOpen
import Derived.Test.YtkkajcdjkfbcgaaMake
import Derived.Test.YtkkajcdjkfbcgaaPu
namespace Go.Proofs.Ytkkajcdjkfbcgaa
open Go.RowKit
set_option linter.unusedVariables false
set_option linter.unusedSimpArgs false
/-- What is wrong with a part. -/
def pfault (k : Int) (x : Q) : Int := if k = 1 ∨ k = 2 then fault x.n x.d else 1
set_option maxRecDepth 20000 in
set_option maxHeartbeats 1600000 in
theorem spfault_0 (k : Int) (x : Q) (w : World) (h1 : (k != 1) = false) : Calls Try.prog 115 #[.agg #[.int .i64 k, .int .i64 x.n, .int .i64 x.d]] w fun e w' => e = .returned (.int .i64 (fault x.n x.d)) ∧ Below w.heap.size w w' := by
  go_enter Try.func115, Try.ntmps115
  go_wp2_with fail
  refine (sfaultq x _).mono ?_
  rintro e w1 ⟨rfl, hb⟩
  have HO : Hid (Below w.heap.size w w1) := by refine box_step ?_ hb (by simp <;> omega); go_grown
  have X0 : Blk w1 (w.heap.size) #[.int .i64 k, .int .i64 x.n, .int .i64 x.d] 111 := Blk.old ((Blk.new (by simp))) hb
  have K0 : Hid (w1.cell? ⟨w.heap.size, 0, none⟩ = some (.int .i64 k)) := X0.cell rfl
  have K1 : Hid (w1.cell? ⟨w.heap.size, 1, none⟩ = some (.int .i64 x.n)) := X0.cell rfl
  have K2 : Hid (w1.cell? ⟨w.heap.size, 2, none⟩ = some (.int .i64 x.d)) := X0.cell rfl
  clear X0
  clear hb
  go_wp2
  go_ret
  refine ⟨by first | rfl | simp, ?_⟩
  have h := HO.out
  have hsz := h.size
  go_grown
set_option maxRecDepth 20000 in
set_option maxHeartbeats 1600000 in
theorem spfault_1 (k : Int) (x : Q) (w : World) (h1 : (k != 1) = true) (h2 : (k != 2) = false) : Calls Try.prog 115 #[.agg #[.int .i64 k, .int .i64 x.n, .int .i64 x.d]] w fun e w' => e = .returned (.int .i64 (fault x.n x.d)) ∧ Below w.heap.size w w' := by
  go_enter Try.func115, Try.ntmps115
  go_wp2_with fail
  refine (sfaultq x _).mono ?_
  rintro e w1 ⟨rfl, hb⟩
  have HO : Hid (Below w.heap.size w w1) := by refine box_step ?_ hb (by simp <;> omega); go_grown
  have X0 : Blk w1 (w.heap.size) #[.int .i64 k, .int .i64 x.n, .int .i64 x.d] 111 := Blk.old ((Blk.new (by simp))) hb
  have K0 : Hid (w1.cell? ⟨w.heap.size, 0, none⟩ = some (.int .i64 k)) := X0.cell rfl
  have K1 : Hid (w1.cell? ⟨w.heap.size, 1, none⟩ = some (.int .i64 x.n)) := X0.cell rfl
  have K2 : Hid (w1.cell? ⟨w.heap.size, 2, none⟩ = some (.int .i64 x.d)) := X0.cell rfl
  clear X0
  clear hb
  go_wp2
  go_ret
  refine ⟨by first | rfl | simp, ?_⟩
  have h := HO.out
  have hsz := h.size
  go_grown
set_option maxHeartbeats 400000 in
theorem spfault_2 (k : Int) (x : Q) (w : World) (h1 : (k != 1) = true) (h2 : (k != 2) = true) : Calls Try.prog 115 #[.agg #[.int .i64 k, .int .i64 x.n, .int .i64 x.d]] w fun e w' => e = .returned (.int .i64 1) ∧ Below w.heap.size w w' := by
  go_enter Try.func115, Try.ntmps115
  go_wp2
  go_ret
  exact ⟨rfl, (Below.refl _ _).alloc (Nat.le_refl _) _⟩
theorem spfault (k : Int) (x : Q) (w : World) : Calls Try.prog 115 #[.agg #[.int .i64 k, .int .i64 x.n, .int .i64 x.d]] w fun e w' => e = .returned (.int .i64 (pfault k x)) ∧ Below w.heap.size w w' := by
  unfold pfault
  by_cases h1 : k = 1
  · rw [if_pos (Or.inl h1)]; exact spfault_0 k x w (by simpa using h1)
  by_cases h2 : k = 2
  · rw [if_pos (Or.inr h2)]; exact spfault_1 k x w (by simpa using h1) (by simpa using h2)
  · rw [if_neg (by omega)]; exact spfault_2 k x w (by simpa using h1) (by simpa using h2)
end Go.Proofs.Ytkkajcdjkfbcgaa
