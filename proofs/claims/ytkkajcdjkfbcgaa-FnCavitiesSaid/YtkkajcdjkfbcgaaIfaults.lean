/- The program's FracFault: the same number. -/
import Derived.Test.YtkkajcdjkfbcgaaFaults
import Derived.Test.YtkkajcdjkfbcgaaStill
namespace Go.Proofs.Ytkkajcdjkfbcgaa
open Go.RowKit
theorem within_below (n d : Int) (w : World) :
    Calls Try.prog 129 #[.agg #[.int .i64 n, .int .i64 d]] w fun e w' => e = .returned (.bool (inB n d)) ∧ Below w.heap.size w w' :=
  (within_any n d w).mono fun _ _ ⟨he, hw⟩ => ⟨he, below_of_alloc hw⟩
set_option maxHeartbeats 400000 in
theorem ifault_1 (n d : Int) (w : World) (h : inB n d = false) :
    Calls Try.prog 125 #[.agg #[.int .i64 n, .int .i64 d]] w fun e w' => e = .returned (.int .i64 (fault n d)) ∧ Below w.heap.size w w' := by
  rw [fault_out (by simp [inB] at h; omega)]
  have c0 : ∀ x : Kept (w.heap.size + 1) (w.alloc (.cells #[.int .i64 n, .int .i64 d] 32)), x.w.cell? ⟨w.heap.size, 0, none⟩ = some (.int .i64 n) := fun x => x.cell (by simp) (by simp)
  have c1 : ∀ x : Kept (w.heap.size + 1) (w.alloc (.cells #[.int .i64 n, .int .i64 d] 32)), x.w.cell? ⟨w.heap.size, 1, none⟩ = some (.int .i64 d) := fun x => x.cell (by simp) (by simp)
  go_enter Try.func125, Try.ntmps125
  go_wp2
  refine wp_region_kept (w.heap.size + 1) (by kernel_rfl) (by kernel_rfl) ?_
  intro hne
  repeat (go_big_quiet_step ((go_at_call 129; exact Calls.kept_of (by simp) (within_below _ _ _))))
  refine wpQuiet_nil ?_
  rintro _ ⟨⟨w', hb⟩, rfl⟩
  go_wp2
  go_ret
  exact ⟨rfl, ((Below.refl _ _).alloc (Nat.le_refl _) _).trans (hb.mono (by omega))⟩
theorem st25 : Try.prog.stoodInHeld 32 = false := by kernel_rfl
set_option maxHeartbeats 400000 in
theorem ifault_2 (n d : Int) (w : World) (h : inB n d = true) (g : Int.gcd n d = 1) :
    Calls Try.prog 125 #[.agg #[.int .i64 n, .int .i64 d]] w fun e w' => e = .returned (.int .i64 (fault n d)) ∧ Below w.heap.size w w' := by
  rw [fault_in (inB_t h) g]
  obtain ⟨h1, h2, h3, h4⟩ := inB_t h
  have st := st25
  have e1 : (Fm.rN n d == n) = true := by rw [beq_iff_eq]; exact ((Fm.r_same n d h1).2 g).1
  have e2 : (Fm.rD n d == d) = true := by rw [beq_iff_eq]; exact ((Fm.r_same n d h1).2 g).2
  clear g
  have c0 : ∀ x : Kept (w.heap.size + 1) (w.alloc (.cells #[.int .i64 n, .int .i64 d] 32)), x.w.cell? ⟨w.heap.size, 0, none⟩ = some (.int .i64 n) := fun x => x.cell (by simp) (by simp)
  have c1 : ∀ x : Kept (w.heap.size + 1) (w.alloc (.cells #[.int .i64 n, .int .i64 d] 32)), x.w.cell? ⟨w.heap.size, 1, none⟩ = some (.int .i64 d) := fun x => x.cell (by simp) (by simp)
  go_enter Try.func125, Try.ntmps125
  go_wp2
  refine wp_region_kept (w.heap.size + 1) (by kernel_rfl) (by kernel_rfl) ?_
  intro hne
  repeat (go_big_quiet_step (first | (go_at_call 129; exact Calls.kept_of (by simp) (within_below _ _ _)) | (go_at_call 130; exact Calls.kept_of (by simp) (lowest_any _ _ _ (by omega) (by omega) (by omega) (by omega) (by omega)))))
  refine wpQuiet_nil ?_
  rintro _ ⟨⟨w', hb⟩, rfl⟩
  go_wp2
  go_ret
  exact ⟨rfl, ((Below.refl _ _).alloc (Nat.le_refl _) _).trans (hb.mono (by omega))⟩
set_option maxHeartbeats 400000 in
theorem ifault_3 (n d : Int) (w : World) (h : inB n d = true) (g : Int.gcd n d ≠ 1 ∧ Fm.rN n d = n) :
    Calls Try.prog 125 #[.agg #[.int .i64 n, .int .i64 d]] w fun e w' => e = .returned (.int .i64 (fault n d)) ∧ Below w.heap.size w w' := by
  rw [fault_gcd g.1]
  obtain ⟨h1, h2, h3, h4⟩ := inB_t h
  have st := st25
  have e1 : (Fm.rN n d == n) = true := by rw [beq_iff_eq]; exact g.2
  have e2 : (Fm.rD n d == d) = false := by rw [beq_eq_false_iff_ne]; exact fun h => g.1 ((Fm.r_same n d h1).1 ⟨g.2, h⟩)
  clear g
  have c0 : ∀ x : Kept (w.heap.size + 1) (w.alloc (.cells #[.int .i64 n, .int .i64 d] 32)), x.w.cell? ⟨w.heap.size, 0, none⟩ = some (.int .i64 n) := fun x => x.cell (by simp) (by simp)
  have c1 : ∀ x : Kept (w.heap.size + 1) (w.alloc (.cells #[.int .i64 n, .int .i64 d] 32)), x.w.cell? ⟨w.heap.size, 1, none⟩ = some (.int .i64 d) := fun x => x.cell (by simp) (by simp)
  go_enter Try.func125, Try.ntmps125
  go_wp2
  refine wp_region_kept (w.heap.size + 1) (by kernel_rfl) (by kernel_rfl) ?_
  intro hne
  repeat (go_big_quiet_step (first | (go_at_call 129; exact Calls.kept_of (by simp) (within_below _ _ _)) | (go_at_call 130; exact Calls.kept_of (by simp) (lowest_any _ _ _ (by omega) (by omega) (by omega) (by omega) (by omega)))))
  refine wpQuiet_nil ?_
  rintro _ ⟨⟨w', hb⟩, rfl⟩
  go_wp2
  go_ret
  exact ⟨rfl, ((Below.refl _ _).alloc (Nat.le_refl _) _).trans (hb.mono (by omega))⟩
set_option maxHeartbeats 400000 in
theorem ifault_4 (n d : Int) (w : World) (h : inB n d = true) (g : Int.gcd n d ≠ 1 ∧ Fm.rN n d ≠ n) :
    Calls Try.prog 125 #[.agg #[.int .i64 n, .int .i64 d]] w fun e w' => e = .returned (.int .i64 (fault n d)) ∧ Below w.heap.size w w' := by
  rw [fault_gcd g.1]
  obtain ⟨h1, h2, h3, h4⟩ := inB_t h
  have st := st25
  have e1 : (Fm.rN n d == n) = false := by rw [beq_eq_false_iff_ne]; exact g.2
  clear g
  have c0 : ∀ x : Kept (w.heap.size + 1) (w.alloc (.cells #[.int .i64 n, .int .i64 d] 32)), x.w.cell? ⟨w.heap.size, 0, none⟩ = some (.int .i64 n) := fun x => x.cell (by simp) (by simp)
  have c1 : ∀ x : Kept (w.heap.size + 1) (w.alloc (.cells #[.int .i64 n, .int .i64 d] 32)), x.w.cell? ⟨w.heap.size, 1, none⟩ = some (.int .i64 d) := fun x => x.cell (by simp) (by simp)
  go_enter Try.func125, Try.ntmps125
  go_wp2
  refine wp_region_kept (w.heap.size + 1) (by kernel_rfl) (by kernel_rfl) ?_
  intro hne
  repeat (go_big_quiet_step (first | (go_at_call 129; exact Calls.kept_of (by simp) (within_below _ _ _)) | (go_at_call 130; exact Calls.kept_of (by simp) (lowest_any _ _ _ (by omega) (by omega) (by omega) (by omega) (by omega)))))
  refine wpQuiet_nil ?_
  rintro _ ⟨⟨w', hb⟩, rfl⟩
  go_wp2
  go_ret
  exact ⟨rfl, ((Below.refl _ _).alloc (Nat.le_refl _) _).trans (hb.mono (by omega))⟩
/-- The program's FracFault. -/
theorem ifault (n d : Int) (w : World) :
    Calls Try.prog 125 #[.agg #[.int .i64 n, .int .i64 d]] w fun e w' => e = .returned (.int .i64 (fault n d)) ∧ Below w.heap.size w w' := by
  cases h : inB n d
  · exact ifault_1 n d w h
  by_cases g : Int.gcd n d = 1
  · exact ifault_2 n d w h g
  by_cases k : Fm.rN n d = n
  · exact ifault_3 n d w h ⟨g, k⟩
  · exact ifault_4 n d w h ⟨g, k⟩
end Go.Proofs.Ytkkajcdjkfbcgaa
