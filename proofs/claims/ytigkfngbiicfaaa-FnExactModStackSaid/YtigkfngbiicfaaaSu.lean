/- Stacks of plates over residues: the program's ModStack: contract. -/
import Derived.Test.YtigkfngbiicfaaaSt
namespace Go.Proofs.Ytigkfngbiicfaaa
open Go.RowKit
set_option linter.unusedVariables false
/-- The result's plate, made and not yet told, and the plate that is reckoned. -/
def Sk (w W : World) (P : Nat → Int) : Prop := Pk (w.heap.size + 1) W P ∧ Pk w.heap.size W (fun _ => 0) ∧ Below w.heap.size w W
theorem Sk.later {w W W' : World} {P : Nat → Int} (h : Sk w W P) (hb : Below W.heap.size W W') : Sk w W' P := ⟨h.1.later hb, h.2.1.later hb, h.2.2.trans (hb.mono h.2.2.size)⟩
theorem Sk.start (w : World) : Sk w ((w.alloc (.cells #[.int .i64 0, .int .i64 0, .int .i64 0, .int .i64 0] 34)).alloc (.cells #[.int .i64 1, .int .i64 0, .int .i64 0, .int .i64 1] 34)) (Wv.stk (fun _ _ => 0) 0) :=
  ⟨heap_alloc2_new _ _ _, heap_alloc2_old _ _ _, ((Below.refl _ _).alloc (Nat.le_refl _) _).alloc (by simp) _⟩
theorem Sk.set {w W : World} {P Q : Nat → Int} (h : Sk w W P) : Sk w ((((W.setCell ⟨w.heap.size + 1, 0, none⟩ (.int .i64 (Q 0))).setCell ⟨w.heap.size + 1, 1, none⟩ (.int .i64 (Q 1))).setCell ⟨w.heap.size + 1, 2, none⟩ (.int .i64 (Q 2))).setCell ⟨w.heap.size + 1, 3, none⟩ (.int .i64 (Q 3))) Q := by
  have hn : w.heap.size ≠ w.heap.size + 1 := by omega
  have hl : w.heap.size ≤ w.heap.size + 1 := by omega
  exact ⟨h.1.set, (((h.2.1.setOther hn _).setOther hn _).setOther hn _).setOther hn _, (((h.2.2.setCell hl _).setCell hl _).setCell hl _).setCell hl _⟩
theorem Sk.drew {w W : World} {P : Nat → Int} (h : Sk w W P) : Sk w W.drew P := ⟨h.1, h.2.1, h.2.2.drew⟩
set_option maxHeartbeats 4000000 in
theorem iStack_some (b off n cap : Nat) (G : Nat → Nat → Int) (w : World) (h0 : 0 < n) (hn : n ≤ 1000000000) (hc : ∀ i, i < n → ∀ j, j < 4 → w.cell? ⟨b, off + i * 4 + j, none⟩ = some (icl (G i) j)) :
    Calls Try.prog 30 #[.slice (some ⟨b, off, none⟩) n cap] w fun e w' => e = .returned (Mv (Wv.stk G n)) ∧ Below w.heap.size w w' := by
  have later : ∀ (wr : World) (p : Addr) {v : Value}, w.cell? p = some v → Below w.heap.size w wr → wr.cell? p = some v := fun wr p v h hb => (hb.cell (World.block_lt_of_cell? _ _ h)).trans h
  go_enter Try.func30, Try.ntmps30
  go_wp2_with fail
  go_loopw [8] (fun i wr => ∃ k : Nat, k ≤ n ∧ i = .int .i64 k ∧ Hid (Sk w wr (Wv.stk G k))) (fun i _ => n - (intOf i).toNat)
  case atStart => exact ⟨0, Nat.zero_le _, rfl, Sk.start w⟩
  case round =>
    obtain ⟨k, hk, rfl, HS⟩ := hrel
    by_cases hkn : k < n
    · obtain ⟨P, hP⟩ : ∃ P, P = Wv.stk G k := ⟨_, rfl⟩
      obtain ⟨Q, hQ⟩ : ∃ Q, Q = G k := ⟨_, rfl⟩
      have HPQ : Hid (Wv.stk G (k + 1) = Wv.mulP P Q) := by rw [hP, hQ]; rfl
      rw [← hP] at HS
      have g0 : wr.cell? ⟨b, off + k * 4, none⟩ = some (.int .i64 (Q 0)) := by rw [hQ]; exact later _ _ (hc k hkn 0 (by omega)) HS.out.2.2
      have g1 : wr.cell? ⟨b, off + k * 4 + 1, none⟩ = some (.int .i64 (Q 1)) := by rw [hQ]; exact later _ _ (hc k hkn 1 (by omega)) HS.out.2.2
      have g2 : wr.cell? ⟨b, off + k * 4 + 2, none⟩ = some (.int .i64 (Q 2)) := by rw [hQ]; exact later _ _ (hc k hkn 2 (by omega)) HS.out.2.2
      have g3 : wr.cell? ⟨b, off + k * 4 + 3, none⟩ = some (.int .i64 (Q 3)) := by rw [hQ]; exact later _ _ (hc k hkn 3 (by omega)) HS.out.2.2
      have p0 := HS.out.1.c0
      have p1 := HS.out.1.c1
      have p2 := HS.out.1.c2
      have p3 := HS.out.1.c3
      clear hc later hP hQ
      go_wp2
      go_region_with (first | (go_at_call 61; refine (iMulP_any P Q _).mono ?_; rintro e w1 ⟨rfl, hb1⟩; have hS1 : Sk w w1 P := HS.out.drew.later hb1; have z0 := hS1.1.c0; have y0 := hS1.1.fz 0; have z1 := hS1.1.c1; have y1 := hS1.1.fz 1; have z2 := hS1.1.c2; have y2 := hS1.1.fz 2; have z3 := hS1.1.c3; have y3 := hS1.1.fz 3; have HS1 : Hid (Sk w w1 P) := hS1; clear hS1 hb1))
      all_goals
      clear z0 z1 z2 z3 y0 y1 y2 y3 p0 p1 p2 p3 g0 g1 g2 g3
      go_wp2
      go_roundw
      case rel => exact ⟨k + 1, by omega, by simp, by rw [HPQ.out]; exact HS1.out.set (Q := Wv.mulP P Q)⟩
      case measure => simp [intOf]; omega
    · obtain rfl : k = n := by omega
      obtain ⟨P, hP⟩ : ∃ P, P = Wv.stk G k := ⟨_, rfl⟩
      have HPP : Hid (Wv.stk G k = P) := hP.symm
      rw [← hP] at HS
      have p0 := HS.out.1.c0
      have r0 := HS.out.2.1.c0
      have q0 := HS.out.2.1.fz 0
      have p1 := HS.out.1.c1
      have r1 := HS.out.2.1.c1
      have q1 := HS.out.2.1.fz 1
      have p2 := HS.out.1.c2
      have r2 := HS.out.2.1.c2
      have q2 := HS.out.2.1.fz 2
      have p3 := HS.out.1.c3
      have r3 := HS.out.2.1.c3
      have q3 := HS.out.2.1.fz 3
      clear hc later hP
      go_wp2
      refine bodyPost_ret (v := Mv P) (by simp [results, Try.results30, go_sem, r0, r1, r2, r3, Mv]) rfl ⟨by rw [HPP.out], ?_⟩
      exact (((HS.out.2.2.setCell (Nat.le_refl _) _).setCell (Nat.le_refl _) _).setCell (Nat.le_refl _) _).setCell (Nat.le_refl _) _
set_option maxHeartbeats 1000000 in
theorem iStack_none (ao : Option Addr) (cap : Nat) (G : Nat → Nat → Int) (w : World) : Calls Try.prog 30 #[.slice ao 0 cap] w fun e w' => e = .returned (Mv (Wv.stk G 0)) ∧ Below w.heap.size w w' := by
  go_enter Try.func30, Try.ntmps30
  go_wp2_with fail
  refine wp_loop_rounds 1 ?_
  rw [rounds_succ]
  go_wp2
  refine bodyPost_ret (v := Mv (Wv.stk G 0)) (by simp [results, Try.results30, go_sem, Mv, Wv.stk]) rfl ⟨rfl, ?_⟩
  go_grown
set_option maxHeartbeats 1000000 in
theorem sStack_none (ao : Option Addr) (cap : Nat) (G : Nat → Nat → Int) (w : World) : Calls Try.prog 28 #[.slice ao 0 cap] w fun e w' => e = .returned (Mv (Wv.stk G 0)) ∧ Below w.heap.size w w' := by
  go_enter Try.func28, Try.ntmps28
  go_wp2_with fail
  refine wp_loop_rounds 1 ?_
  rw [rounds_succ]
  go_wp2
  refine bodyPost_ret (v := Mv (Wv.stk G 0)) (by simp [results, Try.results28, go_sem, Mv, Wv.stk]) rfl ⟨rfl, ?_⟩
  go_grown
end Go.Proofs.Ytigkfngbiicfaaa
