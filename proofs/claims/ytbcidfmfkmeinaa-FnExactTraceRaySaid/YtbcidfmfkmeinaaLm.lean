/- Lists of faces and of rays: marks, and looking for them. -/
import Derived.Test.YtbcidfmfkmeinaaLi
namespace Go.Proofs.Ytbcidfmfkmeinaa
open Go.RowKit Fl
set_option linter.unusedVariables false
set_option linter.unusedSimpArgs false
/-- A whole number as a float. -/
def fi (z : Int) : Nat := floatOfInt .f64 z
theorem fi_nat {z : Int} (h : 0 ≤ z) : fi z = F false z.toNat 0 := by
  have e : ((z.toNat : Nat) : Int) = z := by omega
  have h2 := floatOfInt_F z.toNat
  rw [e] at h2
  exact h2
theorem conv3_run : ∀ (z : Int) (w : World), (convert 3 23 (.int .i64 z)).run Try.prog w = .ok (.float .f64 (fi z)) w := fun z w => run_convert_int_float w 3 23 .i64 .f64 z (by rw [Try.underlying3]; rfl) Try.underlying23
theorem fi_fin {z : Int} (h0 : 0 ≤ z) (h : z < 9007199254740992) : fi z < 9218868437227405312 := by
  rw [fi_nat h0]
  obtain ⟨r, hr, e, _⟩ := rep_word (rep_int (m := z.toNat) (by omega)) false
  rw [e, dW_false]; exact hr
theorem fi_self {z : Int} (h0 : 0 ≤ z) (h : z < 9007199254740992) : (FloatKind.f64.format.order (fi z) (fi z) != some .eq) = false := by
  have hf := fi_fin h0 h
  have : FloatKind.f64.format.order (fi z) (fi z) = some .eq := order_self (by omega) (by unfold Num; omega)
  rw [this]; rfl
def mfl (m k0 i : Nat) : Nat → Nat := fun j => fi ((k0 : Int) + m * i + j)
set_option maxRecDepth 20000 in
set_option maxHeartbeats 3200000 in
theorem markFa_some (g n cap k0 : Nat) (f : Nat → Nat → Value) (lo : Nat) (X w : World) (hn : n ≤ 1048576) (hk0 : k0 ≤ 1000000) (hs : SegV w g 41 n 5 f) (hfl : ∀ i, i < n → ∀ j, j < 5 → ∃ x, f i j = .float .f64 x) (hB : Below lo X w) (hlo : lo ≤ g) :
    Calls Try.prog 11 #[.slice (some ⟨g, 0, none⟩) n cap, .int .i64 k0] w fun e w' => e = .returned (.int .i64 ((k0 : Int) + 5 * n)) ∧ SegV w' g 41 n 5 (fun i j => fcl (mfl 5 k0 i) j) ∧ Below lo X w' ∧ (∀ b, b ≠ g → w'.heap[b]? = w.heap[b]?) ∧ w'.heap.size = w.heap.size := by
  have HS : Hid (SegV w g 41 n 5 f ∧ Below lo X w ∧ lo ≤ g) := ⟨hs, hB, hlo⟩
  have HF : Hid (∀ i, i < n → ∀ j, j < 5 → ∃ x, f i j = .float .f64 x) := hfl
  have hst := st64
  have hcv := conv3_run
  clear hs hB hlo hfl
  have hnI : (n : Int) ≤ 1048576 := by omega
  have hkI : (k0 : Int) ≤ 1000000 := by omega
  go_enter Try.func11, Try.ntmps11
  go_wp2_with fail
  go_loopw [1, 5] (fun s1 s5 wr => ∃ i : Nat, i ≤ n ∧ s1 = .int .i64 ((k0 : Int) + 5 * i) ∧ s5 = .int .i64 i ∧ Hid (SegV wr g 41 n 5 (fun a j => if a < i then fcl (mfl 5 k0 a) j else f a j) ∧ Below lo X wr ∧ (∀ b, b ≠ g → wr.heap[b]? = w.heap[b]?) ∧ wr.heap.size = w.heap.size)) (fun _ s5 _ => n - (intOf s5).toNat)
  case atStart => exact ⟨0, Nat.zero_le _, by simp, rfl, HS.out.1.congr (fun a _ j _ => by simp), HS.out.2.1, fun _ _ => rfl, rfl⟩
  case round =>
    obtain ⟨i, hi, rfl, rfl, HH⟩ := hrel
    by_cases hin : i < n
    · obtain ⟨x0, e0⟩ := HF.out i hin 0 (by omega)
      have a0 := HH.out.1.cell hin (show 0 < 5 by omega)
      obtain ⟨x1, e1⟩ := HF.out i hin 1 (by omega)
      have a1 := HH.out.1.cell hin (show 1 < 5 by omega)
      obtain ⟨x2, e2⟩ := HF.out i hin 2 (by omega)
      have a2 := HH.out.1.cell hin (show 2 < 5 by omega)
      obtain ⟨x3, e3⟩ := HF.out i hin 3 (by omega)
      have a3 := HH.out.1.cell hin (show 3 < 5 by omega)
      obtain ⟨x4, e4⟩ := HF.out i hin 4 (by omega)
      have a4 := HH.out.1.cell hin (show 4 < 5 by omega)
      have fz : ∀ j, wr.frozen? ⟨g, j, none⟩ = false := fun j => HH.out.1.frozen j
      simp only [Nat.add_zero, Nat.lt_irrefl, if_false, e0, e1, e2, e3, e4] at a0 a1 a2 a3 a4
      clear e0 e1 e2 e3 e4
      have hiI : (i : Int) < n := by omega
      obtain ⟨K, hK⟩ : ∃ K : Int, K = (k0 : Int) + 5 * i := ⟨_, rfl⟩
      have hK0 : 0 ≤ K := by omega
      have hK1 : K ≤ 8000000 := by omega
      have HK : Hid (K = (k0 : Int) + 5 * i) := hK
      rw [← hK]
      have HW : Hid (SegV (((((wr.setCell ⟨g, i * 5, none⟩ (.float .f64 (fi (K)))).setCell ⟨g, i * 5 + 1, none⟩ (.float .f64 (fi (K + 1)))).setCell ⟨g, i * 5 + 2, none⟩ (.float .f64 (fi (K + 1 + 1)))).setCell ⟨g, i * 5 + 3, none⟩ (.float .f64 (fi (K + 1 + 1 + 1)))).setCell ⟨g, i * 5 + 4, none⟩ (.float .f64 (fi (K + 1 + 1 + 1 + 1)))) g 41 n 5 (fun a j => if a < i + 1 then fcl (mfl 5 k0 a) j else f a j) ∧ Below lo X (((((wr.setCell ⟨g, i * 5, none⟩ (.float .f64 (fi (K)))).setCell ⟨g, i * 5 + 1, none⟩ (.float .f64 (fi (K + 1)))).setCell ⟨g, i * 5 + 2, none⟩ (.float .f64 (fi (K + 1 + 1)))).setCell ⟨g, i * 5 + 3, none⟩ (.float .f64 (fi (K + 1 + 1 + 1)))).setCell ⟨g, i * 5 + 4, none⟩ (.float .f64 (fi (K + 1 + 1 + 1 + 1)))) ∧ (∀ b, b ≠ g → (((((wr.setCell ⟨g, i * 5, none⟩ (.float .f64 (fi (K)))).setCell ⟨g, i * 5 + 1, none⟩ (.float .f64 (fi (K + 1)))).setCell ⟨g, i * 5 + 2, none⟩ (.float .f64 (fi (K + 1 + 1)))).setCell ⟨g, i * 5 + 3, none⟩ (.float .f64 (fi (K + 1 + 1 + 1)))).setCell ⟨g, i * 5 + 4, none⟩ (.float .f64 (fi (K + 1 + 1 + 1 + 1)))).heap[b]? = w.heap[b]?) ∧ (((((wr.setCell ⟨g, i * 5, none⟩ (.float .f64 (fi (K)))).setCell ⟨g, i * 5 + 1, none⟩ (.float .f64 (fi (K + 1)))).setCell ⟨g, i * 5 + 2, none⟩ (.float .f64 (fi (K + 1 + 1)))).setCell ⟨g, i * 5 + 3, none⟩ (.float .f64 (fi (K + 1 + 1 + 1)))).setCell ⟨g, i * 5 + 4, none⟩ (.float .f64 (fi (K + 1 + 1 + 1 + 1)))).heap.size = w.heap.size) := by
        refine ⟨SegV.congr (SegV.set (SegV.set (SegV.set (SegV.set (SegV.set HH.out.1 hin (show 0 < 5 by omega) (.float .f64 (fi (K)))) hin (show 1 < 5 by omega) (.float .f64 (fi (K + 1)))) hin (show 2 < 5 by omega) (.float .f64 (fi (K + 1 + 1)))) hin (show 3 < 5 by omega) (.float .f64 (fi (K + 1 + 1 + 1)))) hin (show 4 < 5 by omega) (.float .f64 (fi (K + 1 + 1 + 1 + 1)))) fun a ha j hj => ?_, (Below.setCell (Below.setCell (Below.setCell (Below.setCell (Below.setCell HH.out.2.1 HS.out.2.2 _) HS.out.2.2 _) HS.out.2.2 _) HS.out.2.2 _) HS.out.2.2 _), fun b hb => ?_, ?_⟩
        · by_cases c : a = i
          · subst c
            have e3 : a < a + 1 := by omega
            match j, hj with
            | 0, _ => simp [fcl, mfl, hK, e3]
            | 1, _ => simp [fcl, mfl, hK, e3]
            | 2, _ => simp [fcl, mfl, hK, e3] <;> (congr 1 <;> omega)
            | 3, _ => simp [fcl, mfl, hK, e3] <;> (congr 1 <;> omega)
            | 4, _ => simp [fcl, mfl, hK, e3] <;> (congr 1 <;> omega)
          · by_cases c2 : a < i
            · simp [c, c2, Nat.lt_succ_of_lt c2]
            · have c3 : ¬ a < i + 1 := by omega
              simp [c, c2, c3]
        · rw [Below.heap_setCell _ _ _ _ (by simpa using hb), Below.heap_setCell _ _ _ _ (by simpa using hb), Below.heap_setCell _ _ _ _ (by simpa using hb), Below.heap_setCell _ _ _ _ (by simpa using hb), Below.heap_setCell _ _ _ _ (by simpa using hb)]
          exact HH.out.2.2.1 b hb
        · simpa using HH.out.2.2.2
      clear hK HH
      go_wp2
      go_roundw
      case rel => exact ⟨i + 1, by omega, by have := HK.out; congr 1; omega, by simp, HW⟩
      case measure => simp [intOf]; omega
    · obtain rfl : i = n := by omega
      go_wp2
      go_ret
      exact ⟨rfl, HH.out.1.congr fun a ha j _ => by simp [ha], HH.out.2⟩
set_option maxHeartbeats 1600000 in
theorem markFa_none (ao : Option Addr) (cap k0 : Nat) (w : World) : Calls Try.prog 11 #[.slice ao 0 cap, .int .i64 k0] w fun e w' => e = .returned (.int .i64 (k0 : Int)) ∧ w = w' := by
  go_enter Try.func11, Try.ntmps11
  go_wp2_with fail
  refine wp_loop_rounds 1 ?_
  rw [rounds_succ]
  go_wp2
  go_ret
  exact ⟨rfl, rfl⟩
set_option maxRecDepth 20000 in
set_option maxHeartbeats 3200000 in
theorem markRa_some (g n cap k0 : Nat) (f : Nat → Nat → Value) (lo : Nat) (X w : World) (hn : n ≤ 1048576) (hk0 : k0 ≤ 1000000) (hs : SegV w g 33 n 6 f) (hfl : ∀ i, i < n → ∀ j, j < 6 → ∃ x, f i j = .float .f64 x) (hB : Below lo X w) (hlo : lo ≤ g) :
    Calls Try.prog 22 #[.slice (some ⟨g, 0, none⟩) n cap, .int .i64 k0] w fun e w' => e = .returned (.int .i64 ((k0 : Int) + 6 * n)) ∧ SegV w' g 33 n 6 (fun i j => fcl (mfl 6 k0 i) j) ∧ Below lo X w' ∧ (∀ b, b ≠ g → w'.heap[b]? = w.heap[b]?) ∧ w'.heap.size = w.heap.size := by
  have HS : Hid (SegV w g 33 n 6 f ∧ Below lo X w ∧ lo ≤ g) := ⟨hs, hB, hlo⟩
  have HF : Hid (∀ i, i < n → ∀ j, j < 6 → ∃ x, f i j = .float .f64 x) := hfl
  have hst := st64
  have hcv := conv3_run
  clear hs hB hlo hfl
  have hnI : (n : Int) ≤ 1048576 := by omega
  have hkI : (k0 : Int) ≤ 1000000 := by omega
  go_enter Try.func22, Try.ntmps22
  go_wp2_with fail
  go_loopw [1, 5] (fun s1 s5 wr => ∃ i : Nat, i ≤ n ∧ s1 = .int .i64 ((k0 : Int) + 6 * i) ∧ s5 = .int .i64 i ∧ Hid (SegV wr g 33 n 6 (fun a j => if a < i then fcl (mfl 6 k0 a) j else f a j) ∧ Below lo X wr ∧ (∀ b, b ≠ g → wr.heap[b]? = w.heap[b]?) ∧ wr.heap.size = w.heap.size)) (fun _ s5 _ => n - (intOf s5).toNat)
  case atStart => exact ⟨0, Nat.zero_le _, by simp, rfl, HS.out.1.congr (fun a _ j _ => by simp), HS.out.2.1, fun _ _ => rfl, rfl⟩
  case round =>
    obtain ⟨i, hi, rfl, rfl, HH⟩ := hrel
    by_cases hin : i < n
    · obtain ⟨x0, e0⟩ := HF.out i hin 0 (by omega)
      have a0 := HH.out.1.cell hin (show 0 < 6 by omega)
      obtain ⟨x1, e1⟩ := HF.out i hin 1 (by omega)
      have a1 := HH.out.1.cell hin (show 1 < 6 by omega)
      obtain ⟨x2, e2⟩ := HF.out i hin 2 (by omega)
      have a2 := HH.out.1.cell hin (show 2 < 6 by omega)
      obtain ⟨x3, e3⟩ := HF.out i hin 3 (by omega)
      have a3 := HH.out.1.cell hin (show 3 < 6 by omega)
      obtain ⟨x4, e4⟩ := HF.out i hin 4 (by omega)
      have a4 := HH.out.1.cell hin (show 4 < 6 by omega)
      obtain ⟨x5, e5⟩ := HF.out i hin 5 (by omega)
      have a5 := HH.out.1.cell hin (show 5 < 6 by omega)
      have fz : ∀ j, wr.frozen? ⟨g, j, none⟩ = false := fun j => HH.out.1.frozen j
      simp only [Nat.add_zero, Nat.lt_irrefl, if_false, e0, e1, e2, e3, e4, e5] at a0 a1 a2 a3 a4 a5
      clear e0 e1 e2 e3 e4 e5
      have hiI : (i : Int) < n := by omega
      obtain ⟨K, hK⟩ : ∃ K : Int, K = (k0 : Int) + 6 * i := ⟨_, rfl⟩
      have hK0 : 0 ≤ K := by omega
      have hK1 : K ≤ 8000000 := by omega
      have HK : Hid (K = (k0 : Int) + 6 * i) := hK
      rw [← hK]
      have HW : Hid (SegV ((((((wr.setCell ⟨g, i * 6, none⟩ (.float .f64 (fi (K)))).setCell ⟨g, i * 6 + 1, none⟩ (.float .f64 (fi (K + 1)))).setCell ⟨g, i * 6 + 2, none⟩ (.float .f64 (fi (K + 1 + 1)))).setCell ⟨g, i * 6 + 3, none⟩ (.float .f64 (fi (K + 1 + 1 + 1)))).setCell ⟨g, i * 6 + 4, none⟩ (.float .f64 (fi (K + 1 + 1 + 1 + 1)))).setCell ⟨g, i * 6 + 5, none⟩ (.float .f64 (fi (K + 1 + 1 + 1 + 1 + 1)))) g 33 n 6 (fun a j => if a < i + 1 then fcl (mfl 6 k0 a) j else f a j) ∧ Below lo X ((((((wr.setCell ⟨g, i * 6, none⟩ (.float .f64 (fi (K)))).setCell ⟨g, i * 6 + 1, none⟩ (.float .f64 (fi (K + 1)))).setCell ⟨g, i * 6 + 2, none⟩ (.float .f64 (fi (K + 1 + 1)))).setCell ⟨g, i * 6 + 3, none⟩ (.float .f64 (fi (K + 1 + 1 + 1)))).setCell ⟨g, i * 6 + 4, none⟩ (.float .f64 (fi (K + 1 + 1 + 1 + 1)))).setCell ⟨g, i * 6 + 5, none⟩ (.float .f64 (fi (K + 1 + 1 + 1 + 1 + 1)))) ∧ (∀ b, b ≠ g → ((((((wr.setCell ⟨g, i * 6, none⟩ (.float .f64 (fi (K)))).setCell ⟨g, i * 6 + 1, none⟩ (.float .f64 (fi (K + 1)))).setCell ⟨g, i * 6 + 2, none⟩ (.float .f64 (fi (K + 1 + 1)))).setCell ⟨g, i * 6 + 3, none⟩ (.float .f64 (fi (K + 1 + 1 + 1)))).setCell ⟨g, i * 6 + 4, none⟩ (.float .f64 (fi (K + 1 + 1 + 1 + 1)))).setCell ⟨g, i * 6 + 5, none⟩ (.float .f64 (fi (K + 1 + 1 + 1 + 1 + 1)))).heap[b]? = w.heap[b]?) ∧ ((((((wr.setCell ⟨g, i * 6, none⟩ (.float .f64 (fi (K)))).setCell ⟨g, i * 6 + 1, none⟩ (.float .f64 (fi (K + 1)))).setCell ⟨g, i * 6 + 2, none⟩ (.float .f64 (fi (K + 1 + 1)))).setCell ⟨g, i * 6 + 3, none⟩ (.float .f64 (fi (K + 1 + 1 + 1)))).setCell ⟨g, i * 6 + 4, none⟩ (.float .f64 (fi (K + 1 + 1 + 1 + 1)))).setCell ⟨g, i * 6 + 5, none⟩ (.float .f64 (fi (K + 1 + 1 + 1 + 1 + 1)))).heap.size = w.heap.size) := by
        refine ⟨SegV.congr (SegV.set (SegV.set (SegV.set (SegV.set (SegV.set (SegV.set HH.out.1 hin (show 0 < 6 by omega) (.float .f64 (fi (K)))) hin (show 1 < 6 by omega) (.float .f64 (fi (K + 1)))) hin (show 2 < 6 by omega) (.float .f64 (fi (K + 1 + 1)))) hin (show 3 < 6 by omega) (.float .f64 (fi (K + 1 + 1 + 1)))) hin (show 4 < 6 by omega) (.float .f64 (fi (K + 1 + 1 + 1 + 1)))) hin (show 5 < 6 by omega) (.float .f64 (fi (K + 1 + 1 + 1 + 1 + 1)))) fun a ha j hj => ?_, (Below.setCell (Below.setCell (Below.setCell (Below.setCell (Below.setCell (Below.setCell HH.out.2.1 HS.out.2.2 _) HS.out.2.2 _) HS.out.2.2 _) HS.out.2.2 _) HS.out.2.2 _) HS.out.2.2 _), fun b hb => ?_, ?_⟩
        · by_cases c : a = i
          · subst c
            have e3 : a < a + 1 := by omega
            match j, hj with
            | 0, _ => simp [fcl, mfl, hK, e3]
            | 1, _ => simp [fcl, mfl, hK, e3]
            | 2, _ => simp [fcl, mfl, hK, e3] <;> (congr 1 <;> omega)
            | 3, _ => simp [fcl, mfl, hK, e3] <;> (congr 1 <;> omega)
            | 4, _ => simp [fcl, mfl, hK, e3] <;> (congr 1 <;> omega)
            | 5, _ => simp [fcl, mfl, hK, e3] <;> (congr 1 <;> omega)
          · by_cases c2 : a < i
            · simp [c, c2, Nat.lt_succ_of_lt c2]
            · have c3 : ¬ a < i + 1 := by omega
              simp [c, c2, c3]
        · rw [Below.heap_setCell _ _ _ _ (by simpa using hb), Below.heap_setCell _ _ _ _ (by simpa using hb), Below.heap_setCell _ _ _ _ (by simpa using hb), Below.heap_setCell _ _ _ _ (by simpa using hb), Below.heap_setCell _ _ _ _ (by simpa using hb), Below.heap_setCell _ _ _ _ (by simpa using hb)]
          exact HH.out.2.2.1 b hb
        · simpa using HH.out.2.2.2
      clear hK HH
      go_wp2
      go_roundw
      case rel => exact ⟨i + 1, by omega, by have := HK.out; congr 1; omega, by simp, HW⟩
      case measure => simp [intOf]; omega
    · obtain rfl : i = n := by omega
      go_wp2
      go_ret
      exact ⟨rfl, HH.out.1.congr fun a ha j _ => by simp [ha], HH.out.2⟩
set_option maxHeartbeats 1600000 in
theorem markRa_none (ao : Option Addr) (cap k0 : Nat) (w : World) : Calls Try.prog 22 #[.slice ao 0 cap, .int .i64 k0] w fun e w' => e = .returned (.int .i64 (k0 : Int)) ∧ w = w' := by
  go_enter Try.func22, Try.ntmps22
  go_wp2_with fail
  refine wp_loop_rounds 1 ?_
  rw [rounds_succ]
  go_wp2
  go_ret
  exact ⟨rfl, rfl⟩
set_option maxRecDepth 20000 in
set_option maxHeartbeats 3200000 in
theorem heldRa_some (g n cap k0 : Nat) (w : World) (hn : n ≤ 1048576) (hk0 : k0 ≤ 1000000) (hs : SegV w g 33 n 6 (fun i j => fcl (mfl 6 k0 i) j)) :
    Calls Try.prog 23 #[.slice (some ⟨g, 0, none⟩) n cap, .int .i64 k0] w fun e w' => e = .returned (.int .i64 ((k0 : Int) + 6 * n)) ∧ w = w' := by
  have HS : Hid (SegV w g 33 n 6 (fun i j => fcl (mfl 6 k0 i) j)) := hs
  have hcv := conv3_run
  clear hs
  have hnI : (n : Int) ≤ 1048576 := by omega
  have hkI : (k0 : Int) ≤ 1000000 := by omega
  go_enter Try.func23, Try.ntmps23
  go_wp2_with fail
  go_loopw [1, 5] (fun s1 s5 wr => wr = w ∧ ∃ i : Nat, i ≤ n ∧ s1 = .int .i64 ((k0 : Int) + 6 * i) ∧ s5 = .int .i64 i) (fun _ s5 _ => n - (intOf s5).toNat)
  case atStart => exact ⟨rfl, 0, Nat.zero_le _, by simp, rfl⟩
  case round =>
    obtain ⟨rfl, i, hi, rfl, rfl⟩ := hrel
    by_cases hin : i < n
    · have a0 := HS.out.cell hin (show 0 < 6 by omega)
      have a1 := HS.out.cell hin (show 1 < 6 by omega)
      have a2 := HS.out.cell hin (show 2 < 6 by omega)
      have a3 := HS.out.cell hin (show 3 < 6 by omega)
      have a4 := HS.out.cell hin (show 4 < 6 by omega)
      have a5 := HS.out.cell hin (show 5 < 6 by omega)
      have hiI : (i : Int) < n := by omega
      obtain ⟨K, hK⟩ : ∃ K : Int, K = (k0 : Int) + 6 * i := ⟨_, rfl⟩
      have hK0 : 0 ≤ K := by omega
      have hK1 : K ≤ 8000000 := by omega
      have HK : Hid (K = (k0 : Int) + 6 * i) := hK
      replace a0 : wr.cell? ⟨g, i * 6, none⟩ = some (.float .f64 (fi (K))) := by have e : mfl 6 k0 i 0 = fi (K) := (by unfold mfl; congr 1; omega); simp only [fcl, e, Nat.add_zero] at a0; exact a0
      have f0 := fi_self (show 0 ≤ K by omega) (show K < 9007199254740992 by omega)
      replace a1 : wr.cell? ⟨g, i * 6 + 1, none⟩ = some (.float .f64 (fi (K + 1))) := by have e : mfl 6 k0 i 1 = fi (K + 1) := (by unfold mfl; congr 1; omega); simp only [fcl, e, Nat.add_zero] at a1; exact a1
      have f1 := fi_self (show 0 ≤ K + 1 by omega) (show K + 1 < 9007199254740992 by omega)
      replace a2 : wr.cell? ⟨g, i * 6 + 2, none⟩ = some (.float .f64 (fi (K + 1 + 1))) := by have e : mfl 6 k0 i 2 = fi (K + 1 + 1) := (by unfold mfl; congr 1; omega); simp only [fcl, e, Nat.add_zero] at a2; exact a2
      have f2 := fi_self (show 0 ≤ K + 1 + 1 by omega) (show K + 1 + 1 < 9007199254740992 by omega)
      replace a3 : wr.cell? ⟨g, i * 6 + 3, none⟩ = some (.float .f64 (fi (K + 1 + 1 + 1))) := by have e : mfl 6 k0 i 3 = fi (K + 1 + 1 + 1) := (by unfold mfl; congr 1; omega); simp only [fcl, e, Nat.add_zero] at a3; exact a3
      have f3 := fi_self (show 0 ≤ K + 1 + 1 + 1 by omega) (show K + 1 + 1 + 1 < 9007199254740992 by omega)
      replace a4 : wr.cell? ⟨g, i * 6 + 4, none⟩ = some (.float .f64 (fi (K + 1 + 1 + 1 + 1))) := by have e : mfl 6 k0 i 4 = fi (K + 1 + 1 + 1 + 1) := (by unfold mfl; congr 1; omega); simp only [fcl, e, Nat.add_zero] at a4; exact a4
      have f4 := fi_self (show 0 ≤ K + 1 + 1 + 1 + 1 by omega) (show K + 1 + 1 + 1 + 1 < 9007199254740992 by omega)
      replace a5 : wr.cell? ⟨g, i * 6 + 5, none⟩ = some (.float .f64 (fi (K + 1 + 1 + 1 + 1 + 1))) := by have e : mfl 6 k0 i 5 = fi (K + 1 + 1 + 1 + 1 + 1) := (by unfold mfl; congr 1; omega); simp only [fcl, e, Nat.add_zero] at a5; exact a5
      have f5 := fi_self (show 0 ≤ K + 1 + 1 + 1 + 1 + 1 by omega) (show K + 1 + 1 + 1 + 1 + 1 < 9007199254740992 by omega)
      rw [← hK]
      clear hK
      go_wp2
      go_roundw
      case rel => exact ⟨by trivial, i + 1, by omega, by have := HK.out; congr 1; omega, by simp⟩
      case measure => simp [intOf]; omega
    · obtain rfl : i = n := by omega
      go_wp2
      go_ret
      exact ⟨rfl, rfl⟩
set_option maxHeartbeats 1600000 in
theorem heldRa_none (ao : Option Addr) (cap k0 : Nat) (w : World) : Calls Try.prog 23 #[.slice ao 0 cap, .int .i64 k0] w fun e w' => e = .returned (.int .i64 (k0 : Int)) ∧ w = w' := by
  go_enter Try.func23, Try.ntmps23
  go_wp2_with fail
  refine wp_loop_rounds 1 ?_
  rw [rounds_succ]
  go_wp2
  go_ret
  exact ⟨rfl, rfl⟩
end Go.Proofs.Ytbcidfmfkmeinaa
