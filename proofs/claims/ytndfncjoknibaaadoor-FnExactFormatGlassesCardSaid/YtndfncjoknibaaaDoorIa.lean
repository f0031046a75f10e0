/- IndexAt: contracts of both packages. -/
import Derived.Test.YtndfncjoknibaaaDoorIj
import Derived.Test.YtndfncjoknibaaaDoorOwn
namespace Go.Proofs.YtndfncjoknibaaaDoor
open Go.RowKit Fl
set_option linter.unusedVariables false
/-- Answers a code and a float of a class. -/
def RV (fn : FuncId) (args : Array Value) (w : World) (code : Int) (o : Option Nat) : Prop :=
  Calls Tryd.prog fn args w fun e w' => ∃ y, e = .returned (.agg #[.int .i64 code, .float .f64 y]) ∧ Fc y o ∧ Below w.heap.size w w'
def ixOut (c : Int) (o : Option Nat) : Option Nat := if c = 0 then o else cl 0
theorem ixOut_no {c : Int} {o : Option Nat} (h : ¬ c = 0) : Fc 0 (ixOut c o) := by unfold ixOut; rw [if_neg h]; exact fc_own (by omega)
theorem ixOut_yes {c : Int} {o : Option Nat} {y : Nat} (h : c = 0) (k : Fc y o) : Fc y (ixOut c o) := by unfold ixOut; rw [if_pos h]; exact k
theorem cf_in {lo hi a b : Int} (h1 : lo ≤ a) (h2 : b ≤ hi) : cfault 0 lo hi a b = 0 := by unfold cfault; rw [if_pos rfl, if_neg (by omega)]
theorem cf_out {lo hi a b : Int} (h : ¬ (lo ≤ a ∧ b ≤ hi)) : cfault 0 lo hi a b = 3 := by unfold cfault; rw [if_pos rfl, if_pos (by omega)]
theorem cf_g {g lo hi a b : Int} (h : ¬ g = 0) : cfault g lo hi a b = g := by unfold cfault; rw [if_neg h]
theorem cf_zero {g lo hi a b : Int} (h : cfault g lo hi a b = 0) : g = 0 := by
  unfold cfault at h
  by_cases e : g = 0
  · exact e
  · rw [if_neg e] at h; exact absurd h e
theorem inB_t {lo hi nm : Int} (h : inB lo hi nm = true) : lo ≤ nm ∧ nm ≤ hi := by unfold inB at h; simpa using h
theorem inB_f {lo hi nm : Int} (h : inB lo hi nm = false) : ¬ (lo ≤ nm ∧ nm ≤ hi) := by
  unfold inB at h
  intro e
  rw [decide_eq_true e.1, decide_eq_true e.2] at h
  cases h
set_option maxHeartbeats 3200000 in
theorem sIA_any {s : ByteArray} {kd lo hi nm : Int} {v : Value} {n : Nat} {f : Nat → Int} {x : Nat} {w : World} (h : RdRow w v n f) (hn : n ≤ 1000000000000) (hx : x < 18446744073709551616) :
    RV 15 #[.agg #[.string s, .int .i64 kd, .int .i64 lo, .int .i64 hi, v, .float .f64 x], .int .i64 nm] w (cfault (gfault s kd lo hi n f x) lo hi nm nm) (ixOut (cfault (gfault s kd lo hi n f x) lo hi nm nm) (ixC kd f nm x)) := by
  have hst := st64
  have hadd := add_run
  have hsub := sub_run
  have hquo := quo_run
  have hc1 := cell_opW
  have hc2 := frozen_opW
  obtain ⟨ao, cap, rfl⟩ := h.shape
  have H : Hid (RdRow w (.slice ao n cap) n f) := h
  clear h
  unfold RV
  go_enter Tryd.func15, Tryd.ntmps15
  obtain ⟨X, hX⟩ : ∃ X, X = w.alloc (.cells #[.string s, .int .i64 kd, .int .i64 lo, .int .i64 hi, .slice ao n cap, .float .f64 x] 28) := ⟨_, rfl⟩
  have hXs : X.heap.size = w.heap.size + 1 := by rw [hX]; simp
  have HX : Hid (Below w.heap.size w X ∧ Six X w.heap.size (.string s) (.int .i64 kd) (.int .i64 lo) (.int .i64 hi) (.slice ao n cap) (.float .f64 x)) := by
    rw [hX]; exact ⟨(Below.refl _ _).alloc (Nat.le_refl _) _, six_new _ _ _ _ _ _ _ _⟩
  obtain ⟨Y, hY⟩ : ∃ Y, Y = X.alloc (.cells #[.int .i64 0, .float .f64 0] 33) := ⟨_, rfl⟩
  have OY : Own (w.heap.size + 1) X (w.heap.size + 1) 2 33 Y := by
    have h1 := own_made (t := 33) #[.int .i64 0, .float .f64 0] (B := w.heap.size + 1) (X := X) (by omega)
    rw [hXs] at h1
    rw [hY]; exact h1
  have HY : Hid (Own (w.heap.size + 1) X (w.heap.size + 1) 2 33 Y ∧ Below w.heap.size w Y) := ⟨OY, OY.out HX.out.1 (by omega)⟩
  have z0 : ∀ W, Own (w.heap.size + 1) X (w.heap.size + 1) 2 33 W → W.cell? ⟨w.heap.size, 0, none⟩ = some (.string s) := fun W h => (HX.out.2.below h.below (by omega)).c0
  have z1 : ∀ W, Own (w.heap.size + 1) X (w.heap.size + 1) 2 33 W → W.cell? ⟨w.heap.size, 1, none⟩ = some (.int .i64 kd) := fun W h => (HX.out.2.below h.below (by omega)).c1
  have z2 : ∀ W, Own (w.heap.size + 1) X (w.heap.size + 1) 2 33 W → W.cell? ⟨w.heap.size, 2, none⟩ = some (.int .i64 lo) := fun W h => (HX.out.2.below h.below (by omega)).c2
  have z3 : ∀ W, Own (w.heap.size + 1) X (w.heap.size + 1) 2 33 W → W.cell? ⟨w.heap.size, 3, none⟩ = some (.int .i64 hi) := fun W h => (HX.out.2.below h.below (by omega)).c3
  have z4 : ∀ W, Own (w.heap.size + 1) X (w.heap.size + 1) 2 33 W → W.cell? ⟨w.heap.size, 4, none⟩ = some (.slice ao n cap) := fun W h => (HX.out.2.below h.below (by omega)).c4
  have z5 : ∀ W, Own (w.heap.size + 1) X (w.heap.size + 1) 2 33 W → W.cell? ⟨w.heap.size, 5, none⟩ = some (.float .f64 x) := fun W h => (HX.out.2.below h.below (by omega)).c5
  have HR : Hid (∀ W, Own (w.heap.size + 1) X (w.heap.size + 1) 2 33 W → RdRow W (.slice ao n cap) n f) := fun W h => H.out.later (h.out HX.out.1 (by omega))
  have g0 : ∀ W, Own (w.heap.size + 1) X (w.heap.size + 1) 2 33 W → W.cell? ⟨w.heap.size + 1, 0, none⟩ = some (got W (w.heap.size + 1) 0) := fun W h => h.cell (by omega)
  have g1 : ∀ W, Own (w.heap.size + 1) X (w.heap.size + 1) 2 33 W → W.cell? ⟨w.heap.size + 1, 1, none⟩ = some (got W (w.heap.size + 1) 1) := fun W h => h.cell (by omega)
  have gf : ∀ W j, Own (w.heap.size + 1) X (w.heap.size + 1) 2 33 W → W.frozen? ⟨w.heap.size + 1, j, none⟩ = false := fun W j h => h.frozen j
  clear OY H
  go_wp2_with fail
  rw [← hX, ← hY]
  clear hX hY hXs
  refine (sGF_any (HR.out _ HY.out.1) hn).mono ?_
  rintro e w1 ⟨rfl, b1⟩
  have O1 := HY.out.1.call b1
  clear b1
  generalize hcode : gfault s kd lo hi n f x = code
  by_cases hz : code = 0
  · subst hz
    have HG : Hid (gfault s kd lo hi n f x = 0) := hcode
    clear hcode
    go_wp2_with fail
    refine (sIn_any s kd lo hi nm _ x _).mono ?_
    rintro e w2 ⟨rfl, b2⟩
    have O2 := O1.call b2
    clear b2 O1
    cases hin : inB lo hi nm
    · have HE : Hid (cfault (gfault s kd lo hi n f x) lo hi nm nm = 3) := (show cfault (gfault s kd lo hi n f x) lo hi nm nm = 3 by rw [HG.out]; exact cf_out (inB_f hin))
      clear hin
      have e0 := g0 _ O2
      have e1 := g1 _ O2
      go_wp2
      refine bodyPost_ret (v := .agg #[.int .i64 3, .float .f64 0]) (by simp [results, Tryd.results15, go_sem, e0, e1]) rfl ⟨_, (by rw [HE.out]), ixOut_no (by rw [HE.out]; decide), ((Own.set (Own.set O2 0 _) 1 _).out HX.out.1 (by omega))⟩
    · have HE : Hid (cfault (gfault s kd lo hi n f x) lo hi nm nm = 0) := (show cfault (gfault s kd lo hi n f x) lo hi nm nm = 0 by rw [HG.out]; exact cf_in (inB_t hin).1 (inB_t hin).2)
      clear hin
      go_wp2_with fail
      refine (sIx_any (HR.out _ O2) (gfault_zero HG.out).2.1 hx).mono ?_
      rintro e w3 ⟨y, rfl, hy, b3⟩
      have O3 := O2.call b3
      clear b3 O2
      have e0 := g0 _ O3
      have e1 := g1 _ O3
      go_wp2
      refine bodyPost_ret (v := .agg #[.int .i64 0, .float .f64 y]) (by simp [results, Tryd.results15, go_sem, e0, e1]) rfl ⟨_, (by rw [HE.out]), ixOut_yes HE.out hy, ((Own.set (Own.set O3 0 _) 1 _).out HX.out.1 (by omega))⟩
  · have HE : Hid (cfault (gfault s kd lo hi n f x) lo hi nm nm = code) := (show cfault (gfault s kd lo hi n f x) lo hi nm nm = code by rw [hcode]; exact cf_g hz)
    clear hcode
    have e0 := g0 _ O1
    have e1 := g1 _ O1
    go_wp2
    refine bodyPost_ret (v := .agg #[.int .i64 code, .float .f64 0]) (by simp [results, Tryd.results15, go_sem, e0, e1]) rfl ⟨_, (by rw [HE.out]), ixOut_no (by rw [HE.out]; exact hz), ((Own.set (Own.set O1 0 _) 1 _).out HX.out.1 (by omega))⟩
set_option maxHeartbeats 3200000 in
theorem iIA_any {s : ByteArray} {kd lo hi nm : Int} {v : Value} {n : Nat} {f : Nat → Int} {x : Nat} {w : World} (h : RdRow w v n f) (T : Tab w) (hn : n ≤ 1000000000000) (hx : x < 18446744073709551616) :
    RV 16 #[.agg #[.string s, .int .i64 kd, .int .i64 lo, .int .i64 hi, v, .float .f64 x], .int .i64 nm] w (cfault (gfault s kd lo hi n f x) lo hi nm nm) (ixOut (cfault (gfault s kd lo hi n f x) lo hi nm nm) (ixC kd f nm x)) := by
  have hst := st64
  have hadd := add_run
  have hsub := sub_run
  have hquo := quo_run
  have hc1 := cell_opW
  have hc2 := frozen_opW
  obtain ⟨ao, cap, rfl⟩ := h.shape
  have H : Hid (RdRow w (.slice ao n cap) n f ∧ Tab w) := ⟨h, T⟩
  clear h T
  unfold RV
  go_enter Tryd.func16, Tryd.ntmps16
  obtain ⟨X, hX⟩ : ∃ X, X = w.alloc (.cells #[.string s, .int .i64 kd, .int .i64 lo, .int .i64 hi, .slice ao n cap, .float .f64 x] 28) := ⟨_, rfl⟩
  have hXs : X.heap.size = w.heap.size + 1 := by rw [hX]; simp
  have HX : Hid (Below w.heap.size w X ∧ Six X w.heap.size (.string s) (.int .i64 kd) (.int .i64 lo) (.int .i64 hi) (.slice ao n cap) (.float .f64 x)) := by
    rw [hX]; exact ⟨(Below.refl _ _).alloc (Nat.le_refl _) _, six_new _ _ _ _ _ _ _ _⟩
  obtain ⟨Y, hY⟩ : ∃ Y, Y = X.alloc (.cells #[.int .i64 0, .float .f64 0] 33) := ⟨_, rfl⟩
  have OY : Own (w.heap.size + 1) X (w.heap.size + 1) 2 33 Y := by
    have h1 := own_made (t := 33) #[.int .i64 0, .float .f64 0] (B := w.heap.size + 1) (X := X) (by omega)
    rw [hXs] at h1
    rw [hY]; exact h1
  have HY : Hid (Own (w.heap.size + 1) X (w.heap.size + 1) 2 33 Y ∧ Below w.heap.size w Y) := ⟨OY, OY.out HX.out.1 (by omega)⟩
  have z0 : ∀ W, Own (w.heap.size + 1) X (w.heap.size + 1) 2 33 W → W.cell? ⟨w.heap.size, 0, none⟩ = some (.string s) := fun W h => (HX.out.2.below h.below (by omega)).c0
  have z1 : ∀ W, Own (w.heap.size + 1) X (w.heap.size + 1) 2 33 W → W.cell? ⟨w.heap.size, 1, none⟩ = some (.int .i64 kd) := fun W h => (HX.out.2.below h.below (by omega)).c1
  have z2 : ∀ W, Own (w.heap.size + 1) X (w.heap.size + 1) 2 33 W → W.cell? ⟨w.heap.size, 2, none⟩ = some (.int .i64 lo) := fun W h => (HX.out.2.below h.below (by omega)).c2
  have z3 : ∀ W, Own (w.heap.size + 1) X (w.heap.size + 1) 2 33 W → W.cell? ⟨w.heap.size, 3, none⟩ = some (.int .i64 hi) := fun W h => (HX.out.2.below h.below (by omega)).c3
  have z4 : ∀ W, Own (w.heap.size + 1) X (w.heap.size + 1) 2 33 W → W.cell? ⟨w.heap.size, 4, none⟩ = some (.slice ao n cap) := fun W h => (HX.out.2.below h.below (by omega)).c4
  have z5 : ∀ W, Own (w.heap.size + 1) X (w.heap.size + 1) 2 33 W → W.cell? ⟨w.heap.size, 5, none⟩ = some (.float .f64 x) := fun W h => (HX.out.2.below h.below (by omega)).c5
  have HR : Hid (∀ W, Own (w.heap.size + 1) X (w.heap.size + 1) 2 33 W → RdRow W (.slice ao n cap) n f) := fun W h => H.out.1.later (h.out HX.out.1 (by omega))
  have HT : Hid (∀ W, Own (w.heap.size + 1) X (w.heap.size + 1) 2 33 W → Tab W) := fun W h => H.out.2.later (h.out HX.out.1 (by omega))
  have g0 : ∀ W, Own (w.heap.size + 1) X (w.heap.size + 1) 2 33 W → W.cell? ⟨w.heap.size + 1, 0, none⟩ = some (got W (w.heap.size + 1) 0) := fun W h => h.cell (by omega)
  have g1 : ∀ W, Own (w.heap.size + 1) X (w.heap.size + 1) 2 33 W → W.cell? ⟨w.heap.size + 1, 1, none⟩ = some (got W (w.heap.size + 1) 1) := fun W h => h.cell (by omega)
  have gf : ∀ W j, Own (w.heap.size + 1) X (w.heap.size + 1) 2 33 W → W.frozen? ⟨w.heap.size + 1, j, none⟩ = false := fun W j h => h.frozen j
  clear OY H
  go_wp2_with fail
  rw [← hX, ← hY]
  clear hX hY hXs
  refine (iCF_any (HR.out _ HY.out.1) (HT.out _ HY.out.1)).mono ?_
  rintro e w1 ⟨rfl, b1⟩
  have O1 := HY.out.1.call b1
  clear b1
  generalize hcode : cfault (gfault s kd lo hi n f x) lo hi nm nm = code
  have HE : Hid (cfault (gfault s kd lo hi n f x) lo hi nm nm = code) := hcode
  clear hcode
  by_cases hz : code = 0
  · subst hz
    go_wp2_with fail
    refine (iIx_any (HR.out _ O1) (gfault_zero (cf_zero HE.out)).2.1 hx).mono ?_
    rintro e w3 ⟨y, rfl, hy, b3⟩
    have O3 := O1.call b3
    clear b3 O1
    have e0 := g0 _ O3
    have e1 := g1 _ O3
    go_wp2
    refine bodyPost_ret (v := .agg #[.int .i64 0, .float .f64 y]) (by simp [results, Tryd.results16, go_sem, e0, e1]) rfl ⟨_, (by rw [HE.out]), ixOut_yes HE.out hy, ((Own.set (Own.set O3 0 _) 1 _).out HX.out.1 (by omega))⟩
  · have e0 := g0 _ O1
    have e1 := g1 _ O1
    go_wp2
    refine bodyPost_ret (v := .agg #[.int .i64 code, .float .f64 0]) (by simp [results, Tryd.results16, go_sem, e0, e1]) rfl ⟨_, (by rw [HE.out]), ixOut_no (by rw [HE.out]; exact hz), ((Own.set (Own.set O1 0 _) 1 _).out HX.out.1 (by omega))⟩
set_option maxHeartbeats 800000 in
theorem eqI_any {code : Int} {y y' : Nat} {o : Option Nat} (h : Fc y o) (h' : Fc y' o) (w : World) :
    Calls Tryd.prog 17 #[.agg #[.int .i64 code, .float .f64 y], .agg #[.int .i64 code, .float .f64 y']] w fun e w' => e = .returned (.bool true) ∧ Below w.heap.size w w' := by
  have HF : Hid (∀ w, Calls Tryd.prog 49 #[.float .f64 y, .float .f64 y'] w fun e w' => e = .returned (.bool true) ∧ w = w') := same_any h.lx h'.lx (h.c.trans h'.c.symm)
  clear h h'
  go_enter Tryd.func17, Tryd.ntmps17
  go_wp2_with (go_at_call 49; refine (HF.out _).mono ?_; rintro e w' ⟨rfl, rfl⟩)
  go_ret
  exact ⟨rfl, by go_grown⟩
end Go.Proofs.YtndfncjoknibaaaDoor
