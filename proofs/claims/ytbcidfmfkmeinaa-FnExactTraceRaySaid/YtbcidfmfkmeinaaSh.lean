/- A plane face's sag; which shape a face has. -/
import Derived.Test.YtbcidfmfkmeinaaSg
namespace Go.Proofs.Ytbcidfmfkmeinaa
open Go.RowKit Fl
set_option linter.unusedVariables false
set_option linter.unusedSimpArgs false
theorem eq_fc {x y : Nat} {o p : Option Nat} (h : Fc x o) (k : Fc y p) : (FloatKind.f64.format.order x y == some .eq) = (ordO o p == some .eq) := by rw [ord_fc h k]
set_option maxRecDepth 20000 in
set_option maxHeartbeats 3200000 in
theorem iPlane_any {n r : Nat} {N R : Option Nat} (hn : Fc n N) (hr : Fc r R) (w : World) : SV 68 #[.agg #[.float .f64 n], .float .f64 r] w (planeC N R) := by
  unfold SV
  have H : Hid (Fc n N ∧ Fc r R) := ⟨hn, hr⟩
  clear hn hr
  have hst := st64
  have HC : Hid (∀ W, Calls Try.prog 45 #[.float .f64 r] W fun e w' => e = .returned (.bool (finO R)) ∧ Below W.heap.size W w') := fun W => iFin_any H.out.2 W
  go_enter Try.func68, Try.ntmps68
  have HO : Hid (Below w.heap.size w w) := Below.refl _ _
  go_upto_region 1 with fail
  obtain ⟨v1, hv⟩ : ∃ X, X = ((w.alloc (.cells #[.float .f64 n] 79)).alloc (.cells #[.int .i64 0, .float .f64 0, .float .f64 0] 58)) := ⟨_, rfl⟩
  rw [← hv]
  have ne_a_res : Hid (w.heap.size ≠ w.heap.size + 1) := by show (w.heap.size : Nat) ≠ w.heap.size + 1; omega
  have B_a : Hid (Blk v1 (w.heap.size) #[.float .f64 n] 79) := by show Blk v1 (w.heap.size) _ _; rw [hv]; exact (Blk.alloc (Blk.new (by simp)) _)
  have low_a : Hid (w.heap.size ≤ w.heap.size) := by show w.heap.size ≤ w.heap.size; have := HO.out.size; omega
  have B_res : Hid (Blk v1 (w.heap.size + 1) #[.int .i64 0, .float .f64 0, .float .f64 0] 58) := by show Blk v1 (w.heap.size + 1) _ _; rw [hv]; exact (Blk.new (by simp))
  have low_res : Hid (w.heap.size ≤ w.heap.size + 1) := by show w.heap.size ≤ w.heap.size + 1; have := HO.out.size; omega
  replace HO : Hid (Below w.heap.size w v1) := by show Below w.heap.size w v1; rw [hv]; exact (below_new (below_new HO.out _) _)
  clear hv
  cases hF : finO R
  case false =>
    have hD : Hid (planeC N R = none) := by show planeC N R = _; unfold planeC; rw [if_neg (by rw [hF]; simp)]
    rw [hF] at HC
    clear hF
    go_wp2_with fail
    refine (HC.out _).mono ?_
    rintro e v2 ⟨rfl, hb⟩
    replace B_a : Hid (Blk v2 (w.heap.size) #[.float .f64 n] 79) := by show Blk v2 (w.heap.size) _ _; exact Blk.old B_a.out hb
    replace B_res : Hid (Blk v2 (w.heap.size + 1) #[.int .i64 0, .float .f64 0, .float .f64 0] 58) := by show Blk v2 (w.heap.size + 1) _ _; exact Blk.old B_res.out hb
    replace HO : Hid (Below w.heap.size w v2) := box_step HO.out hb (Nat.le_refl _)
    clear hb
    have a_0 := B_a.out.cell (j := 0) rfl
    have a_f := B_a.out.frozen
    have a_z := B_a.out.lt
    have res_0 := B_res.out.cell (j := 0) rfl
    have res_1 := B_res.out.cell (j := 1) rfl
    have res_2 := B_res.out.cell (j := 2) rfl
    have res_f := B_res.out.frozen
    have res_z := B_res.out.lt
    go_wp2
    refine bodyPost_ret (v := Hv 4 0 0) (by simp [results, Try.results68, go_sem, a_0, a_f, a_z, res_0, res_1, res_2, res_f, res_z] <;> (repeat' (first | rfl | apply And.intro))) rfl ⟨_, _, by rw [hD.out]; rfl, by rw [hD.out]; exact ⟨fc_zero, fc_zero⟩, ?_⟩
    exact (Below.setCell (Below.setCell (Below.setCell HO.out low_res.out _) low_res.out _) low_res.out _)
  case true =>
    have hD : Hid (planeC N R = some (N, oneO)) := by show planeC N R = _; unfold planeC; rw [if_pos hF]
    rw [hF] at HC
    clear hF
    go_wp2_with fail
    refine (HC.out _).mono ?_
    rintro e v2 ⟨rfl, hb⟩
    replace B_a : Hid (Blk v2 (w.heap.size) #[.float .f64 n] 79) := by show Blk v2 (w.heap.size) _ _; exact Blk.old B_a.out hb
    replace B_res : Hid (Blk v2 (w.heap.size + 1) #[.int .i64 0, .float .f64 0, .float .f64 0] 58) := by show Blk v2 (w.heap.size + 1) _ _; exact Blk.old B_res.out hb
    replace HO : Hid (Below w.heap.size w v2) := box_step HO.out hb (Nat.le_refl _)
    clear hb
    have a_0 := B_a.out.cell (j := 0) rfl
    have a_f := B_a.out.frozen
    have a_z := B_a.out.lt
    have res_0 := B_res.out.cell (j := 0) rfl
    have res_1 := B_res.out.cell (j := 1) rfl
    have res_2 := B_res.out.cell (j := 2) rfl
    have res_f := B_res.out.frozen
    have res_z := B_res.out.lt
    go_wp2
    refine bodyPost_ret (v := Hv 0 n 4607182418800017408) (by simp [results, Try.results68, go_sem, a_0, a_f, a_z, res_0, res_1, res_2, res_f, res_z] <;> (repeat' (first | rfl | apply And.intro))) rfl ⟨_, _, by rw [hD.out]; rfl, by rw [hD.out]; exact ⟨H.out.1, fc_one⟩, ?_⟩
    exact (Below.setCell (Below.setCell (Below.setCell HO.out low_res.out _) low_res.out _) low_res.out _)
/-- A face's shape, as a value. -/
def shp (b : Bool) (g : Nat → Nat) : Value := match b with | true => .iface 79 (.agg #[.float .f64 (g 0)]) | false => .iface 81 (.agg #[.float .f64 (g 0), .float .f64 (g 1)])
set_option maxRecDepth 20000 in
set_option maxHeartbeats 3200000 in
theorem iShape_any {g : Nat → Nat} {G : Nat → Option Nat} (hg : Gc g G) (w : World) : Calls Try.prog 30 #[Gv g] w fun e w' => e = .returned (shp (isPl (G 0) (G 1)) g) ∧ Below w.heap.size w w' := by
  have HC : Hid (∀ W, Calls Try.prog 45 #[.float .f64 (g 1)] W fun e w' => e = .returned (.bool (finO (G 1))) ∧ Below W.heap.size W w') := fun W => iFin_any (hg.h 1 (by decide)) W
  have hE := eq_fc (hg.h 0 (by decide)) fc_zero
  clear hg
  go_enter Try.func30, Try.ntmps30
  have HO : Hid (Below w.heap.size w w) := Below.refl _ _
  go_upto_region 1 with fail
  obtain ⟨v1, hv⟩ : ∃ X, X = (w.alloc (.cells #[.float .f64 (g 0), .float .f64 (g 1), .float .f64 (g 2), .float .f64 (g 3), .float .f64 (g 4)] 41)) := ⟨_, rfl⟩
  rw [← hv]
  have B_a : Hid (Blk v1 (w.heap.size) #[.float .f64 (g 0), .float .f64 (g 1), .float .f64 (g 2), .float .f64 (g 3), .float .f64 (g 4)] 41) := by show Blk v1 (w.heap.size) _ _; rw [hv]; exact (Blk.new (by simp))
  have low_a : Hid (w.heap.size ≤ w.heap.size) := by show w.heap.size ≤ w.heap.size; have := HO.out.size; omega
  replace HO : Hid (Below w.heap.size w v1) := by show Below w.heap.size w v1; rw [hv]; exact (below_new HO.out _)
  clear hv
  cases hZ : (ordO (G 0) zO == some .eq)
  case false =>
    have hD : Hid (isPl (G 0) (G 1) = false) := by show isPl (G 0) (G 1) = _; unfold isPl; rw [hZ]; rfl
    rw [hZ] at hE
    clear hZ
    have a_0 := B_a.out.cell (j := 0) rfl
    have a_1 := B_a.out.cell (j := 1) rfl
    have a_2 := B_a.out.cell (j := 2) rfl
    have a_3 := B_a.out.cell (j := 3) rfl
    have a_4 := B_a.out.cell (j := 4) rfl
    have a_f := B_a.out.frozen
    have a_z := B_a.out.lt
    go_wp2
    go_ret
    exact ⟨by rw [hD.out]; rfl, HO.out⟩
  case true =>
    rw [hZ] at hE
    cases hF : finO (G 1)
    case false =>
      have hD : Hid (isPl (G 0) (G 1) = false) := by show isPl (G 0) (G 1) = _; unfold isPl; rw [hZ, hF]; rfl
      rw [hF] at HC
      clear hF hZ
      have a_0 := B_a.out.cell (j := 0) rfl
      have a_1 := B_a.out.cell (j := 1) rfl
      have a_2 := B_a.out.cell (j := 2) rfl
      have a_3 := B_a.out.cell (j := 3) rfl
      have a_4 := B_a.out.cell (j := 4) rfl
      have a_f := B_a.out.frozen
      have a_z := B_a.out.lt
      go_wp2_with fail
      refine (HC.out _).mono ?_
      rintro e v2 ⟨rfl, hb⟩
      clear a_0 a_1 a_2 a_3 a_4 a_f a_z
      replace B_a : Hid (Blk v2 (w.heap.size) #[.float .f64 (g 0), .float .f64 (g 1), .float .f64 (g 2), .float .f64 (g 3), .float .f64 (g 4)] 41) := by show Blk v2 (w.heap.size) _ _; exact Blk.old B_a.out hb
      replace HO : Hid (Below w.heap.size w v2) := box_step HO.out hb (Nat.le_refl _)
      clear hb
      have a_0 := B_a.out.cell (j := 0) rfl
      have a_1 := B_a.out.cell (j := 1) rfl
      have a_2 := B_a.out.cell (j := 2) rfl
      have a_3 := B_a.out.cell (j := 3) rfl
      have a_4 := B_a.out.cell (j := 4) rfl
      have a_f := B_a.out.frozen
      have a_z := B_a.out.lt
      go_wp2
      go_ret
      exact ⟨by rw [hD.out]; rfl, HO.out⟩
    case true =>
      have hD : Hid (isPl (G 0) (G 1) = true) := by show isPl (G 0) (G 1) = _; unfold isPl; rw [hZ, hF]; rfl
      rw [hF] at HC
      clear hF hZ
      have a_0 := B_a.out.cell (j := 0) rfl
      have a_1 := B_a.out.cell (j := 1) rfl
      have a_2 := B_a.out.cell (j := 2) rfl
      have a_3 := B_a.out.cell (j := 3) rfl
      have a_4 := B_a.out.cell (j := 4) rfl
      have a_f := B_a.out.frozen
      have a_z := B_a.out.lt
      go_wp2_with fail
      refine (HC.out _).mono ?_
      rintro e v2 ⟨rfl, hb⟩
      clear a_0 a_1 a_2 a_3 a_4 a_f a_z
      replace B_a : Hid (Blk v2 (w.heap.size) #[.float .f64 (g 0), .float .f64 (g 1), .float .f64 (g 2), .float .f64 (g 3), .float .f64 (g 4)] 41) := by show Blk v2 (w.heap.size) _ _; exact Blk.old B_a.out hb
      replace HO : Hid (Below w.heap.size w v2) := box_step HO.out hb (Nat.le_refl _)
      clear hb
      have a_0 := B_a.out.cell (j := 0) rfl
      have a_1 := B_a.out.cell (j := 1) rfl
      have a_2 := B_a.out.cell (j := 2) rfl
      have a_3 := B_a.out.cell (j := 3) rfl
      have a_4 := B_a.out.cell (j := 4) rfl
      have a_f := B_a.out.frozen
      have a_z := B_a.out.lt
      go_wp2
      go_ret
      exact ⟨by rw [hD.out]; rfl, HO.out⟩
theorem iCurveP_any (n : Nat) (w : World) : Calls Try.prog 67 #[.agg #[.float .f64 n]] w fun e w' => e = .returned (.float .f64 n) ∧ Below w.heap.size w w' := by
  go_enter Try.func67, Try.ntmps67
  go_wp2
  go_ret
  refine ⟨rfl, ?_⟩
  go_grown
theorem iCurveC_any (n k : Nat) (w : World) : Calls Try.prog 69 #[.agg #[.float .f64 n, .float .f64 k]] w fun e w' => e = .returned (.float .f64 n) ∧ Below w.heap.size w w' := by
  go_enter Try.func69, Try.ntmps69
  go_wp2
  go_ret
  refine ⟨rfl, ?_⟩
  go_grown
end Go.Proofs.Ytbcidfmfkmeinaa
