/- How steeply a face rises: the program's slopes, of a plane and of a conic face. -/
import Derived.Test.YtbcidfmfkmeinaaPt
namespace Go.Proofs.Ytbcidfmfkmeinaa
open Go.RowKit Fl
set_option linter.unusedVariables false
set_option linter.unusedSimpArgs false
/-- How many draws a float's operation makes. -/
def opN (op : BinOp) (x y : Nat) : Nat := if (floatBits op .f64 x y).isSome then 0 else 1
theorem opW_N (op : BinOp) (x y : Nat) (w : World) : opW op x y w = w.drewN (opN op x y) := by
  unfold opW opN
  split <;> rfl
theorem mulD : ∀ (x y : Nat) (t : TypeId) (w : World), (binOp .mul t (.float .f64 x) (.float .f64 y)).run Try.prog w = .ok (.float .f64 (opV .mul x y w)) (w.drewN (opN .mul x y)) := fun x y t w => by rw [← opW_N]; exact mul_run x y t w
theorem zero144 : (Try.prog.info? 81).map (·.zero) = some (some (.agg #[.float .f64 0, .float .f64 0])) := by kernel_rfl
theorem ta_true (v : Value) (w : World) : (Instr.typeAssert (.iface 79 v) 63 81 true).run Try.prog w = .ok (.tuple #[.agg #[.float .f64 0, .float .f64 0], .bool false]) w := by
  obtain ⟨i, hi, hz⟩ := Option.map_eq_some_iff.1 zero144
  have h2 := Try.underlying81
  unfold Instr.typeAssert
  simp [go_sem, underlying, zeroValue, typeInfo, hi, hz, h2]
theorem ta_false (v : Value) (w : World) : (Instr.typeAssert (.iface 81 v) 63 81 true).run Try.prog w = .ok (.tuple #[v, .bool true]) w := by
  have h2 := Try.underlying81
  unfold Instr.typeAssert
  simp [go_sem, underlying, h2]
def slC (b : Bool) (c x u : Option Nat) : Option Nat := match b with | true => opC .mul c x | false => slopeC c x u
/-- A plane's slope, divided by one. -/
theorem plane_slope {c k x : Option Nat} (hc : Wc c) (hx : Wc x) (h : isPl c k = true) : slopeC c x oneO = opC .mul c x := by
  simp only [isPl, Bool.and_eq_true] at h
  obtain ⟨z, rfl, hz⟩ := (eq_zero_iff hc).1 h.1
  unfold slopeC
  cases x with
  | none => rfl
  | some x =>
    obtain ⟨wx, nx⟩ := hx x rfl
    by_cases fx : rg x < 9218868437227405312
    · have e := mul_zero_fin hz wx fx
      cases hb : (sg z != sg x)
      · rw [hb, show dW false 0 = 0 by decide] at e
        rw [opC_some e (by decide), opC_some (show floatBits .quo .f64 0 4607182418800017408 = some 0 by decide +kernel) (by decide)]
      · rw [hb, show dW true 0 = 9223372036854775808 by decide] at e
        rw [opC_some e (by decide), opC_some (show floatBits .quo .f64 9223372036854775808 4607182418800017408 = some 9223372036854775808 by decide +kernel) (by decide)]
    · rw [opC_none (mul_inf hz wx (by unfold Num at nx; simp only [rg] at fx ⊢; omega))]
      rfl
set_option maxRecDepth 20000 in
set_option maxHeartbeats 3200000 in
theorem iSlopes_true {g a : Nat → Nat} {G A : Nat → Option Nat} {u : Nat} {U : Option Nat} (hg : Gc g G) (ha : Rc a A) (hu : Fc u U) (w : World) :
    Calls Try.prog 33 #[shp true g, Rv a, .float .f64 u] w fun e w' => ∃ p q, e = .returned (.tuple #[.float .f64 p, .float .f64 q]) ∧ (Fc p (slC true (G 0) (A 0) U) ∧ Fc q (slC true (G 0) (A 1) U)) ∧ Below w.heap.size w w' := by
  have H : Hid (Gc g G ∧ Rc a A ∧ Fc u U) := ⟨hg, ha, hu⟩
  clear hg ha hu
  unfold shp slC
  have hst := st64
  have hta := ta_true
  go_enter Try.func33, Try.ntmps33
  have HO : Hid (Below w.heap.size w w) := Below.refl _ _
  go_upto_region 1 with fail
  obtain ⟨v1, hv⟩ : ∃ X, X = (w.alloc (.cells #[.float .f64 (a 0), .float .f64 (a 1), .float .f64 (a 2), .float .f64 (a 3), .float .f64 (a 4), .float .f64 (a 5)] 33)) := ⟨_, rfl⟩
  rw [← hv]
  have B_a : Hid (Blk v1 (w.heap.size) #[.float .f64 (a 0), .float .f64 (a 1), .float .f64 (a 2), .float .f64 (a 3), .float .f64 (a 4), .float .f64 (a 5)] 33) := by show Blk v1 (w.heap.size) _ _; rw [hv]; exact (Blk.new (by simp))
  have low_a : Hid (w.heap.size ≤ w.heap.size) := by show w.heap.size ≤ w.heap.size; have := HO.out.size; omega
  replace HO : Hid (Below w.heap.size w v1) := by show Below w.heap.size w v1; rw [hv]; exact (below_new HO.out _)
  clear hv
  have k_a_0 : ∀ W, Below v1.heap.size v1 W → W.cell? ⟨w.heap.size, 0, none⟩ = some (.float .f64 (a 0)) := fun _ h => kold h (B_a.out.cell (j := 0) rfl)
  have k_a_1 : ∀ W, Below v1.heap.size v1 W → W.cell? ⟨w.heap.size, 1, none⟩ = some (.float .f64 (a 1)) := fun _ h => kold h (B_a.out.cell (j := 1) rfl)
  have k_a_2 : ∀ W, Below v1.heap.size v1 W → W.cell? ⟨w.heap.size, 2, none⟩ = some (.float .f64 (a 2)) := fun _ h => kold h (B_a.out.cell (j := 2) rfl)
  have k_a_3 : ∀ W, Below v1.heap.size v1 W → W.cell? ⟨w.heap.size, 3, none⟩ = some (.float .f64 (a 3)) := fun _ h => kold h (B_a.out.cell (j := 3) rfl)
  have k_a_4 : ∀ W, Below v1.heap.size v1 W → W.cell? ⟨w.heap.size, 4, none⟩ = some (.float .f64 (a 4)) := fun _ h => kold h (B_a.out.cell (j := 4) rfl)
  have k_a_5 : ∀ W, Below v1.heap.size v1 W → W.cell? ⟨w.heap.size, 5, none⟩ = some (.float .f64 (a 5)) := fun _ h => kold h (B_a.out.cell (j := 5) rfl)
  have hmul := mulD
  have hR0 : Below v1.heap.size v1 v1 := Below.refl _ _
  go_wp2_with fail
  go_cut [8] (fun sv wx => ∃ (z : Nat), sv = .float .f64 z ∧ (Fc z (opC .mul (G 0) (A 0))) ∧ Below v1.heap.size v1 wx)
  case first =>
    go_region_held (fun W => Below v1.heap.size v1 W) (first | with_reducible assumption | with_reducible exact below_drewN ‹_› _ | go_grown) (first | (go_at_call 67; refine (iCurveP_any _ _).mono ?_; rintro e wz ⟨rfl, hb1⟩; have hR1 : Below v1.heap.size v1 wz := (by refine box_step ?_ hb1 (by go_size); first | with_reducible assumption | go_grown)))
    all_goals
      go_wp2_with fail
      go_meet
      case rel =>
        refine ⟨_, rfl, fc_op _ (H.out.1.h 0 (by decide)) (H.out.2.1.h 0 (by decide)) _, ?_⟩
        first | with_reducible assumption | with_reducible exact below_drewN ‹_› _ | go_grown
  case rest =>
    obtain ⟨z3, rfl, P3, hB⟩ := hcut
    clear k_a_0 k_a_1 k_a_2 k_a_3 k_a_4 k_a_5 hR0
    replace P3 : Hid _ := P3
    obtain ⟨v2, hv⟩ : ∃ v, v = wc := ⟨_, rfl⟩
    subst hv
    replace HO : Hid (Below w.heap.size w v2) := HO.out.trans (hB.mono HO.out.size)
    replace B_a : Hid (Blk v2 (w.heap.size) #[.float .f64 (a 0), .float .f64 (a 1), .float .f64 (a 2), .float .f64 (a 3), .float .f64 (a 4), .float .f64 (a 5)] 33) := Blk.old B_a.out hB
    clear hB
    clear hmul
    have k_a_0 : ∀ W, Below v2.heap.size v2 W → W.cell? ⟨w.heap.size, 0, none⟩ = some (.float .f64 (a 0)) := fun _ h => kold h (B_a.out.cell (j := 0) rfl)
    have k_a_1 : ∀ W, Below v2.heap.size v2 W → W.cell? ⟨w.heap.size, 1, none⟩ = some (.float .f64 (a 1)) := fun _ h => kold h (B_a.out.cell (j := 1) rfl)
    have k_a_2 : ∀ W, Below v2.heap.size v2 W → W.cell? ⟨w.heap.size, 2, none⟩ = some (.float .f64 (a 2)) := fun _ h => kold h (B_a.out.cell (j := 2) rfl)
    have k_a_3 : ∀ W, Below v2.heap.size v2 W → W.cell? ⟨w.heap.size, 3, none⟩ = some (.float .f64 (a 3)) := fun _ h => kold h (B_a.out.cell (j := 3) rfl)
    have k_a_4 : ∀ W, Below v2.heap.size v2 W → W.cell? ⟨w.heap.size, 4, none⟩ = some (.float .f64 (a 4)) := fun _ h => kold h (B_a.out.cell (j := 4) rfl)
    have k_a_5 : ∀ W, Below v2.heap.size v2 W → W.cell? ⟨w.heap.size, 5, none⟩ = some (.float .f64 (a 5)) := fun _ h => kold h (B_a.out.cell (j := 5) rfl)
    have hmul := mulD
    have hR0 : Below v2.heap.size v2 v2 := Below.refl _ _
    go_wp2_with fail
    go_cut [9] (fun sv wx => ∃ (z : Nat), sv = .float .f64 z ∧ (Fc z (opC .mul (G 0) (A 1))) ∧ Below v2.heap.size v2 wx)
    case first =>
      go_region_held (fun W => Below v2.heap.size v2 W) (first | with_reducible assumption | with_reducible exact below_drewN ‹_› _ | go_grown) (first | (go_at_call 67; refine (iCurveP_any _ _).mono ?_; rintro e wz ⟨rfl, hb1⟩; have hR1 : Below v2.heap.size v2 wz := (by refine box_step ?_ hb1 (by go_size); first | with_reducible assumption | go_grown)))
      all_goals
        go_wp2_with fail
        go_meet
        case rel =>
          refine ⟨_, rfl, fc_op _ (H.out.1.h 0 (by decide)) (H.out.2.1.h 1 (by decide)) _, ?_⟩
          first | with_reducible assumption | with_reducible exact below_drewN ‹_› _ | go_grown
    case rest =>
      obtain ⟨z5, rfl, P5, hB⟩ := hcut
      clear k_a_0 k_a_1 k_a_2 k_a_3 k_a_4 k_a_5 hR0
      replace P5 : Hid _ := P5
      obtain ⟨v4, hv⟩ : ∃ v, v = wc := ⟨_, rfl⟩
      subst hv
      replace HO : Hid (Below w.heap.size w v4) := HO.out.trans (hB.mono HO.out.size)
      replace B_a : Hid (Blk v4 (w.heap.size) #[.float .f64 (a 0), .float .f64 (a 1), .float .f64 (a 2), .float .f64 (a 3), .float .f64 (a 4), .float .f64 (a 5)] 33) := Blk.old B_a.out hB
      clear hB
      clear hmul
      go_upto_region 4 with fail
      obtain ⟨v6, hv⟩ : ∃ X, X = (v4.alloc (.cells #[.float .f64 0, .float .f64 0] 81)) := ⟨_, rfl⟩
      rw [← hv]
      have ne_a_c : Hid (w.heap.size ≠ v4.heap.size) := Nat.ne_of_lt (Nat.lt_of_lt_of_le B_a.out.lt (by omega))
      have B_c : Hid (Blk v6 (v4.heap.size) #[.float .f64 0, .float .f64 0] 81) := by show Blk v6 (v4.heap.size) _ _; rw [hv]; exact (Blk.new (by simp))
      have low_c : Hid (w.heap.size ≤ v4.heap.size) := by show w.heap.size ≤ v4.heap.size; have := HO.out.size; omega
      replace B_a : Hid (Blk v6 (w.heap.size) #[.float .f64 (a 0), .float .f64 (a 1), .float .f64 (a 2), .float .f64 (a 3), .float .f64 (a 4), .float .f64 (a 5)] 33) := by show Blk v6 (w.heap.size) _ _; rw [hv]; exact (Blk.alloc B_a.out _)
      replace HO : Hid (Below w.heap.size w v6) := by show Below w.heap.size w v6; rw [hv]; exact (below_new HO.out _)
      clear hv
      go_wp2
      refine bodyPost_ret (v := .tuple #[.float .f64 z3, .float .f64 z5]) (by simp [results, Try.results33, go_sem]) rfl ⟨_, _, rfl, ⟨P3.out, P5.out⟩, ?_⟩
      exact HO.out
set_option maxRecDepth 20000 in
set_option maxHeartbeats 3200000 in
theorem iSlopes_false {g a : Nat → Nat} {G A : Nat → Option Nat} {u : Nat} {U : Option Nat} (hg : Gc g G) (ha : Rc a A) (hu : Fc u U) (w : World) :
    Calls Try.prog 33 #[shp false g, Rv a, .float .f64 u] w fun e w' => ∃ p q, e = .returned (.tuple #[.float .f64 p, .float .f64 q]) ∧ (Fc p (slC false (G 0) (A 0) U) ∧ Fc q (slC false (G 0) (A 1) U)) ∧ Below w.heap.size w w' := by
  have H : Hid (Gc g G ∧ Rc a A ∧ Fc u U) := ⟨hg, ha, hu⟩
  clear hg ha hu
  unfold shp slC
  have hst := st64
  have hta := ta_false
  go_enter Try.func33, Try.ntmps33
  have HO : Hid (Below w.heap.size w w) := Below.refl _ _
  go_upto_region 1 with fail
  obtain ⟨v1, hv⟩ : ∃ X, X = (w.alloc (.cells #[.float .f64 (a 0), .float .f64 (a 1), .float .f64 (a 2), .float .f64 (a 3), .float .f64 (a 4), .float .f64 (a 5)] 33)) := ⟨_, rfl⟩
  rw [← hv]
  have B_a : Hid (Blk v1 (w.heap.size) #[.float .f64 (a 0), .float .f64 (a 1), .float .f64 (a 2), .float .f64 (a 3), .float .f64 (a 4), .float .f64 (a 5)] 33) := by show Blk v1 (w.heap.size) _ _; rw [hv]; exact (Blk.new (by simp))
  have low_a : Hid (w.heap.size ≤ w.heap.size) := by show w.heap.size ≤ w.heap.size; have := HO.out.size; omega
  replace HO : Hid (Below w.heap.size w v1) := by show Below w.heap.size w v1; rw [hv]; exact (below_new HO.out _)
  clear hv
  have k_a_0 : ∀ W, Below v1.heap.size v1 W → W.cell? ⟨w.heap.size, 0, none⟩ = some (.float .f64 (a 0)) := fun _ h => kold h (B_a.out.cell (j := 0) rfl)
  have k_a_1 : ∀ W, Below v1.heap.size v1 W → W.cell? ⟨w.heap.size, 1, none⟩ = some (.float .f64 (a 1)) := fun _ h => kold h (B_a.out.cell (j := 1) rfl)
  have k_a_2 : ∀ W, Below v1.heap.size v1 W → W.cell? ⟨w.heap.size, 2, none⟩ = some (.float .f64 (a 2)) := fun _ h => kold h (B_a.out.cell (j := 2) rfl)
  have k_a_3 : ∀ W, Below v1.heap.size v1 W → W.cell? ⟨w.heap.size, 3, none⟩ = some (.float .f64 (a 3)) := fun _ h => kold h (B_a.out.cell (j := 3) rfl)
  have k_a_4 : ∀ W, Below v1.heap.size v1 W → W.cell? ⟨w.heap.size, 4, none⟩ = some (.float .f64 (a 4)) := fun _ h => kold h (B_a.out.cell (j := 4) rfl)
  have k_a_5 : ∀ W, Below v1.heap.size v1 W → W.cell? ⟨w.heap.size, 5, none⟩ = some (.float .f64 (a 5)) := fun _ h => kold h (B_a.out.cell (j := 5) rfl)
  have hmul := mulD
  have hR0 : Below v1.heap.size v1 v1 := Below.refl _ _
  go_wp2_with fail
  go_cut [8] (fun sv wx => ∃ (z : Nat), sv = .float .f64 z ∧ (Fc z (opC .mul (G 0) (A 0))) ∧ Below v1.heap.size v1 wx)
  case first =>
    go_region_held (fun W => Below v1.heap.size v1 W) (first | with_reducible assumption | with_reducible exact below_drewN ‹_› _ | go_grown) (first | (go_at_call 69; refine (iCurveC_any _ _ _).mono ?_; rintro e wz ⟨rfl, hb1⟩; have hR1 : Below v1.heap.size v1 wz := (by refine box_step ?_ hb1 (by go_size); first | with_reducible assumption | go_grown)))
    all_goals
      go_wp2_with fail
      go_meet
      case rel =>
        refine ⟨_, rfl, fc_op _ (H.out.1.h 0 (by decide)) (H.out.2.1.h 0 (by decide)) _, ?_⟩
        first | with_reducible assumption | with_reducible exact below_drewN ‹_› _ | go_grown
  case rest =>
    obtain ⟨z3, rfl, P3, hB⟩ := hcut
    clear k_a_0 k_a_1 k_a_2 k_a_3 k_a_4 k_a_5 hR0
    replace P3 : Hid _ := P3
    obtain ⟨v2, hv⟩ : ∃ v, v = wc := ⟨_, rfl⟩
    subst hv
    replace HO : Hid (Below w.heap.size w v2) := HO.out.trans (hB.mono HO.out.size)
    replace B_a : Hid (Blk v2 (w.heap.size) #[.float .f64 (a 0), .float .f64 (a 1), .float .f64 (a 2), .float .f64 (a 3), .float .f64 (a 4), .float .f64 (a 5)] 33) := Blk.old B_a.out hB
    clear hB
    clear hmul
    have k_a_0 : ∀ W, Below v2.heap.size v2 W → W.cell? ⟨w.heap.size, 0, none⟩ = some (.float .f64 (a 0)) := fun _ h => kold h (B_a.out.cell (j := 0) rfl)
    have k_a_1 : ∀ W, Below v2.heap.size v2 W → W.cell? ⟨w.heap.size, 1, none⟩ = some (.float .f64 (a 1)) := fun _ h => kold h (B_a.out.cell (j := 1) rfl)
    have k_a_2 : ∀ W, Below v2.heap.size v2 W → W.cell? ⟨w.heap.size, 2, none⟩ = some (.float .f64 (a 2)) := fun _ h => kold h (B_a.out.cell (j := 2) rfl)
    have k_a_3 : ∀ W, Below v2.heap.size v2 W → W.cell? ⟨w.heap.size, 3, none⟩ = some (.float .f64 (a 3)) := fun _ h => kold h (B_a.out.cell (j := 3) rfl)
    have k_a_4 : ∀ W, Below v2.heap.size v2 W → W.cell? ⟨w.heap.size, 4, none⟩ = some (.float .f64 (a 4)) := fun _ h => kold h (B_a.out.cell (j := 4) rfl)
    have k_a_5 : ∀ W, Below v2.heap.size v2 W → W.cell? ⟨w.heap.size, 5, none⟩ = some (.float .f64 (a 5)) := fun _ h => kold h (B_a.out.cell (j := 5) rfl)
    have hmul := mulD
    have hR0 : Below v2.heap.size v2 v2 := Below.refl _ _
    go_wp2_with fail
    go_cut [9] (fun sv wx => ∃ (z : Nat), sv = .float .f64 z ∧ (Fc z (opC .mul (G 0) (A 1))) ∧ Below v2.heap.size v2 wx)
    case first =>
      go_region_held (fun W => Below v2.heap.size v2 W) (first | with_reducible assumption | with_reducible exact below_drewN ‹_› _ | go_grown) (first | (go_at_call 69; refine (iCurveC_any _ _ _).mono ?_; rintro e wz ⟨rfl, hb1⟩; have hR1 : Below v2.heap.size v2 wz := (by refine box_step ?_ hb1 (by go_size); first | with_reducible assumption | go_grown)))
      all_goals
        go_wp2_with fail
        go_meet
        case rel =>
          refine ⟨_, rfl, fc_op _ (H.out.1.h 0 (by decide)) (H.out.2.1.h 1 (by decide)) _, ?_⟩
          first | with_reducible assumption | with_reducible exact below_drewN ‹_› _ | go_grown
    case rest =>
      obtain ⟨z5, rfl, P5, hB⟩ := hcut
      clear k_a_0 k_a_1 k_a_2 k_a_3 k_a_4 k_a_5 hR0
      replace P5 : Hid _ := P5
      obtain ⟨v4, hv⟩ : ∃ v, v = wc := ⟨_, rfl⟩
      subst hv
      replace HO : Hid (Below w.heap.size w v4) := HO.out.trans (hB.mono HO.out.size)
      replace B_a : Hid (Blk v4 (w.heap.size) #[.float .f64 (a 0), .float .f64 (a 1), .float .f64 (a 2), .float .f64 (a 3), .float .f64 (a 4), .float .f64 (a 5)] 33) := Blk.old B_a.out hB
      clear hB
      clear hmul
      go_upto_region 4 with fail
      obtain ⟨v6, hv⟩ : ∃ X, X = (v4.alloc (.cells #[.float .f64 (g 0), .float .f64 (g 1)] 81)) := ⟨_, rfl⟩
      rw [← hv]
      have ne_a_c : Hid (w.heap.size ≠ v4.heap.size) := Nat.ne_of_lt (Nat.lt_of_lt_of_le B_a.out.lt (by omega))
      have B_c : Hid (Blk v6 (v4.heap.size) #[.float .f64 (g 0), .float .f64 (g 1)] 81) := by show Blk v6 (v4.heap.size) _ _; rw [hv]; exact (Blk.new (by simp))
      have low_c : Hid (w.heap.size ≤ v4.heap.size) := by show w.heap.size ≤ v4.heap.size; have := HO.out.size; omega
      replace B_a : Hid (Blk v6 (w.heap.size) #[.float .f64 (a 0), .float .f64 (a 1), .float .f64 (a 2), .float .f64 (a 3), .float .f64 (a 4), .float .f64 (a 5)] 33) := by show Blk v6 (w.heap.size) _ _; rw [hv]; exact (Blk.alloc B_a.out _)
      replace HO : Hid (Below w.heap.size w v6) := by show Below w.heap.size w v6; rw [hv]; exact (below_new HO.out _)
      clear hv
      obtain ⟨s7, q7, h7, F7⟩ := flop .quo (by simp) (P3.out) (H.out.2.2) v6
      replace F7 : Hid _ := F7
      obtain ⟨s8, q8, h8, F8⟩ := flop .quo (by simp) (P5.out) (H.out.2.2) (v6.drewN (q7))
      replace F8 : Hid _ := F8
      go_wp2
      refine bodyPost_ret (v := .tuple #[.float .f64 s7, .float .f64 s8]) (by simp [results, Try.results33, go_sem]) rfl ⟨_, _, rfl, ⟨F7.out, F8.out⟩, ?_⟩
      exact (below_drewN HO.out _)
end Go.Proofs.Ytbcidfmfkmeinaa
