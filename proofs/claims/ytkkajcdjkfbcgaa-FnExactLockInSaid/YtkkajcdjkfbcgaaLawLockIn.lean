/- At every list and period the program's LockIn answers as the specification; nothing that was there is changed. -/
import Derived.Test.YtkkajcdjkfbcgaaLo
import Derived.Test.YtkkajcdjkfbcgaaOp
import Derived.Handy
import Derived.Deep.RegionHeld3
import Derived.Deep.DeepCutAuto
namespace Go.Proofs.Ytkkajcdjkfbcgaa.LawLockIn
open Go.ChangeShapes Go.WideShapes Go.ChangeAt Go.RowKit Go.Joins
set_option linter.unusedVariables false

theorem lock_both (f : Nat → Int) (n : Nat) (P : Int) (hn : n ≤ 2000000) : ∃ k x y : Int, (∀ W v, RdRow W v n f → Calls Try.prog 15 #[v, .int .i64 P] W fun e w' => e = .returned (Qv k x y) ∧ Below W.heap.size W w') ∧ (∀ W v, RdRow W v n f → Calls Try.prog 16 #[v, .int .i64 P] W fun e w' => e = .returned (Qv k x y) ∧ Below W.heap.size W w') := by
  by_cases hf : Lform n P
  · by_cases h4 : 4000 < n
    · exact ⟨2, 0, 0, fun W v h => lock_s2 h hn hf h4, fun W v h => lock_i2 h hn hf h4⟩
    · by_cases hb : InB f n
      · exact ⟨0, _, _, fun W v h => lock_s0 h hn hf (by omega) hb, fun W v h => lock_i0 h hn hf (by omega) hb⟩
      · exact ⟨3, 0, 0, fun W v h => lock_s3 h hn hf (by omega) hb, fun W v h => lock_i3 h hn hf (by omega) hb⟩
  · exact ⟨1, 0, 0, fun W v h => lock_s1 h hn hf, fun W v h => lock_i1 h hn hf⟩
set_option maxRecDepth 20000 in
set_option maxHeartbeats 1600000 in
theorem eqLock_same (k x y : Int) (w : World) : Calls Try.prog 34 #[.agg #[.int .i64 k, .int .i64 x, .int .i64 y], .agg #[.int .i64 k, .int .i64 x, .int .i64 y]] w fun e w' => e = .returned (.bool true) ∧ Below w.heap.size w w' := by
  go_enter Try.func34, Try.ntmps34
  go_wp2
  go_ret
  exact ⟨rfl, by go_grown⟩
set_option maxRecDepth 20000 in
set_option maxHeartbeats 3200000 in
theorem walk {w : World} {v : Value} {n : Nat} {f : Nat → Int} (h : RdRow w v n f) (nb : n ≤ 9223372036854775807) (P : Int) : Calls Try.prog 7 #[v, .int .i64 P] w fun e w' => e = .returned (.bool true) ∧ Below w.heap.size w w' := by
  by_cases hbig : 1048576 < n
  · obtain ⟨ao, cap, rfl, hc⟩ := h.at
    have hI : (1048576 : Int) < n := by omega
    clear h hc
    go_enter Try.func7, Try.ntmps7
    go_wp2
    go_ret
    exact ⟨rfl, Below.refl _ _⟩
  have hI : ¬ (1048576 : Int) < n := by omega
  obtain ⟨k, x, y, hS, hG⟩ := lock_both f n P (by omega)
  have SC : Hid (∀ W v, RdRow W v n f → Calls Try.prog 15 #[v, .int .i64 P] W fun e w' => e = .returned (Qv k x y) ∧ Below W.heap.size W w') := hS
  have IC : Hid (∀ W v, RdRow W v n f → Calls Try.prog 16 #[v, .int .i64 P] W fun e w' => e = .returned (Qv k x y) ∧ Below W.heap.size W w') := hG
  clear hS hG
  have hn2 : n ≤ 1000000000000 := by omega
  have RV : Hid (RdRow w v n f) := h
  have HO : Hid (Below w.heap.size w w) := Below.refl _ _
  obtain ⟨ao, cap, rfl, hc⟩ := h.at
  clear h hc
  go_enter Try.func7, Try.ntmps7
  go_wp2_with fail
  refine (toI_any RV.out hn2).mono ?_
  rintro e w1 ⟨rfl, r1, b, _⟩
  have R1 : Hid (RdRow w1 (.slice (some ⟨w.heap.size, 0, none⟩) n n) n f) := r1.rdI
  clear r1
  replace RV : Hid (RdRow w1 (.slice ao n cap) n f) := RV.out.later b
  replace HO : Hid (Below w.heap.size w w1) := HO.out.trans (b.mono HO.out.size)
  clear b
  go_wp2_with fail
  refine (SC.out _ _ R1.out).mono ?_
  rintro e w2 ⟨rfl, b⟩
  replace RV : Hid (RdRow w2 (.slice ao n cap) n f) := RV.out.later b
  replace R1 : Hid (RdRow w2 (.slice (some ⟨w.heap.size, 0, none⟩) n n) n f) := R1.out.later b
  replace HO : Hid (Below w.heap.size w w2) := HO.out.trans (b.mono HO.out.size)
  clear b
  clear R1
  go_upto_region 4 with fail
  obtain ⟨w3, hwd⟩ : ∃ W, W = w2.alloc (.cells #[.int .i64 k, .int .i64 x, .int .i64 y] 28) := ⟨_, rfl⟩
  have BS : Hid (Blk w3 w2.heap.size #[.int .i64 k, .int .i64 x, .int .i64 y] 28) := by show Blk _ _ _ _; rw [hwd]; exact Blk.new rfl
  have b : Below w2.heap.size w2 w3 := by rw [hwd]; exact (Below.refl _ _).alloc (Nat.le_refl _) _
  rw [← hwd]
  clear hwd
  replace RV : Hid (RdRow w3 (.slice ao n cap) n f) := RV.out.later b
  replace HO : Hid (Below w.heap.size w w3) := HO.out.trans (b.mono HO.out.size)
  clear b
  go_wp2_with fail
  refine (toI_any RV.out hn2).mono ?_
  rintro e w4 ⟨rfl, r1, b, _⟩
  have R4 : Hid (RdRow w4 (.slice (some ⟨w3.heap.size, 0, none⟩) n n) n f) := r1.rdI
  clear r1
  replace RV : Hid (RdRow w4 (.slice ao n cap) n f) := RV.out.later b
  replace BS : Hid (Blk w4 w2.heap.size #[.int .i64 k, .int .i64 x, .int .i64 y] 28) := BS.out.later b
  replace HO : Hid (Below w.heap.size w w4) := HO.out.trans (b.mono HO.out.size)
  clear b
  go_wp2_with fail
  refine (IC.out _ _ R4.out).mono ?_
  rintro e w5 ⟨rfl, b⟩
  replace RV : Hid (RdRow w5 (.slice ao n cap) n f) := RV.out.later b
  replace BS : Hid (Blk w5 w2.heap.size #[.int .i64 k, .int .i64 x, .int .i64 y] 28) := BS.out.later b
  replace R4 : Hid (RdRow w5 (.slice (some ⟨w3.heap.size, 0, none⟩) n n) n f) := R4.out.later b
  replace HO : Hid (Below w.heap.size w w5) := HO.out.trans (b.mono HO.out.size)
  clear b
  go_upto_region 6 with fail
  obtain ⟨w6, hwd⟩ : ∃ W, W = w5.alloc (.cells #[.int .i64 k, .int .i64 x, .int .i64 y] 28) := ⟨_, rfl⟩
  have BG : Hid (Blk w6 w5.heap.size #[.int .i64 k, .int .i64 x, .int .i64 y] 28) := by show Blk _ _ _ _; rw [hwd]; exact Blk.new rfl
  have b : Below w5.heap.size w5 w6 := by rw [hwd]; exact (Below.refl _ _).alloc (Nat.le_refl _) _
  rw [← hwd]
  clear hwd
  replace RV : Hid (RdRow w6 (.slice ao n cap) n f) := RV.out.later b
  replace BS : Hid (Blk w6 w2.heap.size #[.int .i64 k, .int .i64 x, .int .i64 y] 28) := BS.out.later b
  replace R4 : Hid (RdRow w6 (.slice (some ⟨w3.heap.size, 0, none⟩) n n) n f) := R4.out.later b
  replace HO : Hid (Below w.heap.size w w6) := HO.out.trans (b.mono HO.out.size)
  clear b
  have cs0 := BS.out.cell (j := 0) (v := .int .i64 k) rfl
  have cg0 := BG.out.cell (j := 0) (v := .int .i64 k) rfl
  have cs1 := BS.out.cell (j := 1) (v := .int .i64 x) rfl
  have cg1 := BG.out.cell (j := 1) (v := .int .i64 x) rfl
  have cs2 := BS.out.cell (j := 2) (v := .int .i64 y) rfl
  have cg2 := BG.out.cell (j := 2) (v := .int .i64 y) rfl
  go_wp2_with fail
  refine (eqLock_same k x y _).mono ?_
  rintro e w7 ⟨rfl, b⟩
  clear cs0 cs1 cs2 cg0 cg1 cg2 BS BG
  replace RV : Hid (RdRow w7 (.slice ao n cap) n f) := RV.out.later b
  replace R4 : Hid (RdRow w7 (.slice (some ⟨w3.heap.size, 0, none⟩) n n) n f) := R4.out.later b
  replace HO : Hid (Below w.heap.size w w7) := HO.out.trans (b.mono HO.out.size)
  clear b
  go_wp2_with fail
  refine (toI_any RV.out hn2).mono ?_
  rintro e w8 ⟨rfl, r1, b, _⟩
  have R8 : Hid (RdRow w8 (.slice (some ⟨w7.heap.size, 0, none⟩) n n) n f) := r1.rdI
  clear r1
  replace RV : Hid (RdRow w8 (.slice ao n cap) n f) := RV.out.later b
  replace R4 : Hid (RdRow w8 (.slice (some ⟨w3.heap.size, 0, none⟩) n n) n f) := R4.out.later b
  replace HO : Hid (Below w.heap.size w w8) := HO.out.trans (b.mono HO.out.size)
  clear b
  go_wp2_with fail
  refine ((eqI_any R4.out R8.out hn2).mono fun _ _ h => drew_below h).mono ?_
  rintro e w9 ⟨rfl, b⟩
  replace RV : Hid (RdRow w9 (.slice ao n cap) n f) := RV.out.later b
  replace R4 : Hid (RdRow w9 (.slice (some ⟨w3.heap.size, 0, none⟩) n n) n f) := R4.out.later b
  replace R8 : Hid (RdRow w9 (.slice (some ⟨w7.heap.size, 0, none⟩) n n) n f) := R8.out.later b
  replace HO : Hid (Below w.heap.size w w9) := HO.out.trans (b.mono HO.out.size)
  clear b
  go_wp2
  go_ret
  exact ⟨rfl, HO.out⟩

set_option maxRecDepth 100000 in
theorem lifted (os : Os) (started : os.Started) (H : Type) (enc : TypeId × Value → H) :
    ReturnsInHanded {} Try.checked os 7 .any (Rows.fnExactLockInSpec.pre6 enc Try.prog Try.f7 Rows.fnExactLockInRow.domain false) (Rows.fnExactLockInSpec.post enc Try.prog Try.f7 false true false false) := by
  refine returnsInHanded_of_change (C := Try.checked) own started (by kernel_rfl) Try.func7
    (ChangeSpec.witness6 (enc := enc) (C := Try.checked) false ⟨#[], #[.slice none 0 0, .int .i64 0], []⟩ 8 (by kernel_rfl) (by kernel_rfl) (by kernel_rfl) (by kernel_rfl)) ?_
  intro W base args ds gs before hval0 hW hcnd _
  have hval : ∀ (j : Nat) t v, Try.f7.params[j]? = some t → args[j]? = some v → Value.okWide Try.prog W .any base t v := hval0
  have hW' := hW
  obtain ⟨p, q, hA0, hV, rfl, hfz, hnd⟩ := hW
  have hA : DataW.TrodAll enc Try.prog W 0 (fun _ => true) true Try.f7.params.toList args.toList ds p := hA0
  rw [Try.params7] at hA hval
  obtain ⟨v0, vs0, d0, ds0, p0, q0, hargs, rfl, rfl, h0, r0⟩ := trodAll_cons hA
  obtain ⟨v1, vs1, d1, ds1, p1, q1, rfl, rfl, rfl, h1, r1⟩ := trodAll_cons r0
  obtain ⟨rfl, rfl, rfl⟩ := trodAll_nil r1
  obtain rfl : args = #[v0, v1] := by cases args; simp_all
  obtain ⟨rfl, rfl⟩ := trodVars_none hV
  have k0 := h0
  have lt0 : ∀ x ∈ p0, x.block < W.heap.size := by obtain ⟨m, hm⟩ := k0; exact DataW.trod_lt m _ _ _ hm
  obtain ⟨n0, F0, R0, nb0⟩ := open_row (hval 0 24 v0 rfl rfl) h0
  have k1 := h1
  have lt1 : ∀ x ∈ p1, x.block < W.heap.size := by obtain ⟨m, hm⟩ := k1; exact DataW.trod_lt m _ _ _ hm
  obtain ⟨n1, rfl, _, _, w1⟩ := open_int Try.underlying2 (hval 1 2 v1 rfl rfl) h1
  clear hA0 hval0
  refine (walk R0 nb0 n1).mono fun e W' ⟨he, bel⟩ => ?_
  subst he
  exact ⟨_, rfl, _, _, _, [], _, [], hW', trodAll_mk1 (shut_bool Try.underlying4 _), (trodAll_cons_mk (Below.trod laidOut (by kernel_rfl) (of_decide_eq_true (by kernel_rfl)) k0 bel lt0) (trodAll_cons_mk (Below.trod laidOut (by kernel_rfl) (of_decide_eq_true (by kernel_rfl)) k1 bel lt1) trodAll_mk0)), rfl, bel.frame _, fun h => by cases h⟩

theorem over : Rows.fnExactLockInRow.holds Try.pinned (OpenSpec.ofChange Rows.fnExactLockInSpec) :=
  OpenClaim.holds_of_wide 7 Try.f7 rfl rfl rfl rfl rfl rfl rfl ⟨rfl, rfl, rfl, rfl, rfl⟩ rfl rfl rfl rfl rfl (by kernel_rfl) Try.func7 (by kernel_rfl)
    (of_decide_eq_true (by kernel_rfl)) (by unfold Func.isWrapper; first | (rw [if_pos (by decide +kernel)]; kernel_rfl) | (rw [if_neg (by decide +kernel)]; exact ⟨rfl, rfl⟩))
    (fun os started H enc _ => lifted os started H enc)
end Go.Proofs.Ytkkajcdjkfbcgaa.LawLockIn
namespace Go.Proofs.Ytkkajcdjkfbcgaa
theorem lockIn_holds : Rows.FnExactLockInSaid := LawLockIn.over
#print axioms lockIn_holds
end Go.Proofs.Ytkkajcdjkfbcgaa
