/- At every list of lights the program's MixStokes answers as the specification, code and numbers, where the law's own bound on the sizes does not answer first; nothing that was there is changed. -/
import Derived.Test.YtloebnlmeplgbaaOr
import Derived.Test.YtloebnlmeplgbaaMs
import Derived.Handy
import Derived.Deep.RegionHeld3
import Derived.Deep.DeepCutAuto
namespace Go.Proofs.Ytloebnlmeplgbaa.LawMixStokes
open Go.ChangeShapes Go.WideShapes Go.ChangeAt Go.RowKit Go.Joins
set_option linter.unusedVariables false

set_option maxRecDepth 100000 in
set_option maxHeartbeats 6400000 in
theorem walk {w : World} {v : Value} {n : Nat} {G : Nat → Sk} (h : RdV w v n 4 (fun i j => skc (G i) j)) (hn : n ≤ 9223372036854775807) :
    Calls Try.prog 12 #[v] w fun e w' => e = .returned (.bool true) ∧ Below w.heap.size w w' := by
  obtain ⟨ao, cap, rfl⟩ := h.form
  have H : Hid (RdV w (.slice ao n cap) n 4 (fun i j => skc (G i) j)) := h
  clear h
  have HZ : Hid (∀ W, Calls Try.prog 49 #[.slice ao n cap, .int .i64 1048576] W fun e w' => e = .returned (.int .i64 (if 1048576 < n then -1 else 1048576 - n)) ∧ W = w') := fun W => szSks_any ao n cap W hn
  go_enter Try.func12, Try.ntmps12
  by_cases hb : 1048576 < n
  · rw [if_pos hb] at HZ
    go_wp2_with (go_at_call 49; refine (HZ.out _).mono ?_; rintro e w' ⟨rfl, rfl⟩)
    go_ret
    exact ⟨rfl, Below.refl _ _⟩
  rw [if_neg hb] at HZ
  have hn1 : n ≤ 1048576 := by omega
  have hn3 : n ≤ 1000000000 := by omega
  have hn2 : n ≤ 1000000000000 := by omega
  have hnI : ¬ ((1048576 : Int) - n < 0) := by omega
  obtain ⟨c, hc⟩ : ∃ c, c = mxC G n := ⟨_, rfl⟩
  obtain ⟨m, hm⟩ : ∃ m, m = mxS G n := ⟨_, rfl⟩
  have SC : Hid (∀ W b, SegV W b 36 n 4 (fun i j => skc (G i) j) → Calls Try.prog 50 #[.slice (some ⟨b, 0, none⟩) n n] W fun e w' => e = .returned (.agg #[.int .i64 c, .int .i64 m.i, .int .i64 m.q, .int .i64 m.u, .int .i64 m.v]) ∧ Below W.heap.size W w') := fun W b hs => by rw [hc, hm]; exact smx hs.rd
  have IC : Hid (∀ W b, SegV W b 36 n 4 (fun i j => skc (G i) j) → Calls Try.prog 52 #[.slice (some ⟨b, 0, none⟩) n n] W fun e w' => e = .returned (.agg #[.int .i64 c, .int .i64 m.i, .int .i64 m.q, .int .i64 m.u, .int .i64 m.v]) ∧ Below W.heap.size W w') := fun W b hs => by rw [hc, hm]; exact imx hs.rd
  clear hc hm
  have HO : Hid (Below w.heap.size w w) := Below.refl _ _
  go_wp2_with (go_at_call 49; refine (HZ.out _).mono ?_; rintro e w' ⟨rfl, rfl⟩)
  clear HZ
  go_wp2_with fail
  refine (toSks_any (H.out.later HO.out) hn3).mono ?_
  rintro e w1 ⟨rfl, sx, b⟩
  have SA : Hid (SegV w1 w.heap.size 36 n 4 (fun i j => skc (G i) j)) := sx
  clear sx
  have Z1 : Hid (w.heap.size ≤ w1.heap.size) := b.size
  replace HO : Hid (Below w.heap.size w w1) := HO.out.trans (b.mono HO.out.size)
  clear b
  have Q1 : Hid (w.heap.size + 1 ≤ w1.heap.size) := SA.out.lt
  go_wp2_with fail
  refine (SC.out _ _ SA.out).mono ?_
  rintro e w2 ⟨rfl, b⟩
  replace SA : Hid (SegV w2 w.heap.size 36 n 4 (fun i j => skc (G i) j)) := SA.out.later b
  have Z2 : Hid (w1.heap.size ≤ w2.heap.size) := b.size
  replace HO : Hid (Below w.heap.size w w2) := HO.out.trans (b.mono HO.out.size)
  clear b
  clear SA
  go_upto_region 6 with fail
  obtain ⟨w3, hwd⟩ : ∃ W, W = w2.alloc (.cells #[.int .i64 c, .int .i64 m.i, .int .i64 m.q, .int .i64 m.u, .int .i64 m.v] 38) := ⟨_, rfl⟩
  have BS : Hid (Blk w3 w2.heap.size #[.int .i64 c, .int .i64 m.i, .int .i64 m.q, .int .i64 m.u, .int .i64 m.v] 38) := by show Blk _ _ _ _; rw [hwd]; exact Blk.new rfl
  have b : Below w2.heap.size w2 w3 := by rw [hwd]; exact (Below.refl _ _).alloc (Nat.le_refl _) _
  have Y3 : Hid (w2.heap.size + 1 ≤ w3.heap.size) := by show _ ≤ _; rw [hwd]; simp
  rw [← hwd]
  clear hwd
  have Z3 : Hid (w2.heap.size ≤ w3.heap.size) := b.size
  replace HO : Hid (Below w.heap.size w w3) := HO.out.trans (b.mono HO.out.size)
  clear b
  go_wp2_with fail
  refine (toSks_any (H.out.later HO.out) hn3).mono ?_
  rintro e w4 ⟨rfl, sx, b⟩
  have SX : Hid (SegV w4 w3.heap.size 36 n 4 (fun i j => skc (G i) j)) := sx
  clear sx
  replace BS : Hid (Blk w4 w2.heap.size #[.int .i64 c, .int .i64 m.i, .int .i64 m.q, .int .i64 m.u, .int .i64 m.v] 38) := BS.out.later b
  have Z4 : Hid (w3.heap.size ≤ w4.heap.size) := b.size
  replace HO : Hid (Below w.heap.size w w4) := HO.out.trans (b.mono HO.out.size)
  clear b
  have Q4 : Hid (w3.heap.size + 1 ≤ w4.heap.size) := SX.out.lt
  go_wp2_with fail
  refine (IC.out _ _ SX.out).mono ?_
  rintro e w5 ⟨rfl, b⟩
  replace BS : Hid (Blk w5 w2.heap.size #[.int .i64 c, .int .i64 m.i, .int .i64 m.q, .int .i64 m.u, .int .i64 m.v] 38) := BS.out.later b
  replace SX : Hid (SegV w5 w3.heap.size 36 n 4 (fun i j => skc (G i) j)) := SX.out.later b
  have Z5 : Hid (w4.heap.size ≤ w5.heap.size) := b.size
  replace HO : Hid (Below w.heap.size w w5) := HO.out.trans (b.mono HO.out.size)
  clear b
  go_upto_region 8 with fail
  obtain ⟨w6, hwd⟩ : ∃ W, W = w5.alloc (.cells #[.int .i64 c, .int .i64 m.i, .int .i64 m.q, .int .i64 m.u, .int .i64 m.v] 38) := ⟨_, rfl⟩
  have BG : Hid (Blk w6 w5.heap.size #[.int .i64 c, .int .i64 m.i, .int .i64 m.q, .int .i64 m.u, .int .i64 m.v] 38) := by show Blk _ _ _ _; rw [hwd]; exact Blk.new rfl
  have b : Below w5.heap.size w5 w6 := by rw [hwd]; exact (Below.refl _ _).alloc (Nat.le_refl _) _
  have Y6 : Hid (w5.heap.size + 1 ≤ w6.heap.size) := by show _ ≤ _; rw [hwd]; simp
  rw [← hwd]
  clear hwd
  replace BS : Hid (Blk w6 w2.heap.size #[.int .i64 c, .int .i64 m.i, .int .i64 m.q, .int .i64 m.u, .int .i64 m.v] 38) := BS.out.later b
  replace SX : Hid (SegV w6 w3.heap.size 36 n 4 (fun i j => skc (G i) j)) := SX.out.later b
  have Z6 : Hid (w5.heap.size ≤ w6.heap.size) := b.size
  replace HO : Hid (Below w.heap.size w w6) := HO.out.trans (b.mono HO.out.size)
  clear b
  have cs0 := BS.out.cell (j := 0) (v := .int .i64 c) rfl
  have cs1 := BS.out.cell (j := 1) (v := .int .i64 m.i) rfl
  have cs2 := BS.out.cell (j := 2) (v := .int .i64 m.q) rfl
  have cs3 := BS.out.cell (j := 3) (v := .int .i64 m.u) rfl
  have cs4 := BS.out.cell (j := 4) (v := .int .i64 m.v) rfl
  have cg0 := BG.out.cell (j := 0) (v := .int .i64 c) rfl
  have cg1 := BG.out.cell (j := 1) (v := .int .i64 m.i) rfl
  have cg2 := BG.out.cell (j := 2) (v := .int .i64 m.q) rfl
  have cg3 := BG.out.cell (j := 3) (v := .int .i64 m.u) rfl
  have cg4 := BG.out.cell (j := 4) (v := .int .i64 m.v) rfl
  go_wp2_with fail
  refine (eqSR_same c m _).mono ?_
  rintro e w7 ⟨rfl, b⟩
  replace BS : Hid (Blk w7 w2.heap.size #[.int .i64 c, .int .i64 m.i, .int .i64 m.q, .int .i64 m.u, .int .i64 m.v] 38) := BS.out.later b
  replace SX : Hid (SegV w7 w3.heap.size 36 n 4 (fun i j => skc (G i) j)) := SX.out.later b
  replace BG : Hid (Blk w7 w5.heap.size #[.int .i64 c, .int .i64 m.i, .int .i64 m.q, .int .i64 m.u, .int .i64 m.v] 38) := BG.out.later b
  have Z7 : Hid (w6.heap.size ≤ w7.heap.size) := b.size
  replace HO : Hid (Below w.heap.size w w7) := HO.out.trans (b.mono HO.out.size)
  clear b
  clear cs0 cs1 cs2 cs3 cs4 cg0 cg1 cg2 cg3 cg4
  go_wp2_with fail
  refine (toSks_any (H.out.later HO.out) hn3).mono ?_
  rintro e w8 ⟨rfl, sx, b⟩
  have SY : Hid (SegV w8 w7.heap.size 36 n 4 (fun i j => skc (G i) j)) := sx
  clear sx
  replace BS : Hid (Blk w8 w2.heap.size #[.int .i64 c, .int .i64 m.i, .int .i64 m.q, .int .i64 m.u, .int .i64 m.v] 38) := BS.out.later b
  replace SX : Hid (SegV w8 w3.heap.size 36 n 4 (fun i j => skc (G i) j)) := SX.out.later b
  replace BG : Hid (Blk w8 w5.heap.size #[.int .i64 c, .int .i64 m.i, .int .i64 m.q, .int .i64 m.u, .int .i64 m.v] 38) := BG.out.later b
  have Z8 : Hid (w7.heap.size ≤ w8.heap.size) := b.size
  replace HO : Hid (Below w.heap.size w w8) := HO.out.trans (b.mono HO.out.size)
  clear b
  have Q8 : Hid (w7.heap.size + 1 ≤ w8.heap.size) := SY.out.lt
  go_wp2_with fail
  refine (eqSks_same _ _ _ _ n G _ hn2 SX.out SY.out).mono ?_
  rintro e w9 ⟨rfl, b⟩
  replace BS : Hid (Blk w9 w2.heap.size #[.int .i64 c, .int .i64 m.i, .int .i64 m.q, .int .i64 m.u, .int .i64 m.v] 38) := BS.out.later b
  replace SX : Hid (SegV w9 w3.heap.size 36 n 4 (fun i j => skc (G i) j)) := SX.out.later b
  replace BG : Hid (Blk w9 w5.heap.size #[.int .i64 c, .int .i64 m.i, .int .i64 m.q, .int .i64 m.u, .int .i64 m.v] 38) := BG.out.later b
  replace SY : Hid (SegV w9 w7.heap.size 36 n 4 (fun i j => skc (G i) j)) := SY.out.later b
  have Z9 : Hid (w8.heap.size ≤ w9.heap.size) := b.size
  replace HO : Hid (Below w.heap.size w w9) := HO.out.trans (b.mono HO.out.size)
  clear b
  go_wp2
  go_ret
  exact ⟨rfl, HO.out⟩

set_option maxRecDepth 100000 in
theorem lifted (os : Os) (started : os.Started) (H : Type) (enc : TypeId × Value → H) :
    ReturnsInHanded {} Try.checked os 12 .any (Rows.fnExactMixStokesSpec.pre6 enc Try.prog Try.f12 Rows.fnExactMixStokesRow.domain false) (Rows.fnExactMixStokesSpec.post enc Try.prog Try.f12 false true false false) := by
  refine returnsInHanded_of_change (C := Try.checked) own started (by kernel_rfl) Try.func12
    (ChangeSpec.witness6 (enc := enc) (C := Try.checked) false ⟨#[], #[.slice none 0 0], []⟩ 8 (by kernel_rfl) (by kernel_rfl) (by kernel_rfl) (by kernel_rfl)) ?_
  intro W base args ds gs before hval0 hW hcnd _
  have hval : ∀ (j : Nat) t v, Try.f12.params[j]? = some t → args[j]? = some v → Value.okWide Try.prog W .any base t v := hval0
  have hW' := hW
  obtain ⟨p, q, hA0, hV, rfl, hfz, hnd⟩ := hW
  have hA : DataW.TrodAll enc Try.prog W 0 (fun _ => true) true Try.f12.params.toList args.toList ds p := hA0
  rw [Try.params12] at hA hval
  obtain ⟨v0, vs0, d0, ds0, p0, q0, hargs, rfl, rfl, h0, r0⟩ := trodAll_cons hA
  obtain ⟨rfl, rfl, rfl⟩ := trodAll_nil r0
  obtain rfl : args = #[v0] := by cases args; simp_all
  obtain ⟨rfl, rfl⟩ := trodVars_none hV
  have k0 := h0
  have lt0 : ∀ x ∈ p0, x.block < W.heap.size := by obtain ⟨m, hm⟩ := k0; exact DataW.trod_lt m _ _ _ hm
  obtain ⟨n0, F0, R0, nb0⟩ := open_srow (hval 0 78 v0 rfl rfl) h0
  clear hA0 hval0
  refine (walk R0 nb0).mono fun e W' ⟨he, bel⟩ => ?_
  subst he
  exact ⟨_, rfl, _, _, _, [], _, [], hW', trodAll_mk1 (shut_bool Try.underlying4 _), (trodAll_cons_mk (Below.trod laidOut (by kernel_rfl) (of_decide_eq_true (by kernel_rfl)) k0 bel lt0) trodAll_mk0), rfl, bel.frame _, fun h => by cases h⟩

theorem over : Rows.fnExactMixStokesRow.holds Try.pinned (OpenSpec.ofChange Rows.fnExactMixStokesSpec) :=
  OpenClaim.holds_of_wide 12 Try.f12 rfl rfl rfl rfl rfl rfl rfl ⟨rfl, rfl, rfl, rfl, rfl⟩ rfl rfl rfl rfl rfl (by kernel_rfl) Try.func12 (by kernel_rfl)
    (of_decide_eq_true (by kernel_rfl)) (by unfold Func.isWrapper; first | (rw [if_pos (by decide +kernel)]; kernel_rfl) | (rw [if_neg (by decide +kernel)]; exact ⟨rfl, rfl⟩))
    (fun os started H enc _ => lifted os started H enc)
end Go.Proofs.Ytloebnlmeplgbaa.LawMixStokes
namespace Go.Proofs.Ytloebnlmeplgbaa
theorem mixStokes_holds : Rows.FnExactMixStokesSaid := LawMixStokes.over
#print axioms mixStokes_holds
end Go.Proofs.Ytloebnlmeplgbaa
