/- At every field the program's PowerOf answers as the specification, all NaNs being one, and its argument is as it was, where the law's own bound on the length does not answer first; nothing that was there is changed. -/
import Derived.Test.YtgidoceflkdklaaPw
import Derived.Test.YtgidoceflkdklaaOpenZs
import Derived.Handy
import Derived.Deep.RegionHeld3
import Derived.Deep.DeepCutAuto
namespace Go.Proofs.Ytgidoceflkdklaa.LawPowerOf
open Go.ChangeShapes Go.WideShapes Go.ChangeAt Go.RowKit Go.Joins Fl
set_option linter.unusedVariables false

set_option maxRecDepth 100000 in
set_option maxHeartbeats 6400000 in
theorem walk {w : World} {v : Value} {n : Nat} {f : Nat → Nat → Nat} (h : RdM w v n 2 f) (hn : n ≤ 9223372036854775807) (hf : ∀ i, i < n → Zc (f i 0) (f i 1) (clZ f i)) :
    Calls Try.prog 9 #[v] w fun e w' => e = .returned (.bool true) ∧ Below w.heap.size w w' := by
  obtain ⟨ao, cap, rfl⟩ := h.form
  have H : Hid (RdM w (.slice ao n cap) n 2 f) := h
  have HF : Hid (∀ i, i < n → Zc (f i 0) (f i 1) (clZ f i)) := hf
  clear h hf
  have SZ : Hid (∀ w, Calls Try.prog 19 #[.slice ao n cap, .int .i64 1048576] w fun e w' => e = .returned (.int .i64 (if 1048576 < n then -1 else 1048576 - n)) ∧ w = w') := fun w => sz28_any ao n cap w hn
  go_enter Try.func9, Try.ntmps9
  by_cases hb : 1048576 < n
  · rw [if_pos hb] at SZ
    have hbI : (1048576 : Int) < n := by omega
    go_wp2_with (first | (go_at_call 19; refine (SZ.out _).mono ?_; rintro e w1 ⟨rfl, rfl⟩))
    go_ret
    exact ⟨rfl, Below.refl _ _⟩
  rw [if_neg hb] at SZ
  have hbI : ¬ (1048576 : Int) < n := by omega
  have hn2 : n ≤ 1000000000000 := by omega
  obtain ⟨LF, hLF⟩ : ∃ L : Int, L = 1048576 - n := ⟨_, rfl⟩
  have hLF0 : ¬ LF < 0 := by omega
  rw [← hLF] at SZ
  clear hLF
  have HO : Hid (Below w.heap.size w w) := Below.refl _ _
  go_wp2_with fail
  refine (SZ.out _).mono ?_
  rintro e wx ⟨rfl, rfl⟩
  clear SZ
  go_wp2_with fail
  refine (to28_any (H.out.later HO.out) hn2).mono ?_
  rintro e w1 ⟨rfl, sx, b⟩
  have SA : Hid (OwZ w.heap.size w1.heap.size w1 (.slice (some ⟨w.heap.size, 0, none⟩) n n) n f) := Or.inr ⟨_, _, rfl, Nat.le_refl _, sx.lt, sx⟩
  clear sx
  have Z1 : Hid (w.heap.size ≤ w1.heap.size) := b.size
  replace HO : Hid (Below w.heap.size w w1) := HO.out.trans (b.mono HO.out.size)
  clear b
  go_wp2_with fail
  refine (sPow_any SA.out.rd hn2 HF.out).mono ?_
  rintro e w2 ⟨ps, rfl, cs, b⟩
  replace cs : Hid _ := cs
  replace SA : Hid (OwZ w.heap.size w1.heap.size w2 (.slice (some ⟨w.heap.size, 0, none⟩) n n) n f) := SA.out.later b
  have Z2 : Hid (w1.heap.size ≤ w2.heap.size) := b.size
  replace HO : Hid (Below w.heap.size w w2) := HO.out.trans (b.mono HO.out.size)
  clear b
  clear SA
  go_wp2_with fail
  refine (to28_any (H.out.later HO.out) hn2).mono ?_
  rintro e w3 ⟨rfl, sx, b⟩
  have SX : Hid (OwZ w2.heap.size w3.heap.size w3 (.slice (some ⟨w2.heap.size, 0, none⟩) n n) n f) := Or.inr ⟨_, _, rfl, Nat.le_refl _, sx.lt, sx⟩
  clear sx
  have Z3 : Hid (w2.heap.size ≤ w3.heap.size) := b.size
  replace HO : Hid (Below w.heap.size w w3) := HO.out.trans (b.mono HO.out.size)
  clear b
  go_wp2_with fail
  refine (iPow_any SX.out.rd hn2 HF.out).mono ?_
  rintro e w4 ⟨pg, rfl, cg, b⟩
  replace cg : Hid _ := cg
  replace SX : Hid (OwZ w2.heap.size w3.heap.size w4 (.slice (some ⟨w2.heap.size, 0, none⟩) n n) n f) := SX.out.later b
  have Z4 : Hid (w3.heap.size ≤ w4.heap.size) := b.size
  replace HO : Hid (Below w.heap.size w w4) := HO.out.trans (b.mono HO.out.size)
  clear b
  go_wp2_with fail
  refine (same_any cg.out.1 cs.out.1 (cg.out.2.trans cs.out.2.symm) _).mono ?_
  rintro e wx ⟨rfl, rfl⟩
  go_wp2_with fail
  refine (to28_any (H.out.later HO.out) hn2).mono ?_
  rintro e w5 ⟨rfl, sx, b⟩
  have SY : Hid (OwZ w4.heap.size w5.heap.size w5 (.slice (some ⟨w4.heap.size, 0, none⟩) n n) n f) := Or.inr ⟨_, _, rfl, Nat.le_refl _, sx.lt, sx⟩
  clear sx
  replace SX : Hid (OwZ w2.heap.size w3.heap.size w5 (.slice (some ⟨w2.heap.size, 0, none⟩) n n) n f) := SX.out.later b
  have Z5 : Hid (w4.heap.size ≤ w5.heap.size) := b.size
  replace HO : Hid (Below w.heap.size w w5) := HO.out.trans (b.mono HO.out.size)
  clear b
  go_wp2_with fail
  refine (eqZS_any SX.out.rd SY.out.rd hn2 HF.out HF.out).mono ?_
  rintro e w6 ⟨rfl, b⟩
  replace SX : Hid (OwZ w2.heap.size w3.heap.size w6 (.slice (some ⟨w2.heap.size, 0, none⟩) n n) n f) := SX.out.later b
  replace SY : Hid (OwZ w4.heap.size w5.heap.size w6 (.slice (some ⟨w4.heap.size, 0, none⟩) n n) n f) := SY.out.later b
  have Z6 : Hid (w5.heap.size ≤ w6.heap.size) := b.size
  replace HO : Hid (Below w.heap.size w w6) := HO.out.trans (b.mono HO.out.size)
  clear b
  go_wp2
  go_ret
  exact ⟨rfl, HO.out⟩

set_option maxRecDepth 100000 in
theorem lifted (os : Os) (started : os.Started) (H : Type) (enc : TypeId × Value → H) :
    ReturnsInHanded {} Try.checked os 9 .any (Rows.fnExactPowerOfSpec.pre6 enc Try.prog Try.f9 Rows.fnExactPowerOfRow.domain false) (Rows.fnExactPowerOfSpec.post enc Try.prog Try.f9 false true false false) := by
  refine returnsInHanded_of_change (C := Try.checked) own started (by kernel_rfl) Try.func9
    (ChangeSpec.witness6 (enc := enc) (C := Try.checked) false ⟨#[], #[.slice none 0 0], []⟩ 8 (by kernel_rfl) (by kernel_rfl) (by kernel_rfl) (by kernel_rfl)) ?_
  intro W base args ds gs before hval0 hW hcnd _
  have hval : ∀ (j : Nat) t v, Try.f9.params[j]? = some t → args[j]? = some v → Value.okWide Try.prog W .any base t v := hval0
  have hW' := hW
  obtain ⟨p, q, hA0, hV, rfl, hfz, hnd⟩ := hW
  have hA : DataW.TrodAll enc Try.prog W 0 (fun _ => true) true Try.f9.params.toList args.toList ds p := hA0
  rw [Try.params9] at hA hval
  obtain ⟨v0, vs0, d0, ds0, p0, q0, hargs, rfl, rfl, h0, r0⟩ := trodAll_cons hA
  obtain ⟨rfl, rfl, rfl⟩ := trodAll_nil r0
  obtain rfl : args = #[v0] := by cases args; simp_all
  obtain ⟨rfl, rfl⟩ := trodVars_none hV
  have k0 := h0
  have lt0 : ∀ x ∈ p0, x.block < W.heap.size := by obtain ⟨m, hm⟩ := k0; exact DataW.trod_lt m _ _ _ hm
  obtain ⟨n0, F0, R0, nb0, fb0⟩ := open_zrow (hval 0 32 v0 rfl rfl) h0
  clear hA0 hval0
  refine (walk R0 nb0 fb0).mono fun e W' ⟨he, bel⟩ => ?_
  subst he
  exact ⟨_, rfl, _, _, _, [], _, [], hW', trodAll_mk1 (shut_bool Try.underlying4 _), (trodAll_cons_mk (Below.trod laidOut (by kernel_rfl) (of_decide_eq_true (by kernel_rfl)) k0 bel lt0) trodAll_mk0), rfl, bel.frame _, fun h => by cases h⟩

theorem over : Rows.fnExactPowerOfRow.holds Try.pinned (OpenSpec.ofChange Rows.fnExactPowerOfSpec) :=
  OpenClaim.holds_of_wide 9 Try.f9 rfl rfl rfl rfl rfl rfl rfl ⟨rfl, rfl, rfl, rfl, rfl⟩ rfl rfl rfl rfl rfl (by kernel_rfl) Try.func9 (by kernel_rfl)
    (of_decide_eq_true (by kernel_rfl)) (by unfold Func.isWrapper; first | (rw [if_pos (by decide +kernel)]; kernel_rfl) | (rw [if_neg (by decide +kernel)]; exact ⟨rfl, rfl⟩))
    (fun os started H enc _ => lifted os started H enc)
end Go.Proofs.Ytgidoceflkdklaa.LawPowerOf
namespace Go.Proofs.Ytgidoceflkdklaa
theorem powerOf_holds : Rows.FnExactPowerOfSaid := LawPowerOf.over
#print axioms powerOf_holds
end Go.Proofs.Ytgidoceflkdklaa
