/- At every list of bytes the program's CheckSum answers as the specification, where the law's own bound on the size does not answer first; nothing that was there is changed. Conditions: the library's variable errors.errorType starts as its text lays it (the card ties it). -/
import Derived.Test.YtdknclkecbdpgaaDoorRows
import Derived.Test.YtdknclkecbdpgaaDoorCards
import Derived.Test.YtdknclkecbdpgaaDoorTie
import Derived.Test.YtdknclkecbdpgaaDoorOp
import Derived.Test.YtdknclkecbdpgaaDoorBl
import Derived.Handy
import Derived.WalkKit
import Derived.Deep.RegionHeld3
import Derived.Deep.DeepCutAuto
namespace Go.Proofs.YtdknclkecbdpgaaDoor.LawCheckSum
open Go.ChangeShapes Go.WideShapes Go.ChangeAt Go.RowKit Go.Joins
set_option linter.unusedVariables false
set_option maxRecDepth 20000 in
set_option maxHeartbeats 6400000 in
theorem walk {w : World} {v0 : Value} {n : Nat} {F : Nat → Int} (h0 : RdB w v0 n F) (hn0 : n ≤ 9223372036854775807) (hF : By n F) (TB : Et w) :
    Calls Tryd.prog 4 #[v0] w fun e w' => e = .returned (.bool true) ∧ Below w.heap.size w w' := by
  obtain ⟨ao0, cap0, ev0⟩ := h0.form
  subst ev0
  have RA : Hid (RdB w (.slice ao0 n cap0) n F) := h0
  have HE0 : Hid (Et w) := TB
  have HF : Hid (By n F) := hF
  by_cases hbig : (1048576 : Int) < n
  · clear h0 TB hF
    go_enter Tryd.func4, Tryd.ntmps4
    go_wp2
    go_ret
    exact ⟨rfl, Below.refl _ _⟩
  have hm : n ≤ 1000000000000 := by omega
  clear h0 TB hF
  have HO : Hid (Below w.heap.size w w) := Below.refl _ _
  go_enter Tryd.func4, Tryd.ntmps4
  go_wp2_with fail
  refine (toB_any (RA.out.later HO.out) hm).mono ?_
  rintro e w1 ⟨rfl, sm, b, hz⟩
  have X1 : Hid (OwS 5 w.heap.size (w.heap.size + 1) w1 (.slice (some ⟨w.heap.size, 0, none⟩) n n) n (fun i => .int .u8 (F i))) := Or.inr ⟨_, _, rfl, Nat.le_refl _, Nat.lt_succ_self _, sm⟩
  clear sm hz
  have Z1 : Hid (w.heap.size ≤ w1.heap.size) := b.size
  replace HO : Hid (Below w.heap.size w w1) := HO.out.trans (b.mono HO.out.size)
  clear b
  go_wp2_with fail
  refine Calls.mono (sSum_any X1.out.rd HF.out hm) ?_
  rintro e w2 ⟨rfl, hwx⟩
  have b : Below w1.heap.size w1 w2 := by rw [hwx]; exact Below.refl _ _
  clear hwx
  replace X1 : Hid (OwS 5 w.heap.size (w.heap.size + 1) w2 (.slice (some ⟨w.heap.size, 0, none⟩) n n) n (fun i => .int .u8 (F i))) := X1.out.later b
  have Z2 : Hid (w1.heap.size ≤ w2.heap.size) := b.size
  replace HO : Hid (Below w.heap.size w w2) := HO.out.trans (b.mono HO.out.size)
  clear b
  clear X1
  go_wp2_with fail
  refine (toB_any (RA.out.later HO.out) hm).mono ?_
  rintro e w3 ⟨rfl, sm, b, hz⟩
  have XS : Hid (OwS 5 w2.heap.size (w2.heap.size + 1) w3 (.slice (some ⟨w2.heap.size, 0, none⟩) n n) n (fun i => .int .u8 (F i))) := Or.inr ⟨_, _, rfl, Nat.le_refl _, Nat.lt_succ_self _, sm⟩
  clear sm hz
  have Z3 : Hid (w2.heap.size ≤ w3.heap.size) := b.size
  replace HO : Hid (Below w.heap.size w w3) := HO.out.trans (b.mono HO.out.size)
  clear b
  go_wp2_with fail
  refine (iSum_any XS.out.rd HF.out hm (HE0.out.later HO.out)).mono ?_
  rintro e w4 ⟨rfl, b⟩
  replace XS : Hid (OwS 5 w2.heap.size (w2.heap.size + 1) w4 (.slice (some ⟨w2.heap.size, 0, none⟩) n n) n (fun i => .int .u8 (F i))) := XS.out.later b
  have Z4 : Hid (w3.heap.size ≤ w4.heap.size) := b.size
  replace HO : Hid (Below w.heap.size w w4) := HO.out.trans (b.mono HO.out.size)
  clear b
  go_wp2_with fail
  refine (toB_any (RA.out.later HO.out) hm).mono ?_
  rintro e w5 ⟨rfl, sm, b, hz⟩
  have X2 : Hid (OwS 5 w4.heap.size (w4.heap.size + 1) w5 (.slice (some ⟨w4.heap.size, 0, none⟩) n n) n (fun i => .int .u8 (F i))) := Or.inr ⟨_, _, rfl, Nat.le_refl _, Nat.lt_succ_self _, sm⟩
  clear sm hz
  replace XS : Hid (OwS 5 w2.heap.size (w2.heap.size + 1) w5 (.slice (some ⟨w2.heap.size, 0, none⟩) n n) n (fun i => .int .u8 (F i))) := XS.out.later b
  have Z5 : Hid (w4.heap.size ≤ w5.heap.size) := b.size
  replace HO : Hid (Below w.heap.size w w5) := HO.out.trans (b.mono HO.out.size)
  clear b
  go_wp2_with fail
  refine (eqB_any XS.out.rd X2.out.rd hm).mono ?_
  rintro e w6 he
  obtain ⟨rfl, b⟩ := drew_below he
  clear he
  replace XS : Hid (OwS 5 w2.heap.size (w2.heap.size + 1) w6 (.slice (some ⟨w2.heap.size, 0, none⟩) n n) n (fun i => .int .u8 (F i))) := XS.out.later b
  replace X2 : Hid (OwS 5 w4.heap.size (w4.heap.size + 1) w6 (.slice (some ⟨w4.heap.size, 0, none⟩) n n) n (fun i => .int .u8 (F i))) := X2.out.later b
  have Z6 : Hid (w5.heap.size ≤ w6.heap.size) := b.size
  replace HO : Hid (Below w.heap.size w w6) := HO.out.trans (b.mono HO.out.size)
  clear b
  go_wp2
  go_ret
  exact ⟨rfl, HO.out⟩

set_option maxRecDepth 100000 in
theorem lifted (os : Os) (started : os.Started) (H : Type) (enc : TypeId × Value → H) :
    ReturnsInHanded {} Tryd.checked os 4 .any (fun w args => (Rows.fnExactCheckSumSpec.pre enc Tryd.prog Tryd.f4 [] false w args ∧ laidMetH Tryd.prog laidE w) ∧ sizedMet enc Tryd.prog Tryd.f4 (OpenSpec.ofChange Rows.fnExactCheckSumSpec) false w args)
      (Rows.fnExactCheckSumSpec.post enc Tryd.prog Tryd.f4 false true false false) := by
  refine returnsInHanded_of_change_and (C := Tryd.checked) (X := fun w _ => laidMetH Tryd.prog laidE w) (fun _ _ _ hh h => h.of_heap hh) own started (by kernel_rfl) Tryd.func4
    (ChangeSpec.witness_shaped (enc := enc) (C := Tryd.checked) (os := os) (X := fun w _ => laidMetH Tryd.prog laidE w) false (World.doorLaid Tryd.prog 400 os) #[.slice none 0 0] 8 rfl (World.shaped_of_RefB (by kernel_rfl) (by kernel_rfl)) (by kernel_rfl) (by kernel_rfl) (by kernel_rfl) (door_met os _)) ?_
  intro W base args ds gs before hval0 hW _ _ hL _
  have hval : ∀ (j : Nat) t v, Tryd.f4.params[j]? = some t → args[j]? = some v → Value.okWide Tryd.prog W .any base t v := hval0
  have hW' := hW
  obtain ⟨p, q, hA0, hV, rfl, hfz, hnd⟩ := hW
  have hA : DataW.TrodAll enc Tryd.prog W 0 (fun _ => true) true Tryd.f4.params.toList args.toList ds p := hA0
  rw [Tryd.params4] at hA hval
  obtain ⟨v0, vs0, d0, ds0, p0, q0, hargs0, rfl, rfl, h0, r0⟩ := trodAll_cons hA
  obtain ⟨rfl, rfl, rfl⟩ := trodAll_nil r0
  obtain rfl : args = #[v0] := by cases args; simp_all
  obtain ⟨rfl, rfl⟩ := trodVars_none hV
  have k0 := h0
  have lt0 : ∀ x ∈ p0, x.block < W.heap.size := by obtain ⟨m, hm⟩ := k0; exact DataW.trod_lt m _ _ _ hm
  obtain ⟨n0, F0, R0, nb0, fb0⟩ := open_bytes (hval 0 22 v0 rfl rfl) h0
  clear hA0 hval0
  refine (walk R0 nb0 fb0 (et_of hL)).mono fun e W' ⟨he, bel⟩ => ?_
  subst he
  exact ⟨_, rfl, _, _, _, [], _, [], hW', trodAll_mk1 (shut_bool Tryd.underlying4 _), (trodAll_cons_mk (Below.trod laidOut (by kernel_rfl) (of_decide_eq_true (by kernel_rfl)) k0 bel lt0) trodAll_mk0), rfl, bel.frame _, fun h => by cases h⟩

theorem said : Rows.FnExactCheckSumSaid :=
  OpenClaim.holds_of_wide 4 Tryd.f4 rfl rfl rfl rfl rfl rfl rfl ⟨rfl, rfl, rfl, rfl, rfl⟩ rfl rfl rfl rfl rfl (by kernel_rfl) Tryd.func4 (by kernel_rfl)
    (of_decide_eq_true (by kernel_rfl)) (by unfold Func.isWrapper; first | (rw [if_pos (by decide +kernel)]; kernel_rfl) | (rw [if_neg (by decide +kernel)]; exact ⟨rfl, rfl⟩))
    (fun os started H enc _ => lifted os started H enc)
end Go.Proofs.YtdknclkecbdpgaaDoor.LawCheckSum
namespace Go.Proofs.YtdknclkecbdpgaaDoor
open Go.ChangeShapes Go.WideShapes Go.ChangeAt Go.RowKit Go.Joins
theorem checkSum_holds : Rows.FnExactCheckSumCardSaid :=
  Claim7.holds_tied_plain_at .later [] [.handle] true (true, "2a3ea9277edea9f13354192899e1050bff61de88375e0959a28fc33a2f330f7e") true
    LawCheckSum.said (fun _ h => by cases h) (by kernel_rfl) (fun _ h => by cases h) fnExactCheckSum_row_tie rfl ⟨rfl, rfl⟩ (by kernel_rfl) rfl
    (fun f fn hf hfn => by
      obtain rfl : f = 4 := Option.some.inj ((show Tryd.prog.funcNamed "loop.example/g00049/laws.FnExactCheckSum" = some 4 by kernel_rfl).symm.trans hf) |>.symm
      obtain rfl : fn = Tryd.f4 := (Option.some.inj (Tryd.func4.symm.trans hfn)).symm
      exact ⟨by kernel_rfl, fun j t ht => by
        rw [Tryd.params4] at ht
        have hm : t ∈ [22] := by simpa using Array.mem_of_getElem? ht
        have hall : ([22].all fun u => !Tryd.prog.wantsStandIn u) = true := by kernel_rfl
        exact (show Tryd.prog.wantsStandIn t = false by simpa using List.all_eq_true.1 hall t hm)⟩)
    (by kernel_rfl)
#print axioms checkSum_holds
end Go.Proofs.YtdknclkecbdpgaaDoor
