/- At every list of plates the program's ModStack answers as the specification, number by number, where the law's own bound on the sizes does not answer first; nothing that was there is changed. -/
import Derived.Test.YtigkfngbiicfaaaOpen
import Derived.Test.YtigkfngbiicfaaaSv
import Derived.Handy
namespace Go.Proofs.Ytigkfngbiicfaaa.LawModStack
open Go.ChangeShapes Go.WideShapes Go.ChangeAt Go.RowKit Go.Joins
set_option linter.unusedVariables false

theorem sStack_any {w : World} {b n cap : Nat} {G : Nat → Nat → Int} (h : SegV w b 34 n 4 (fun i j => icl (G i) j)) (hn : n ≤ 1000000000) : Calls Try.prog 28 #[.slice (some ⟨b, 0, none⟩) n cap] w fun e w' => e = .returned (Mv (Wv.stk G n)) ∧ Below w.heap.size w w' := by
  by_cases h0 : 0 < n
  · exact sStack_some b 0 n cap G w h0 hn fun i hi j hj => by rw [Nat.zero_add]; exact h.cell hi hj
  · obtain rfl : n = 0 := by omega
    exact sStack_none _ cap G w
theorem iStack_any {w : World} {b n cap : Nat} {G : Nat → Nat → Int} (h : SegV w b 34 n 4 (fun i j => icl (G i) j)) (hn : n ≤ 1000000000) : Calls Try.prog 30 #[.slice (some ⟨b, 0, none⟩) n cap] w fun e w' => e = .returned (Mv (Wv.stk G n)) ∧ Below w.heap.size w w' := by
  by_cases h0 : 0 < n
  · exact iStack_some b 0 n cap G w h0 hn fun i hi j hj => by rw [Nat.zero_add]; exact h.cell hi hj
  · obtain rfl : n = 0 := by omega
    exact iStack_none _ cap G w
theorem eqMps_any {w : World} {b cap b' cap' n : Nat} {G : Nat → Nat → Int} (hs : SegV w b 34 n 4 (fun i j => icl (G i) j)) (ht : SegV w b' 34 n 4 (fun i j => icl (G i) j)) (hn : n ≤ 1000000000) :
    Calls Try.prog 31 #[.slice (some ⟨b, 0, none⟩) n cap, .slice (some ⟨b', 0, none⟩) n cap'] w fun e w' => e = .returned (.bool true) ∧ Below w.heap.size w w' := eqMps_same b cap b' cap' n G w (by omega) hs ht
set_option maxHeartbeats 4000000 in
theorem walk {w : World} {v : Value} {n : Nat} {G : Nat → Nat → Int} (h : RdV w v n 4 (fun i j => icl (G i) j)) (hn : n ≤ 9223372036854775807) :
    Calls Try.prog 8 #[v] w fun e w' => e = .returned (.bool true) ∧ Below w.heap.size w w' := by
  obtain ⟨ao, cap, rfl⟩ := h.form
  have HR : Hid (RdV w (.slice ao n cap) n 4 (fun i j => icl (G i) j)) := h
  clear h
  by_cases hbig : 1048576 < n
  · go_enter Try.func8, Try.ntmps8
    go_wp2_with fail
    refine (szMps_any _ n _ _ hn).mono ?_
    rintro e w1 ⟨rfl, rfl⟩
    rw [if_pos hbig]
    go_wp2
    go_ret
    exact ⟨rfl, Below.refl _ _⟩
  have hn2 : n ≤ 1000000000 := by omega
  have hdec : decide ((1048576 : Int) - (n : Int) < 0) = false := by rw [decide_eq_false_iff_not]; omega
  obtain ⟨P, hP⟩ : ∃ P, P = Wv.stk G n := ⟨_, rfl⟩
  have SA : Hid (∀ {w : World} {b cap : Nat}, SegV w b 34 n 4 (fun i j => icl (G i) j) → Calls Try.prog 28 #[.slice (some ⟨b, 0, none⟩) n cap] w fun e w' => e = .returned (Mv P) ∧ Below w.heap.size w w') := by rw [hP]; exact fun h => sStack_any h hn2
  have IA : Hid (∀ {w : World} {b cap : Nat}, SegV w b 34 n 4 (fun i j => icl (G i) j) → Calls Try.prog 30 #[.slice (some ⟨b, 0, none⟩) n cap] w fun e w' => e = .returned (Mv P) ∧ Below w.heap.size w w') := by rw [hP]; exact fun h => iStack_any h hn2
  clear hP
  go_enter Try.func8, Try.ntmps8
  go_wp2_with fail
  refine (szMps_any _ n _ _ hn).mono ?_
  rintro e w1 ⟨rfl, rfl⟩
  rw [if_neg hbig]
  go_wp2_with fail
  refine (toMps_any HR.out hn2).mono ?_
  rintro e w1 ⟨rfl, hs, hb⟩
  have A1 : Hid (Below w.heap.size w w1) := hb
  have S1 : Hid (SegV w1 w.heap.size 34 n 4 (fun i j => icl (G i) j)) := hs
  clear hs hb
  go_wp2_with fail
  refine (SA.out S1.out).mono ?_
  rintro e w2 ⟨rfl, hb⟩
  have A2 : Hid (Below w.heap.size w w2) := A1.out.trans (hb.mono A1.out.size)
  clear hb S1 A1
  go_wp2_with fail
  obtain ⟨w3, hw3⟩ : ∃ W, W = w2.alloc (.cells #[.int .i64 (P 0), .int .i64 (P 1), .int .i64 (P 2), .int .i64 (P 3)] 34) := ⟨_, rfl⟩
  rw [← hw3]
  have K3 : Hid (Pk w2.heap.size w3 P) := by rw [hw3]; exact heap_alloc_new _ _
  have A3 : Hid (Below w.heap.size w w3) := by rw [hw3]; exact A2.out.alloc A2.out.size _
  clear hw3 A2
  refine (toMps_any (HR.out.later A3.out) hn2).mono ?_
  rintro e w4 ⟨rfl, hs, hb⟩
  have A4 : Hid (Below w.heap.size w w4) := A3.out.trans (hb.mono A3.out.size)
  have K4 : Hid (Pk w2.heap.size w4 P) := K3.out.later hb
  have S4 : Hid (SegV w4 w3.heap.size 34 n 4 (fun i j => icl (G i) j)) := hs
  clear hs hb A3 K3
  go_wp2_with fail
  refine (IA.out S4.out).mono ?_
  rintro e w5 ⟨rfl, hb⟩
  have A5 : Hid (Below w.heap.size w w5) := A4.out.trans (hb.mono A4.out.size)
  have K5 : Hid (Pk w2.heap.size w5 P) := K4.out.later hb
  have S5 : Hid (SegV w5 w3.heap.size 34 n 4 (fun i j => icl (G i) j)) := S4.out.below hb
  clear hb A4 K4 S4
  obtain ⟨w6, hw6⟩ : ∃ W, W = w5.alloc (.cells #[.int .i64 (P 0), .int .i64 (P 1), .int .i64 (P 2), .int .i64 (P 3)] 34) := ⟨_, rfl⟩
  have H6 : Hid (w6 = w5.alloc (.cells #[.int .i64 (P 0), .int .i64 (P 1), .int .i64 (P 2), .int .i64 (P 3)] 34)) := hw6
  have B6 : Below w5.heap.size w5 w6 := by rw [hw6]; exact (Below.refl _ _).alloc (Nat.le_refl _) _
  have K6 : Pk w2.heap.size w6 P := K5.out.later B6
  have A6 : Hid (Below w.heap.size w w6) := A5.out.trans (B6.mono A5.out.size)
  have S6 : Hid (SegV w6 w3.heap.size 34 n 4 (fun i j => icl (G i) j)) := S5.out.below B6
  have c0 := K6.c0
  have c1 := K6.c1
  have c2 := K6.c2
  have c3 := K6.c3
  rw [hw6] at c0 c1 c2 c3
  clear hw6 B6 K6 K5 A5 S5
  go_wp2_with fail
  rw [← H6.out]
  refine (eqPlate_same (P 0) (P 1) (P 2) (P 3) _).mono ?_
  rintro e w7 ⟨rfl, hb⟩
  have A7 : Hid (Below w.heap.size w w7) := A6.out.trans (hb.mono A6.out.size)
  have S7 : Hid (SegV w7 w3.heap.size 34 n 4 (fun i j => icl (G i) j)) := S6.out.below hb
  clear hb c0 c1 c2 c3 H6 A6 S6
  go_wp2_with fail
  refine (toMps_any (HR.out.later A7.out) hn2).mono ?_
  rintro e w8 ⟨rfl, hs, hb⟩
  have A8 : Hid (Below w.heap.size w w8) := A7.out.trans (hb.mono A7.out.size)
  have S8 : Hid (SegV w8 w3.heap.size 34 n 4 (fun i j => icl (G i) j)) := S7.out.below hb
  have V8 : Hid (SegV w8 w7.heap.size 34 n 4 (fun i j => icl (G i) j)) := hs
  clear hs hb A7 S7
  go_wp2_with fail
  refine (eqMps_any S8.out V8.out hn2).mono ?_
  rintro e w9 ⟨rfl, hb⟩
  have A9 : Hid (Below w.heap.size w w9) := A8.out.trans (hb.mono A8.out.size)
  clear hb
  go_wp2
  go_ret
  exact ⟨rfl, A9.out⟩

set_option maxRecDepth 100000 in
theorem lifted (os : Os) (started : os.Started) (H : Type) (enc : TypeId × Value → H) :
    ReturnsInHanded {} Try.checked os 8 .any (Rows.fnExactModStackSpec.pre6 enc Try.prog Try.f8 Rows.fnExactModStackRow.domain false) (Rows.fnExactModStackSpec.post enc Try.prog Try.f8 false true false false) := by
  refine returnsInHanded_of_change (C := Try.checked) own started (by kernel_rfl) Try.func8
    (ChangeSpec.witness6 (enc := enc) (C := Try.checked) false ⟨#[], #[.slice none 0 0], []⟩ 8 (by kernel_rfl) (by kernel_rfl) (by kernel_rfl) (by kernel_rfl)) ?_
  intro W base args ds gs before hval0 hW hcnd _
  have hval : ∀ (j : Nat) t v, Try.f8.params[j]? = some t → args[j]? = some v → Value.okWide Try.prog W .any base t v := hval0
  have hW' := hW
  obtain ⟨p, q, hA0, hV, rfl, hfz, hnd⟩ := hW
  have hA : DataW.TrodAll enc Try.prog W 0 (fun _ => true) true Try.f8.params.toList args.toList ds p := hA0
  rw [Try.params8] at hA hval
  obtain ⟨v0, vs0, d0, ds0, p0, q0, hargs, rfl, rfl, h0, r0⟩ := trodAll_cons hA
  obtain ⟨rfl, rfl, rfl⟩ := trodAll_nil r0
  obtain rfl : args = #[v0] := by cases args; simp_all
  obtain ⟨rfl, rfl⟩ := trodVars_none hV
  have k0 := h0
  have lt0 : ∀ x ∈ p0, x.block < W.heap.size := by obtain ⟨m, hm⟩ := k0; exact DataW.trod_lt m _ _ _ hm
  obtain ⟨n0, F0, R0, nb0⟩ := open_mps (hval 0 38 v0 rfl rfl) h0
  clear hA0 hval0
  refine (walk R0 nb0  ).mono fun e W' ⟨he, bel⟩ => ?_
  subst he
  exact ⟨_, rfl, _, _, _, [], _, [], hW', trodAll_mk1 (shut_bool Try.underlying4 _), (trodAll_cons_mk (Below.trod laidOut (by kernel_rfl) (of_decide_eq_true (by kernel_rfl)) k0 bel lt0) trodAll_mk0), rfl, bel.frame _, fun h => by cases h⟩

theorem over : Rows.fnExactModStackRow.holds Try.pinned (OpenSpec.ofChange Rows.fnExactModStackSpec) :=
  OpenClaim.holds_of_wide 8 Try.f8 rfl rfl rfl rfl rfl rfl rfl ⟨rfl, rfl, rfl, rfl, rfl⟩ rfl rfl rfl rfl rfl (by kernel_rfl) Try.func8 (by kernel_rfl)
    (of_decide_eq_true (by kernel_rfl)) (by unfold Func.isWrapper; first | (rw [if_pos (by decide +kernel)]; kernel_rfl) | (rw [if_neg (by decide +kernel)]; exact ⟨rfl, rfl⟩))
    (fun os started H enc _ => lifted os started H enc)
end Go.Proofs.Ytigkfngbiicfaaa.LawModStack
namespace Go.Proofs.Ytigkfngbiicfaaa
theorem modStack_holds : Rows.FnExactModStackSaid := LawModStack.over
#print axioms modStack_holds
end Go.Proofs.Ytigkfngbiicfaaa
