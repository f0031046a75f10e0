/- At every stack the program answers the fault that the specification tells, where the law's own bound on the films does not answer first; nothing that was there is changed. -/
import Derived.Test.YtnpcldgacdgplaaSg
import Derived.Test.YtnpcldgacdgplaaZp
import Derived.Handy
import Derived.Deep.RegionHeld3
import Derived.Deep.DeepCutAuto
namespace Go.Proofs.Ytnpcldgacdgplaa.LawStackFault
open Go.ChangeShapes Go.WideShapes Go.ChangeAt Go.RowKit Go.Joins Fl
set_option linter.unusedVariables false

set_option maxHeartbeats 3200000 in
theorem walk {a o : Nat} {v : Value} {n : Nat} {G : Nat → Fi} {w : World} (ha : a < 18446744073709551616) (ho : o < 18446744073709551616) (h : RdV w v n 3 (fun i j => fcell (G i) j)) (hn : n ≤ 9223372036854775807) (ok : ∀ k, k < n → FiOk (G k)) :
    Calls Try.prog 3 #[Sv a o v] w fun e w' => e = .returned (.bool true) ∧ Below w.heap.size w w' := by
  obtain ⟨ao, cap, rfl⟩ := h.form
  obtain ⟨X, hX⟩ : ∃ X, X = w.alloc (.cells #[.float .f64 a, .float .f64 o, .slice ao n cap] 25) := ⟨_, rfl⟩
  have BX : Hid (Below w.heap.size w X) := by
    have h : Below w.heap.size w X := by rw [hX]; exact (Below.refl _ _).alloc (Nat.le_refl _) _
    exact h
  have x0 : X.cell? ⟨w.heap.size, 0, none⟩ = some (.float .f64 a) := by rw [hX]; exact cell_alloc_new rfl rfl
  have x1 : X.cell? ⟨w.heap.size, 1, none⟩ = some (.float .f64 o) := by rw [hX]; exact cell_alloc_new rfl rfl
  have x2 : X.cell? ⟨w.heap.size, 2, none⟩ = some (.slice ao n cap) := by rw [hX]; exact cell_alloc_new rfl rfl
  have H : Hid (RdV X (.slice ao n cap) n 3 (fun i j => fcell (G i) j) ∧ a < 18446744073709551616 ∧ o < 18446744073709551616 ∧ ∀ k, k < n → FiOk (G k)) := ⟨h.later BX.out, ha, ho, ok⟩
  clear h ha ho ok
  have hst := st64
  generalize hk : sfault a o n G = k
  have HK : Hid (sfault a o n G = k) := hk
  clear hk
  go_enter Try.func3, Try.ntmps3
  go_upto_region 1 with fail
  rw [← hX]
  clear hX
  go_wp2_with fail
  refine (szSt_any a o ao n cap _ hn).mono ?_
  rintro e w0 ⟨rfl, b0⟩
  have A0 : Hid (Below X.heap.size X w0) := b0
  have c0 := old_cell b0 (World.block_lt_of_cell? _ _ x0) x0
  have c1 := old_cell b0 (World.block_lt_of_cell? _ _ x1) x1
  have c2 := old_cell b0 (World.block_lt_of_cell? _ _ x2) x2
  clear b0 x0 x1 x2
  unfold szOf
  by_cases hb : 1048576 < n
  · rw [if_pos hb]
    go_wp2
    go_ret
    exact ⟨rfl, BX.out.trans (A0.out.mono BX.out.size)⟩
  rw [if_neg hb]
  have hn2 : n ≤ 1000000000000 := by omega
  have hn3 : ¬ ((1048576 : Int) - n < 0) := by omega
  go_wp2_with fail
  refine (toSt_any (H.out.1.later A0.out) hn2).mono ?_
  rintro e w1 ⟨b, rfl, s1, l1, l1', b1⟩
  have A1 : Hid (SegV w1 b 60 n 3 (fun i j => fcell (G i) j) ∧ Below X.heap.size X w1) := ⟨s1, box_step A0.out b1 (Nat.le_refl _)⟩
  have d0 := old_cell b1 (World.block_lt_of_cell? _ _ c0) c0
  have d1 := old_cell b1 (World.block_lt_of_cell? _ _ c1) c1
  have d2 := old_cell b1 (World.block_lt_of_cell? _ _ c2) c2
  clear s1 l1 l1' b1 c0 c1 c2
  go_wp2_with fail
  refine (sStack_any (A1.out.1.rd)).mono ?_
  rw [HK.out]
  rintro e w2 ⟨rfl, b2⟩
  have A2 : Hid (Below X.heap.size X w2) := box_step A1.out.2 b2 (Nat.le_refl _)
  have c0 := old_cell b2 (World.block_lt_of_cell? _ _ d0) d0
  have c1 := old_cell b2 (World.block_lt_of_cell? _ _ d1) d1
  have c2 := old_cell b2 (World.block_lt_of_cell? _ _ d2) d2
  clear b2 d0 d1 d2 A1
  go_wp2_with fail
  refine (toSt_any (H.out.1.later A2.out) hn2).mono ?_
  rintro e w3 ⟨b', rfl, s3, l3, l3', b3⟩
  obtain ⟨V, hV⟩ : ∃ V, V = w3.alloc (.cells #[.float .f64 a, .float .f64 o, .slice (some ⟨b', 0, none⟩) n n] 30) := ⟨_, rfl⟩
  have A3 : Hid (SegV V b' 60 n 3 (fun i j => fcell (G i) j) ∧ Below X.heap.size X V) := by
    have h1 : SegV V b' 60 n 3 (fun i j => fcell (G i) j) := by rw [hV]; exact s3.below ((Below.refl _ _).alloc (Nat.le_refl _) _)
    have h2 : Below X.heap.size X V := by rw [hV]; exact (box_step A2.out b3 (Nat.le_refl _)).alloc (Nat.le_trans A2.out.size b3.size) _
    exact ⟨h1, h2⟩
  have v0 : V.cell? ⟨w3.heap.size, 0, none⟩ = some (.float .f64 a) := by rw [hV]; exact cell_alloc_new rfl rfl
  have v1 : V.cell? ⟨w3.heap.size, 1, none⟩ = some (.float .f64 o) := by rw [hV]; exact cell_alloc_new rfl rfl
  have v2 : V.cell? ⟨w3.heap.size, 2, none⟩ = some (.slice (some ⟨b', 0, none⟩) n n) := by rw [hV]; exact cell_alloc_new rfl rfl
  have d0 : V.cell? ⟨w.heap.size, 0, none⟩ = some (.float .f64 a) := by rw [hV]; exact cell_alloc_old (old_cell b3 (World.block_lt_of_cell? _ _ c0) c0)
  have d1 : V.cell? ⟨w.heap.size, 1, none⟩ = some (.float .f64 o) := by rw [hV]; exact cell_alloc_old (old_cell b3 (World.block_lt_of_cell? _ _ c1) c1)
  have d2 : V.cell? ⟨w.heap.size, 2, none⟩ = some (.slice ao n cap) := by rw [hV]; exact cell_alloc_old (old_cell b3 (World.block_lt_of_cell? _ _ c2) c2)
  clear s3 l3 l3' b3 c0 c1 c2 A2
  go_upto_region 7 with fail
  rw [← hV]
  clear hV
  go_wp2_with fail
  refine (iStack_any (A3.out.1.rd)).mono ?_
  rw [HK.out]
  rintro e w4 ⟨rfl, b4⟩
  have A4 : Hid (SegV w4 b' 60 n 3 (fun i j => fcell (G i) j) ∧ Below X.heap.size X w4) := ⟨A3.out.1.below b4, box_step A3.out.2 b4 (Nat.le_refl _)⟩
  have e0 := old_cell b4 (World.block_lt_of_cell? _ _ v0) v0
  have e1 := old_cell b4 (World.block_lt_of_cell? _ _ v1) v1
  have e2 := old_cell b4 (World.block_lt_of_cell? _ _ v2) v2
  have c0 := old_cell b4 (World.block_lt_of_cell? _ _ d0) d0
  have c1 := old_cell b4 (World.block_lt_of_cell? _ _ d1) d1
  have c2 := old_cell b4 (World.block_lt_of_cell? _ _ d2) d2
  clear b4 d0 d1 d2 v0 v1 v2 A3
  go_wp2_with fail
  have p0 : ∀ W, Below w4.heap.size w4 W → W.cell? ⟨w3.heap.size, 0, none⟩ = some (.float .f64 a) := fun W h => old_cell h (World.block_lt_of_cell? _ _ e0) e0
  have p1 : ∀ W, Below w4.heap.size w4 W → W.cell? ⟨w3.heap.size, 1, none⟩ = some (.float .f64 o) := fun W h => old_cell h (World.block_lt_of_cell? _ _ e1) e1
  have p2 : ∀ W, Below w4.heap.size w4 W → W.cell? ⟨w3.heap.size, 2, none⟩ = some (.slice (some ⟨b', 0, none⟩) n n) := fun W h => old_cell h (World.block_lt_of_cell? _ _ e2) e2
  have q0 : ∀ W, Below w4.heap.size w4 W → W.cell? ⟨w.heap.size, 0, none⟩ = some (.float .f64 a) := fun W h => old_cell h (World.block_lt_of_cell? _ _ c0) c0
  have q1 : ∀ W, Below w4.heap.size w4 W → W.cell? ⟨w.heap.size, 1, none⟩ = some (.float .f64 o) := fun W h => old_cell h (World.block_lt_of_cell? _ _ c1) c1
  have q2 : ∀ W, Below w4.heap.size w4 W → W.cell? ⟨w.heap.size, 2, none⟩ = some (.slice ao n cap) := fun W h => old_cell h (World.block_lt_of_cell? _ _ c2) c2
  have T1 : Hid (∀ W, Below w4.heap.size w4 W → Calls Try.prog 11 #[Sv a o (.slice ao n cap)] W fun e w' => ∃ b, e = .returned (Sv a o (.slice (some ⟨b, 0, none⟩) n n)) ∧ SegV w' b 60 n 3 (fun i j => fcell (G i) j) ∧ Below W.heap.size W w') :=
    fun W hW => (toSt_any (H.out.1.later (box_step A4.out.2 (hW) (Nat.le_refl _))) hn2).mono fun e w' ⟨b, h1, h2, _, _, h3⟩ => ⟨b, h1, h2, h3⟩
  have T2 : Hid (∀ (b : Nat) W, Below w4.heap.size w4 W → SegV W b 60 n 3 (fun i j => fcell (G i) j) → Calls Try.prog 13 #[Sv a o (.slice (some ⟨b', 0, none⟩) n n), Sv a o (.slice (some ⟨b, 0, none⟩) n n)] W fun e w' => e = .returned (.bool true) ∧ Below W.heap.size W w') :=
    fun b W hW hs => eqSt_same H.out.2.1 H.out.2.2.1 _ _ _ _ n G W hn2 (A4.out.1.below hW) hs H.out.2.2.2
  have hR0 : Below w4.heap.size w4 w4 := Below.refl _ _
  have AX : Hid (Below w.heap.size w w4) := BX.out.trans (A4.out.2.mono BX.out.size)
  clear e0 e1 e2 c0 c1 c2 H A4 BX
  go_region_held (fun W => Below w4.heap.size w4 W) (first | assumption | exact Below.drew ‹_›)
    (first | (go_at_call 11; refine (T1.out _ (by first | assumption | exact Below.drew ‹_›)).mono ?_; rintro e w5 ⟨b5, rfl, s5, hb5⟩; have hR5 : Below w4.heap.size w4 w5 := (by refine box_step ?_ hb5 (Nat.le_refl _); (first | assumption | exact Below.drew ‹_›))) | (go_at_call 13; refine (T2.out _ _ (by first | assumption | exact Below.drew ‹_›) (by first | assumption | exact SegV.below s5 (by exact (Below.refl _ _).drew))).mono ?_; rintro e w6 ⟨rfl, hb6⟩; have hR6 : Below w4.heap.size w4 w6 := (by refine box_step ?_ hb6 (Nat.le_refl _); (first | assumption | exact Below.drew ‹_›))))
  have A6 : Hid (Below w.heap.size w w6) := AX.out.trans (hR6.mono AX.out.size)
  clear p0 p1 p2 q0 q1 q2 hR0 hR5 hR6 hb5 hb6 s5 T1 T2
  go_wp2
  go_ret
  exact ⟨rfl, A6.out⟩

set_option maxRecDepth 100000 in
theorem lifted (os : Os) (started : os.Started) (H : Type) (enc : TypeId × Value → H) :
    ReturnsInHanded {} Try.checked os 3 .any (Rows.fnExactStackFaultSpec.pre6 enc Try.prog Try.f3 Rows.fnExactStackFaultRow.domain false) (Rows.fnExactStackFaultSpec.post enc Try.prog Try.f3 false true false false) := by
  refine returnsInHanded_of_change (C := Try.checked) own started (by kernel_rfl) Try.func3
    (ChangeSpec.witness6 (enc := enc) (C := Try.checked) false ⟨#[], #[.agg #[.float .f64 0, .float .f64 0, .slice none 0 0]], []⟩ 8 (by kernel_rfl) (by kernel_rfl) (by kernel_rfl) (by kernel_rfl)) ?_
  intro W base args ds gs before hval0 hW hcnd _
  have hval : ∀ (j : Nat) t v, Try.f3.params[j]? = some t → args[j]? = some v → Value.okWide Try.prog W .any base t v := hval0
  have hW' := hW
  obtain ⟨p, q, hA0, hV, rfl, hfz, hnd⟩ := hW
  have hA : DataW.TrodAll enc Try.prog W 0 (fun _ => true) true Try.f3.params.toList args.toList ds p := hA0
  rw [Try.params3] at hA hval
  obtain ⟨v0, vs0, d0, ds0, p0, q0, hargs, rfl, rfl, h0, r0⟩ := trodAll_cons hA
  obtain ⟨rfl, rfl, rfl⟩ := trodAll_nil r0
  obtain rfl : args = #[v0] := by cases args; simp_all
  obtain ⟨rfl, rfl⟩ := trodVars_none hV
  have k0 := h0
  have lt0 : ∀ x ∈ p0, x.block < W.heap.size := by obtain ⟨m, hm⟩ := k0; exact DataW.trod_lt m _ _ _ hm
  obtain ⟨a0, b0, c0, n0, G0, rfl, ha0, hb0, R0, nb0, ok0⟩ := open_stack (hval 0 25 v0 rfl rfl) h0
  clear hA0 hval0
  refine (walk ha0 hb0 R0 nb0 ok0).mono fun e W' ⟨he, bel⟩ => ?_
  subst he
  exact ⟨_, rfl, _, _, _, [], _, [], hW', trodAll_mk1 (shut_bool Try.underlying4 _), (trodAll_cons_mk (Below.trod laidOut (by kernel_rfl) (of_decide_eq_true (by kernel_rfl)) k0 bel lt0) trodAll_mk0), rfl, bel.frame _, fun h => by cases h⟩

theorem over : Rows.fnExactStackFaultRow.holds Try.pinned (OpenSpec.ofChange Rows.fnExactStackFaultSpec) :=
  OpenClaim.holds_of_wide 3 Try.f3 rfl rfl rfl rfl rfl rfl rfl ⟨rfl, rfl, rfl, rfl, rfl⟩ rfl rfl rfl rfl rfl (by kernel_rfl) Try.func3 (by kernel_rfl)
    (of_decide_eq_true (by kernel_rfl)) (by unfold Func.isWrapper; first | (rw [if_pos (by decide +kernel)]; kernel_rfl) | (rw [if_neg (by decide +kernel)]; exact ⟨rfl, rfl⟩))
    (fun os started H enc _ => lifted os started H enc)
end Go.Proofs.Ytnpcldgacdgplaa.LawStackFault
namespace Go.Proofs.Ytnpcldgacdgplaa
theorem stackFault_holds : Rows.FnExactStackFaultSaid := LawStackFault.over
#print axioms stackFault_holds
end Go.Proofs.Ytnpcldgacdgplaa
