/- At every glass and every colour that come in, the program's IndexAt answers the specification's code and index, where the law's own bound on the sizes does not answer first; all NaNs are one; nothing that was there is changed. Conditions: the program's table of counts starts as its text lays it (the card ties it). -/
import Derived.Test.YtndfncjoknibaaaDoorRows
import Derived.Test.YtndfncjoknibaaaDoorCards
import Derived.Test.YtndfncjoknibaaaDoorTie
import Derived.Test.YtndfncjoknibaaaDoorOpen
import Derived.Test.YtndfncjoknibaaaDoorIa
import Derived.Handy
import Derived.WalkKit
import Derived.Deep.RegionHeld3
import Derived.Deep.DeepCutAuto
namespace Go.Proofs.YtndfncjoknibaaaDoor.LawIndexAt
open Go.ChangeShapes Go.WideShapes Go.ChangeAt Go.RowKit Go.Joins Fl
set_option linter.unusedVariables false
set_option maxHeartbeats 3200000 in
theorem walk {s : ByteArray} {kd lo hi nm : Int} {k : Value} {n : Nat} {f : Nat → Int} {x : Nat} {w : World} (hr : RdRow w k n f) (hs : s.size ≤ 9223372036854775807) (hn : n ≤ 9223372036854775807) (hx : x < 18446744073709551616) (T : Tab w) :
    Calls Tryd.prog 4 #[.agg #[.string s, .int .i64 kd, .int .i64 lo, .int .i64 hi, k, .float .f64 x], .int .i64 nm] w fun e w' => e = .returned (.bool true) ∧ Below w.heap.size w w' := by
  have hst := st64
  obtain ⟨ao, cap, rfl⟩ := hr.shape
  have HR : Hid (RdRow w (.slice ao n cap) n f ∧ Tab w ∧ x < 18446744073709551616) := ⟨hr, T, hx⟩
  clear hr T hx
  go_enter Tryd.func4, Tryd.ntmps4
  go_wp2_with fail
  obtain ⟨X, hX⟩ : ∃ X, X = w.alloc (.cells #[.string s, .int .i64 kd, .int .i64 lo, .int .i64 hi, .slice ao n cap, .float .f64 x] 25) := ⟨_, rfl⟩
  have HX : Hid (Below w.heap.size w X ∧ Six X w.heap.size (.string s) (.int .i64 kd) (.int .i64 lo) (.int .i64 hi) (.slice ao n cap) (.float .f64 x)) := by
    rw [hX]; exact ⟨(Below.refl _ _).alloc (Nat.le_refl _) _, six_new _ _ _ _ _ _ _ _⟩
  rw [← hX]
  clear hX
  refine (szG_any s kd lo hi ao n cap x 1048576 X (by omega) (by omega) hn hs).mono ?_
  rintro e w1 ⟨rfl, b1⟩
  generalize hz : szG s.size n 1048576 = r
  by_cases hr0 : r < 0
  · have HB : Hid (Below w.heap.size w w1) := HX.out.1.trans (b1.mono HX.out.1.size)
    clear b1 hz
    go_wp2
    go_ret
    exact ⟨rfl, HB.out⟩
  have hz2 := szG_no (hz ▸ hr0 : ¬ szG s.size n 1048576 < 0)
  have hn2 : n ≤ 1000000000000 := by omega
  have A1 : Hid (Below X.heap.size X w1) := b1
  clear b1 hz hz2
  have q1 := HX.out.2.later A1.out
  obtain ⟨c0, c1, c2, c3, c4, c5⟩ := q1
  have R1 : Hid (RdRow w1 (.slice ao n cap) n f) := HR.out.1.later (HX.out.1.trans (A1.out.mono HX.out.1.size))
  go_wp2_with fail
  refine (toG_any R1.out hn2).mono ?_
  rintro e w2 ⟨b, rfl, sg, hb, b2⟩
  have A2 : Hid (Below X.heap.size X w2) := box_step A1.out b2 (Nat.le_refl _)
  have S2 : Hid (RdRow w2 (.slice (some ⟨b, 0, none⟩) n n) n f) := sg.rd
  clear sg hb b2 A1 R1 c0 c1 c2 c3 c4 c5
  go_wp2_with fail
  refine (sIA_any (nm := nm) S2.out hn2 HR.out.2.2).mono ?_
  rintro e w3 ⟨y, rfl, hy, b3⟩
  generalize hcode : (cfault (gfault s kd lo hi n f x) lo hi nm nm) = code
  generalize hoo : ixOut code (ixC kd f nm x) = oo
  rw [hcode, hoo] at hy
  have HCO : Hid ((cfault (gfault s kd lo hi n f x) lo hi nm nm) = code ∧ ixOut code (ixC kd f nm x) = oo) := ⟨hcode, hoo⟩
  clear hcode hoo
  have A3 : Hid (Below X.heap.size X w3 ∧ Fc y oo) := ⟨box_step A2.out b3 (Nat.le_refl _), hy⟩
  clear b3 A2 S2 hy
  obtain ⟨V1, hV1⟩ : ∃ V, V = w3.alloc (.cells #[.int .i64 code, .float .f64 y] 33) := ⟨_, rfl⟩
  have A3b : Hid (Below X.heap.size X V1 ∧ V1.cell? ⟨w3.heap.size, 0, none⟩ = some (.int .i64 code) ∧ V1.cell? ⟨w3.heap.size, 1, none⟩ = some (.float .f64 y) ∧ w3.heap.size < V1.heap.size) := by
    have h1 : Below X.heap.size X V1 := by rw [hV1]; exact A3.out.1.alloc A3.out.1.size _
    have h2 : V1.cell? ⟨w3.heap.size, 0, none⟩ = some (.int .i64 code) := by rw [hV1]; simp
    have h3 : V1.cell? ⟨w3.heap.size, 1, none⟩ = some (.float .f64 y) := by rw [hV1]; simp
    have h4 : w3.heap.size < V1.heap.size := by rw [hV1]; simp
    exact ⟨h1, h2, h3, h4⟩
  have R3 : Hid (RdRow V1 (.slice ao n cap) n f) := HR.out.1.later (HX.out.1.trans (A3b.out.1.mono HX.out.1.size))
  have q3 := HX.out.2.later A3.out.1
  have c0 : ∀ o, (w3.alloc o).cell? ⟨w.heap.size, 0, none⟩ = some (.string s) := fun o => alloc_keeps q3.c0
  have c1 : ∀ o, (w3.alloc o).cell? ⟨w.heap.size, 1, none⟩ = some (.int .i64 kd) := fun o => alloc_keeps q3.c1
  have c2 : ∀ o, (w3.alloc o).cell? ⟨w.heap.size, 2, none⟩ = some (.int .i64 lo) := fun o => alloc_keeps q3.c2
  have c3 : ∀ o, (w3.alloc o).cell? ⟨w.heap.size, 3, none⟩ = some (.int .i64 hi) := fun o => alloc_keeps q3.c3
  have c4 : ∀ o, (w3.alloc o).cell? ⟨w.heap.size, 4, none⟩ = some (.slice ao n cap) := fun o => alloc_keeps q3.c4
  have c5 : ∀ o, (w3.alloc o).cell? ⟨w.heap.size, 5, none⟩ = some (.float .f64 x) := fun o => alloc_keeps q3.c5
  have hne : ¬ w.heap.size = w3.heap.size := by have := q3.lt; omega
  clear q3
  go_wp2_with fail
  rw [← hV1]
  clear hV1
  refine (toG_any R3.out hn2).mono ?_
  rintro e w4 ⟨b, rfl, sg, hb, b4⟩
  have A4 : Hid (Below V1.heap.size V1 w4) := b4
  have S4 : Hid (RdRow w4 (.slice (some ⟨b, 0, none⟩) n n) n f) := sg.rd
  clear sg hb b4 R3 c0 c1 c2 c3 c4 c5 hne
  obtain ⟨V, hV⟩ : ∃ V, V = w4.alloc (.cells #[.string s, .int .i64 kd, .int .i64 lo, .int .i64 hi, .slice (some ⟨b, 0, none⟩) n n, .float .f64 x] 28) := ⟨_, rfl⟩
  have hB : Below w4.heap.size w4 V := by rw [hV]; exact (Below.refl _ _).alloc (Nat.le_refl _) _
  have W4 : Hid (Below V1.heap.size V1 V) := box_step A4.out hB (Nat.le_refl _)
  have AV : Hid (Below X.heap.size X V ∧ Six V w4.heap.size (.string s) (.int .i64 kd) (.int .i64 lo) (.int .i64 hi) (.slice (some ⟨b, 0, none⟩) n n) (.float .f64 x) ∧ RdRow V (.slice (some ⟨b, 0, none⟩) n n) n f) :=
    ⟨box_step A3b.out.1 W4.out (Nat.le_refl _), by rw [hV]; exact six_new _ _ _ _ _ _ _ _, S4.out.later hB⟩
  have SX : Hid (Six V w.heap.size (.string s) (.int .i64 kd) (.int .i64 lo) (.int .i64 hi) (.slice ao n cap) (.float .f64 x)) := HX.out.2.later AV.out.1
  have RV : Hid (RdRow V (.slice ao n cap) n f) := HR.out.1.later (HX.out.1.trans (AV.out.1.mono HX.out.1.size))
  have TV : Hid (Tab V) := HR.out.2.1.later (HX.out.1.trans (AV.out.1.mono HX.out.1.size))
  have OV : Hid (Below w.heap.size w V) := HX.out.1.trans (AV.out.1.mono HX.out.1.size)
  clear hB A4 S4
  go_wp2_with fail
  rw [← hV]
  clear hV
  refine (iIA_any (nm := nm) AV.out.2.2 TV.out hn2 HR.out.2.2).mono ?_
  rintro e w5 ⟨y', rfl, hy', b5⟩
  rw [HCO.out.1]
  rw [HCO.out.1, HCO.out.2] at hy'
  have A5 : Hid (Below V.heap.size V w5 ∧ Fc y' oo) := ⟨b5, hy'⟩
  have d0' : w5.cell? ⟨w3.heap.size, 0, none⟩ = some (.int .i64 code) := (A5.out.1.cell (Nat.lt_of_lt_of_le A3b.out.2.2.2 W4.out.size)).trans ((W4.out.cell A3b.out.2.2.2).trans A3b.out.2.1)
  have d1' : w5.cell? ⟨w3.heap.size, 1, none⟩ = some (.float .f64 y) := (A5.out.1.cell (Nat.lt_of_lt_of_le A3b.out.2.2.2 W4.out.size)).trans ((W4.out.cell A3b.out.2.2.2).trans A3b.out.2.2.1)
  have d0 : ∀ o, (w5.alloc o).cell? ⟨w3.heap.size, 0, none⟩ = some (.int .i64 code) := fun o => alloc_keeps d0'
  have d1 : ∀ o, (w5.alloc o).cell? ⟨w3.heap.size, 1, none⟩ = some (.float .f64 y) := fun o => alloc_keeps d1'
  have hne : ¬ w3.heap.size = w5.heap.size := by have := World.block_lt_of_cell? _ _ d0'; simp at this; omega
  clear b5 hy' d0' d1'
  go_wp2_with fail
  refine (eqI_any A5.out.2 A3.out.2 _).mono ?_
  rintro e w6 ⟨rfl, b6⟩
  have hR6 : Below V.heap.size V w6 := box_step (A5.out.1.alloc A5.out.1.size _) b6 (Nat.le_refl _)
  clear b6 d0 d1 hne A3 A3b W4 A5
  have z0 : ∀ W, Below V.heap.size V W → W.cell? ⟨w.heap.size, 0, none⟩ = some (.string s) := fun _ h => (SX.out.later h).c0
  have z1 : ∀ W, Below V.heap.size V W → W.cell? ⟨w.heap.size, 1, none⟩ = some (.int .i64 kd) := fun _ h => (SX.out.later h).c1
  have z2 : ∀ W, Below V.heap.size V W → W.cell? ⟨w.heap.size, 2, none⟩ = some (.int .i64 lo) := fun _ h => (SX.out.later h).c2
  have z3 : ∀ W, Below V.heap.size V W → W.cell? ⟨w.heap.size, 3, none⟩ = some (.int .i64 hi) := fun _ h => (SX.out.later h).c3
  have z4 : ∀ W, Below V.heap.size V W → W.cell? ⟨w.heap.size, 4, none⟩ = some (.slice ao n cap) := fun _ h => (SX.out.later h).c4
  have z5 : ∀ W, Below V.heap.size V W → W.cell? ⟨w.heap.size, 5, none⟩ = some (.float .f64 x) := fun _ h => (SX.out.later h).c5
  have y0 : ∀ W, Below V.heap.size V W → W.cell? ⟨w4.heap.size, 0, none⟩ = some (.string s) := fun _ h => (AV.out.2.1.later h).c0
  have y1 : ∀ W, Below V.heap.size V W → W.cell? ⟨w4.heap.size, 1, none⟩ = some (.int .i64 kd) := fun _ h => (AV.out.2.1.later h).c1
  have y2 : ∀ W, Below V.heap.size V W → W.cell? ⟨w4.heap.size, 2, none⟩ = some (.int .i64 lo) := fun _ h => (AV.out.2.1.later h).c2
  have y3 : ∀ W, Below V.heap.size V W → W.cell? ⟨w4.heap.size, 3, none⟩ = some (.int .i64 hi) := fun _ h => (AV.out.2.1.later h).c3
  have y4 : ∀ W, Below V.heap.size V W → W.cell? ⟨w4.heap.size, 4, none⟩ = some (.slice (some ⟨b, 0, none⟩) n n) := fun _ h => (AV.out.2.1.later h).c4
  have y5 : ∀ W, Below V.heap.size V W → W.cell? ⟨w4.heap.size, 5, none⟩ = some (.float .f64 x) := fun _ h => (AV.out.2.1.later h).c5
  go_wp2_with fail
  go_region_held (fun W => Below V.heap.size V W) (with_reducible (first | assumption | exact Below.drew ‹_›))
    (first | (go_at_call 12; refine (toG_any (RV.out.later (by with_reducible assumption)) hn2).mono ?_; rintro e wA ⟨b6, rfl, sg6, hb6, b6'⟩; have hRA : Below V.heap.size V wA := (by refine box_step ?_ b6' (Nat.le_refl _); with_reducible (first | assumption | exact Below.drew ‹_›)); have S6 : Hid (RdRow wA (.slice (some ⟨b6, 0, none⟩) n n) n f) := sg6.rd)
           | (go_at_call 14; refine (eqG_any (AV.out.2.2.later ?_) S6.out hn2 HR.out.2.2 HR.out.2.2 rfl).mono ?_; (with_reducible assumption); rintro e wB ⟨rfl, b7⟩; have hRB : Below V.heap.size V wB := (by refine box_step ?_ b7 (Nat.le_refl _); with_reducible assumption)))
  all_goals
    have HB : Hid (Below w.heap.size w wB) := OV.out.trans (hRB.mono OV.out.size)
    clear hRB b7
    go_wp2
    go_ret
    exact ⟨rfl, HB.out⟩
set_option maxRecDepth 100000 in
theorem lifted (os : Os) (started : os.Started) (H : Type) (enc : TypeId × Value → H) :
    ReturnsInHanded {} Tryd.checked os 4 .any (fun w args => (Rows.fnExactIndexAtSpec.pre enc Tryd.prog Tryd.f4 [] false w args ∧ laidMetH Tryd.prog laid1 w) ∧ sizedMet enc Tryd.prog Tryd.f4 (OpenSpec.ofChange Rows.fnExactIndexAtSpec) false w args)
      (Rows.fnExactIndexAtSpec.post enc Tryd.prog Tryd.f4 false true false false) := by
  refine returnsInHanded_of_change_and (C := Tryd.checked) (X := fun w _ => laidMetH Tryd.prog laid1 w) (fun _ _ _ hh h => h.of_heap hh) own started (by kernel_rfl) Tryd.func4
    (ChangeSpec.witness_shaped (enc := enc) (C := Tryd.checked) (os := os) (X := fun w _ => laidMetH Tryd.prog laid1 w) false (World.doorLaid Tryd.prog 400 os) #[.agg #[.string ⟨#[]⟩, .int .i64 0, .int .i64 0, .int .i64 0, .slice none 0 0, .float .f64 0], .int .i64 0] 8 rfl (World.shaped_of_RefB (by kernel_rfl) (by kernel_rfl)) (by kernel_rfl) (by kernel_rfl) (by kernel_rfl) (door_met os _)) ?_
  intro W base args ds gs before hval0 hW _ _ hL _
  have hval : ∀ (j : Nat) t v, Tryd.f4.params[j]? = some t → args[j]? = some v → Value.okWide Tryd.prog W .any base t v := hval0
  have hW' := hW
  obtain ⟨p, q, hA0, hV, rfl, hfz, hnd⟩ := hW
  have hA : DataW.TrodAll enc Tryd.prog W 0 (fun _ => true) true Tryd.f4.params.toList args.toList ds p := hA0
  rw [Tryd.params4] at hA hval
  obtain ⟨v0, vs0, d0, ds0, p0, q0, hargs0, rfl, rfl, h0, r0⟩ := trodAll_cons hA
  obtain ⟨v1, vs1, d1, ds1, p1, q1, hargs1, rfl, rfl, h1, r1⟩ := trodAll_cons r0
  obtain ⟨rfl, rfl, rfl⟩ := trodAll_nil r1
  obtain rfl : args = #[v0, v1] := by cases args; simp_all
  obtain ⟨gd, rfl⟩ : ∃ gd, gs = [gd] := by obtain ⟨_, _, _, _, d, _, e, _⟩ := trodVars_one hV; exact ⟨d, e⟩
  have k0 := h0
  have lt0 : ∀ x ∈ p0, x.block < W.heap.size := by obtain ⟨m, hm⟩ := k0; exact DataW.trod_lt m _ _ _ hm
  have k1 := h1
  have lt1 : ∀ x ∈ p1, x.block < W.heap.size := by obtain ⟨m, hm⟩ := k1; exact DataW.trod_lt m _ _ _ hm
  obtain ⟨s, kd, lo, hi, k, n, f, x, e0, R0, hs0, hn0, hx0⟩ := open_glass (hval 0 25 v0 rfl rfl) h0
  subst e0
  obtain ⟨nm, e1⟩ := okWide_int Tryd.underlying2 (hval 1 2 v1 rfl rfl)
  subst e1
  clear hA0 hval0
  refine (walk R0 hs0 hn0 hx0 (tab_of hL)).mono fun e W' ⟨he, bel⟩ => ?_
  subst he
  exact ⟨_, rfl, _, _, _, [], _, _, hW', trodAll_mk1 (shut_bool Tryd.underlying4 _), (trodAll_cons_mk (Below.trod laidOut (by kernel_rfl) (of_decide_eq_true (by kernel_rfl)) k0 bel lt0) (trodAll_cons_mk (Below.trod laidOut (by kernel_rfl) (of_decide_eq_true (by kernel_rfl)) k1 bel lt1) trodAll_mk0)), Below.trodVars laidOut bel (by kernel_rfl) hV, bel.frame _, fun h => by cases h⟩

theorem said : Rows.FnExactIndexAtSaid :=
  OpenClaim.holds_of_wide 4 Tryd.f4 rfl rfl rfl rfl rfl rfl rfl ⟨rfl, rfl, rfl, rfl, rfl⟩ rfl rfl rfl rfl rfl (by kernel_rfl) Tryd.func4 (by kernel_rfl)
    (of_decide_eq_true (by kernel_rfl)) (by unfold Func.isWrapper; first | (rw [if_pos (by decide +kernel)]; kernel_rfl) | (rw [if_neg (by decide +kernel)]; exact ⟨rfl, rfl⟩))
    (fun os started H enc _ => lifted os started H enc)
end Go.Proofs.YtndfncjoknibaaaDoor.LawIndexAt
namespace Go.Proofs.YtndfncjoknibaaaDoor
open Go.ChangeShapes Go.WideShapes Go.ChangeAt Go.RowKit Go.Joins
theorem indexAt_holds : Rows.FnExactIndexAtCardSaid :=
  Claim7.holds_tied_plain_at .later [] [.data] true (true, "da10ff261ccb0d50757e23721bf26fcbb1cf6d673d685000ff3250fb22adc995") false
    LawIndexAt.said (fun _ h => by cases h) (by kernel_rfl) (fun _ h => by cases h) fnExactIndexAt_row_tie rfl ⟨rfl, rfl⟩ (by kernel_rfl) rfl
    (fun f fn hf hfn => by
      obtain rfl : f = 4 := Option.some.inj ((show Tryd.prog.funcNamed "loop.example/g00049/laws.FnExactIndexAt" = some 4 by kernel_rfl).symm.trans hf) |>.symm
      obtain rfl : fn = Tryd.f4 := (Option.some.inj (Tryd.func4.symm.trans hfn)).symm
      exact ⟨by kernel_rfl, fun j t ht => by
        rw [Tryd.params4] at ht
        have hm : t ∈ [25, 2] := by simpa using Array.mem_of_getElem? ht
        have hall : ([25, 2].all fun u => !Tryd.prog.wantsStandIn u) = true := by kernel_rfl
        exact (show Tryd.prog.wantsStandIn t = false by simpa using List.all_eq_true.1 hall t hm)⟩)
    (by kernel_rfl)
#print axioms indexAt_holds
end Go.Proofs.YtndfncjoknibaaaDoor
