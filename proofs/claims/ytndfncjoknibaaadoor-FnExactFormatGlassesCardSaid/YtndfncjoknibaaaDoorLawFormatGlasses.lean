/- At every list of glasses that comes in, right or not, the program's FormatGlasses answers the specification's text, where the law's own bound on the sizes does not answer first; nothing that was there is changed. Conditions: the program's tables of words and counts and the library's tables start as the program's text lays them (the card ties them). -/
import Derived.Test.YtndfncjoknibaaaDoorRows
import Derived.Test.YtndfncjoknibaaaDoorCards
import Derived.Test.YtndfncjoknibaaaDoorTie
import Derived.Test.YtndfncjoknibaaaDoorOpg
import Derived.Test.YtndfncjoknibaaaDoorFi
import Derived.Handy
import Derived.WalkKit
import Derived.Deep.RegionHeld3
import Derived.Deep.DeepCutAuto
namespace Go.Proofs.YtndfncjoknibaaaDoor.LawFormatGlasses
open Go.ChangeShapes Go.WideShapes Go.ChangeAt Go.RowKit Go.Joins Fl
set_option linter.unusedVariables false
theorem cells_of_strs {H : Type} {enc : TypeId × Value → H} {P : Program} {w : World} {base : Nat} {sp : Nat → Bool} {held : Bool} {fuel : Nat} {t e : TypeId} {n : Nat} {cs : List Value} {zs : List (List UInt8)} {p : List MemPlace}
    (ht : P.underlying t = some (.array n e)) (he : P.underlying e = some .string) (hce : P.cellsOf e = 1) (hct : P.cellsOf t = n)
    (h : DataW.trod enc P w base sp held fuel t cs = some (.agg (zs.map fun z => .lit (.string z)), p)) : cs = zs.map fun z => Value.string ⟨z.toArray⟩ := by
  cases fuel with
  | zero => simp [DataW.trod] at h
  | succ fuel =>
    simp only [DataW.trod, ht, hce, hct, Nat.mul_one] at h
    split at h
    · rename_i hl
      obtain ⟨xs, hm, hx⟩ := Option.map_eq_some_iff.1 h
      have hxs : xs.map (·.1) = zs.map fun z => (DataW.lit (.string z) : DataW H) := by
        have := congrArg Prod.fst hx
        simpa using this
      have hxl : xs.length = n := by simpa using Lib.mapM_length hm
      have hzl : zs.length = n := by
        have := congrArg List.length hxs
        simp at this
        omega
      apply List.ext_getElem?
      intro i
      by_cases hi : i < n
      · obtain ⟨b, hb, hf⟩ := Lib.mapM_at hm i i (by simp [hi])
        obtain ⟨s, hc, rfl, _⟩ := DataW.trod_string he hf
        have h1 : cs[i]? = some (.string s) := by
          have := congrArg (·[0]?) hc
          simpa [List.getElem?_take, List.getElem?_drop] using this
        have h2 : (xs.map (·.1))[i]? = some (DataW.lit (.string s.data.toList) : DataW H) := by simp [hb]
        rw [hxs] at h2
        simp only [List.getElem?_map, Option.map_eq_some_iff, DataW.lit.injEq, Lit.string.injEq] at h2
        obtain ⟨z', hz', hzz⟩ := h2
        rw [h1, List.getElem?_map, hz', hzz]
        rfl
      · rw [List.getElem?_eq_none (by omega), List.getElem?_eq_none (by simp; omega)]
    · cases h
def wordsTab : List (List UInt8) := [[103, 108, 97, 115, 115], [115, 105, 120], [116, 104, 114, 101, 101]]
theorem words_eq : (Rows.laid_loop_example_g00049_impl_glassWords : DataW Unit) = .agg (wordsTab.map fun z => .lit (.string z)) := by kernel_rfl
theorem gWords : Tryd.prog.globalNamed "loop.example/g00049/impl.glassWords" = some 1 := by kernel_rfl
theorem gWordsType : (Tryd.prog.globals[1]?).map (·.type) = some 108 := by kernel_rfl
theorem cells108 : Tryd.prog.cellsOf 108 = 3 := by kernel_rfl
theorem pow_eq : (Rows.laid_internal_strconv_uint64pow10 : DataW Unit) = Lib.tabData .u64 Lib.pow10Tab := by kernel_rfl
theorem gPowType : (Tryd.prog.globals[3]?).map (·.type) = some 151 := by kernel_rfl
theorem cells113 : Tryd.prog.cellsOf 113 = 1 := by kernel_rfl
theorem cells151 : Tryd.prog.cellsOf 151 = 20 := by kernel_rfl
theorem words_head {W : World} {rest : List (String × DataW Unit)} (h : laidMet Tryd.prog (("loop.example/g00049/impl.glassWords", Rows.laid_loop_example_g00049_impl_glassWords) :: rest) W) :
    W.cell? ⟨1, 0, none⟩ = some (.string ⟨#[103, 108, 97, 115, 115]⟩) ∧ W.cell? ⟨1, 1, none⟩ = some (.string ⟨#[115, 105, 120]⟩) ∧ W.cell? ⟨1, 2, none⟩ = some (.string ⟨#[116, 104, 114, 101, 101]⟩) := by
  rw [words_eq] at h
  obtain ⟨ps, ⟨g', t', cs, fuel, p, q, hg', ht', hvar, hd, _, _⟩, _⟩ := h
  obtain rfl := Option.some.inj (gWords.symm.trans hg')
  obtain rfl := Option.some.inj (gWordsType.symm.trans ht')
  have hcs := cells_of_strs Tryd.underlying108 Tryd.underlying9 cells9 cells108 hd
  have k : ∀ i, W.cell? ⟨1, i, none⟩ = cs[i]? := fun i => World.var?_cell gWords hvar i
  have k2 : ∀ i, cs[i]? = (wordsTab.map fun z => Value.string ⟨z.toArray⟩)[i]? := fun i => by rw [← hcs, Array.getElem?_toList]
  exact ⟨by rw [k, k2]; rfl, by rw [k, k2]; rfl, by rw [k, k2]; rfl⟩
def laid5 : List (String × DataW Unit) := Rows.fnExactFormatGlassesRow.laid
theorem wtab_of {W : World} (h : laidMetH Tryd.prog laid5 W) : WTab W := by
  rw [MakeChecks.laidMetH_plain _ _ _ (by kernel_rfl)] at h
  have h0 : laidMet Tryd.prog [("math/bits.deBruijn32tab", Rows.laid_math_bits_deBruijn32tab), ("math/bits.deBruijn64tab", Rows.laid_math_bits_deBruijn64tab), ("internal/strconv.uint64pow10", Rows.laid_internal_strconv_uint64pow10), ("loop.example/g00049/impl.glassWords", Rows.laid_loop_example_g00049_impl_glassWords), ("loop.example/g00049/impl.glassCounts", Rows.laid_loop_example_g00049_impl_glassCounts)] W := h
  have h2 := h0.tail.tail
  obtain ⟨w0, w1, w2⟩ := words_head h2.tail
  have hp := h2
  rw [pow_eq] at hp
  exact ⟨tab_head h2.tail.tail, w0, w1, w2, Lib.tabIs_of_head gTab gPowType Tryd.underlying151 Tryd.underlying113 cells113 cells151 hp⟩
theorem door_met5 (os : Os) (args : Array Value) : laidMetH Tryd.prog laid5 ((World.doorLaid Tryd.prog 400 os).forCall (fun _ _ => 0) ⟨#[], args, []⟩).memory :=
  laidMetH_of_parts3 (fuel := 8) (laidMet_of_run' 8 (by kernel_rfl) (by kernel_rfl)) (by kernel_rfl) (by kernel_rfl)
set_option maxHeartbeats 1600000 in
theorem walk {w : World} {v : Value} {n : Nat} {G : Nat → Gl} (h : RdG w v n G) (hn : n ≤ 9223372036854775807) (hg : ∀ i, i < n → GlOk (G i)) (T : WTab w) :
    Calls Tryd.prog 9 #[v] w fun e w' => e = .returned (.bool true) ∧ Below w.heap.size w w' := by
  have H : Hid (RdG w v n G ∧ (∀ i, i < n → GlOk (G i)) ∧ WTab w) := ⟨h, hg, T⟩
  clear h hg T
  go_enter Tryd.func9, Tryd.ntmps9
  go_wp2_with fail
  refine (szGS_any H.out.1 hn H.out.2.1).mono ?_
  rintro e w1 ⟨r, rfl, hr, b1⟩
  by_cases hr0 : r < 0
  · have HB : Hid (Below w.heap.size w w1) := b1
    clear b1 hr
    go_wp2
    go_ret
    exact ⟨rfl, HB.out⟩
  have hn2 : n ≤ 1048576 := by omega
  have HS : Hid ((∀ i, i < n → (G i).n ≤ 1000000000000) ∧ ∀ i, i < n → (G i).n ≤ 1000000000000 ∧ (G i).x < 18446744073709551616) := by
    have hz : Sz G n ≤ 1048576 := by omega
    have h1 : ∀ i, i < n → (G i).n ≤ 1000000000000 := fun i hi => by have := Sz_at (G := G) hi; omega
    exact ⟨h1, fun i hi => ⟨h1 i hi, (H.out.2.1 i hi).hx⟩⟩
  have A1 : Hid (Below w.heap.size w w1) := b1
  clear b1 hr
  go_wp2_with fail
  refine (toGS_any (H.out.1.later A1.out) (by omega) HS.out.1).mono ?_
  rintro e w2 ⟨rfl, g2, b2⟩
  have A2 : Hid (Below w.heap.size w w2 ∧ RdG w2 (.slice (some ⟨w1.heap.size, 0, none⟩) n n) n G) := ⟨box_step A1.out b2 (Nat.le_refl _), g2⟩
  clear b2 g2
  go_wp2_with fail
  refine (sFmt_any A2.out.2 (by omega) HS.out.1).mono ?_
  rintro e w3 ⟨t3, rfl, f3, b3⟩
  have A3 : Hid (Below w.heap.size w w3 ∧ Fm G n t3) := ⟨box_step A2.out.1 b3 (Nat.le_refl _), f3⟩
  clear b3 f3
  go_wp2_with fail
  refine (toGS_any (H.out.1.later A3.out.1) (by omega) HS.out.1).mono ?_
  rintro e w4 ⟨rfl, g4, b4⟩
  have A4 : Hid (Below w.heap.size w w4 ∧ RdG w4 (.slice (some ⟨w3.heap.size, 0, none⟩) n n) n G) := ⟨box_step A3.out.1 b4 (Nat.le_refl _), g4⟩
  clear b4 g4
  go_wp2_with fail
  refine (iFmt_any A4.out.2 (by omega) (H.out.2.2.later A4.out.1)).mono ?_
  rintro e w5 ⟨t5, rfl, f5, b5⟩
  obtain rfl : t3 = t5 := A3.out.2.same f5
  have A5 : Hid (Below w.heap.size w w5 ∧ RdG w5 (.slice (some ⟨w3.heap.size, 0, none⟩) n n) n G) := ⟨box_step A4.out.1 b5 (Nat.le_refl _), A4.out.2.later b5⟩
  clear b5 f5
  have heq : (t3.toList == t3.toList) = true := by simp
  go_wp2_with fail
  refine (toGS_any (H.out.1.later A5.out.1) (by omega) HS.out.1).mono ?_
  rintro e w6 ⟨rfl, g6, b6⟩
  have A6 : Hid (Below w.heap.size w w6 ∧ RdG w6 (.slice (some ⟨w5.heap.size, 0, none⟩) n n) n G ∧ RdG w6 (.slice (some ⟨w3.heap.size, 0, none⟩) n n) n G) := ⟨box_step A5.out.1 b6 (Nat.le_refl _), g6, A5.out.2.later b6⟩
  clear b6 g6
  go_wp2_with fail
  refine (eqGS_any A6.out.2.2 A6.out.2.1 (by omega) HS.out.2).mono ?_
  rintro e w7 ⟨rfl, b7⟩
  have HB : Hid (Below w.heap.size w w7) := box_step A6.out.1 b7 (Nat.le_refl _)
  clear b7
  go_wp2
  go_ret
  exact ⟨rfl, HB.out⟩
set_option maxRecDepth 100000 in
theorem lifted (os : Os) (started : os.Started) (H : Type) (enc : TypeId × Value → H) :
    ReturnsInHanded {} Tryd.checked os 9 .any (fun w args => (Rows.fnExactFormatGlassesSpec.pre enc Tryd.prog Tryd.f9 [] false w args ∧ laidMetH Tryd.prog laid5 w) ∧ sizedMet enc Tryd.prog Tryd.f9 (OpenSpec.ofChange Rows.fnExactFormatGlassesSpec) false w args)
      (Rows.fnExactFormatGlassesSpec.post enc Tryd.prog Tryd.f9 false true false false) := by
  refine returnsInHanded_of_change_and (C := Tryd.checked) (X := fun w _ => laidMetH Tryd.prog laid5 w) (fun _ _ _ hh h => h.of_heap hh) own started (by kernel_rfl) Tryd.func9
    (ChangeSpec.witness_shaped (enc := enc) (C := Tryd.checked) (os := os) (X := fun w _ => laidMetH Tryd.prog laid5 w) false (World.doorLaid Tryd.prog 400 os) #[.slice none 0 0] 8 rfl (World.shaped_of_RefB (by kernel_rfl) (by kernel_rfl)) (by kernel_rfl) (by kernel_rfl) (by kernel_rfl) (door_met5 os _)) ?_
  intro W base args ds gs before hval0 hW _ _ hL _
  have hval : ∀ (j : Nat) t v, Tryd.f9.params[j]? = some t → args[j]? = some v → Value.okWide Tryd.prog W .any base t v := hval0
  have hW' := hW
  obtain ⟨p, q, hA0, hV, rfl, hfz, hnd⟩ := hW
  have hA : DataW.TrodAll enc Tryd.prog W 0 (fun _ => true) true Tryd.f9.params.toList args.toList ds p := hA0
  rw [Tryd.params9] at hA hval
  obtain ⟨v0, vs0, d0, ds0, p0, q0, hargs0, rfl, rfl, h0, r0⟩ := trodAll_cons hA
  obtain ⟨rfl, rfl, rfl⟩ := trodAll_nil r0
  obtain rfl : args = #[v0] := by cases args; simp_all
  obtain ⟨gd, ge, rfl⟩ : ∃ gd ge, gs = [gd, ge] := by obtain ⟨_, _, _, _, d, _, _, _, _, _, d2, _, e, _⟩ := trodVars_two hV; exact ⟨d, d2, e⟩
  have k0 := h0
  have lt0 : ∀ x ∈ p0, x.block < W.heap.size := by obtain ⟨m, hm⟩ := k0; exact DataW.trod_lt m _ _ _ hm
  obtain ⟨n0, G0, R0, nb0, ok0⟩ := open_gs (hval 0 53 v0 rfl rfl) h0
  clear hA0 hval0
  refine (walk R0 nb0 ok0 (wtab_of hL)).mono fun e W' ⟨he, bel⟩ => ?_
  subst he
  exact ⟨_, rfl, _, _, _, [], _, _, hW', trodAll_mk1 (shut_bool Tryd.underlying4 _), (trodAll_cons_mk (Below.trod laidOut (by kernel_rfl) (of_decide_eq_true (by kernel_rfl)) k0 bel lt0) trodAll_mk0), Below.trodVars laidOut bel (by kernel_rfl) hV, bel.frame _, fun h => by cases h⟩

theorem said : Rows.FnExactFormatGlassesSaid :=
  OpenClaim.holds_of_wide 9 Tryd.f9 rfl rfl rfl rfl rfl rfl rfl ⟨rfl, rfl, rfl, rfl, rfl⟩ rfl rfl rfl rfl rfl (by kernel_rfl) Tryd.func9 (by kernel_rfl)
    (of_decide_eq_true (by kernel_rfl)) (by unfold Func.isWrapper; first | (rw [if_pos (by decide +kernel)]; kernel_rfl) | (rw [if_neg (by decide +kernel)]; exact ⟨rfl, rfl⟩))
    (fun os started H enc _ => lifted os started H enc)
end Go.Proofs.YtndfncjoknibaaaDoor.LawFormatGlasses
namespace Go.Proofs.YtndfncjoknibaaaDoor
open Go.ChangeShapes Go.WideShapes Go.ChangeAt Go.RowKit Go.Joins
theorem formatGlasses_holds : Rows.FnExactFormatGlassesCardSaid :=
  Claim7.holds_tied_plain_at .later [] [.data, .data, .data, .data, .data] true (true, "da10ff261ccb0d50757e23721bf26fcbb1cf6d673d685000ff3250fb22adc995") false
    LawFormatGlasses.said (fun _ h => by cases h) (by kernel_rfl) (fun _ h => by cases h) fnExactFormatGlasses_row_tie rfl ⟨rfl, rfl⟩ (by kernel_rfl) rfl
    (fun f fn hf hfn => by
      obtain rfl : f = 9 := Option.some.inj ((show Tryd.prog.funcNamed "loop.example/g00049/laws.FnExactFormatGlasses" = some 9 by kernel_rfl).symm.trans hf) |>.symm
      obtain rfl : fn = Tryd.f9 := (Option.some.inj (Tryd.func9.symm.trans hfn)).symm
      exact ⟨by kernel_rfl, fun j t ht => by
        rw [Tryd.params9] at ht
        have hm : t ∈ [53] := by simpa using Array.mem_of_getElem? ht
        have hall : ([53].all fun u => !Tryd.prog.wantsStandIn u) = true := by kernel_rfl
        exact (show Tryd.prog.wantsStandIn t = false by simpa using List.all_eq_true.1 hall t hm)⟩)
    (by kernel_rfl)
#print axioms formatGlasses_holds
end Go.Proofs.YtndfncjoknibaaaDoor
