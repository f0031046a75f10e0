/- Whatever the bytes are: the float that they draw has a root that is NaN below 0 and at NaN, itself at the noughts and the infinite one, above 0 elsewhere, not above the root of the next float; whole numbers' squares have them as roots; nothing that was there is changed. -/
import Derived.Test.YtbhpdlhmkmkbhaaArgb
import Derived.Test.YtbhpdlhmkmkbhaaRootsW
import Derived.Handy
namespace Go.Proofs.Ytbhpdlhmkmkbhaa.LawRoots
open Go.ChangeShapes Go.WideShapes Go.ChangeAt Go.RowKit Go.Joins
set_option linter.unusedVariables false

open Fl in
set_option maxHeartbeats 3200000 in
theorem walk {w : World} {v : Value} {n : Nat} {g : Nat → Int} (h : RdB w v n g) (hn : n ≤ 9223372036854775807) (hg : ∀ i, i < n → 0 ≤ g i ∧ g i ≤ 255) :
    Calls Try.prog 4 #[v] w fun e w' => e = .returned (.bool true) ∧ Below w.heap.size w w' := by
  obtain ⟨ao, cap, rfl⟩ : ∃ ao cap, v = .slice ao n cap := by
    rcases h with ⟨ao, cap, rfl, rfl⟩ | ⟨b, off, cap, rfl, _⟩
    · exact ⟨ao, cap, rfl⟩
    · exact ⟨_, cap, rfl⟩
  have HB := big_any ao n cap
  go_enter Try.func4, Try.ntmps4
  go_wp2_with fail
  refine (HB _).mono ?_
  rintro e w0 ⟨rfl, rfl⟩
  by_cases hb : (1048576 : Int) < (n : Int)
  · rw [decide_eq_true hb]
    clear h hg HB
    go_wp2
    go_ret
    exact ⟨rfl, Below.refl _ _⟩
  rw [decide_eq_false hb]
  have hn2 : n ≤ 1000000000000 := by omega
  have H : Hid (RdB w (.slice ao n cap) n g ∧ (∀ i, i < n → 0 ≤ g i ∧ g i ≤ 255) ∧ n ≤ 1000000000000) := ⟨h, hg, hn2⟩
  clear h hg HB hb
  go_wp2_with fail
  refine (draw_any H.out.1 H.out.2.1 hn2).mono ?_
  rintro e w1 ⟨x, rfl, hx, b1⟩
  have A1 : Hid (Below w.heap.size w w1) := b1
  clear b1
  by_cases n1 : ¬ Num x
  · obtain ⟨o1, o2, o3⟩ := bad_nan hx n1
    have H3 : Hid (Ieee.double.sqrt x = none) := o3
    clear o3 n1
    go_wp2_with fail
    refine (iSqrt_none H3.out _).mono ?_
    rintro e w2 ⟨rfl, hw2⟩
    have o4 := nan_nan w1 x x
    have A2 : Hid (Below w.heap.size w w2) := by rw [← hw2]; exact A1.out.drew
    generalize nanAt w1 x x = r at o4 ⊢
    clear hw2 A1 H H3
    go_wp2
    go_ret
    exact ⟨rfl, A2.out⟩
  have n1 : Num x := Decidable.not_not.1 n1
  have oself := order_self' hx n1
  have oz := order_zero hx n1
  by_cases z : rg x = 0
  · rw [if_pos z] at oz
    have H3 : Hid (Ieee.double.sqrt x = some x) := sqrt_zero hx z
    have H4 : Hid (x < 18446744073709551616) := hx
    have hnl : (FloatKind.f64.format.order x 9218868437227405311 == some .gt) = false := large_gt hx n1 (by intro k; rw [k] at z; exact absurd z (by decide))
    clear n1 z hx
    go_wp2_with fail
    refine (iSqrt_some H3.out _).mono ?_
    rintro e w2 ⟨rfl, rfl⟩
    go_wp2_with fail
    refine (at_any A1.out H.out.1 H.out.2.1 hn2).mono ?_
    rintro e w3 ⟨r3, rfl, k0, k1, q3, hw3⟩
    have A3 : Hid (Below w.heap.size w w3) := by rw [hw3]; exact below_drewN A1.out _
    clear hw3 A1
    obtain ⟨k, rfl⟩ := Int.eq_ofNat_of_zero_le k0
    obtain ⟨f, hf⟩ : ∃ f, f = F false k 0 := ⟨_, rfl⟩
    have hfi : floatOfInt .f64 (k : Int) = f := by rw [hf]; exact floatOfInt_F k
    obtain ⟨s, hs1, hs2⟩ := square_root (k := k) (by omega)
    rw [← hf] at hs1 hs2
    have hmul := mul_is hs1
    have HS : Hid (Ieee.double.sqrt s = some f) := hs2
    have off : FloatKind.f64.format.order f f = some .eq := by rw [hf]; exact order_self' (f_lt _ _) (f_num (by omega))
    clear hs1 hs2 hf k0 k1
    go_wp2_with fail
    refine (iSqrt_some HS.out _).mono ?_
    rintro e w4 ⟨rfl, rfl⟩
    clear HS hmul
    go_wp2_with fail
    refine (lwSame_any H4.out H4.out rfl _).mono ?_
    rintro e w5 ⟨rfl, rfl⟩
    clear oself oz hnl off hfi
    go_wp2
    go_ret
    exact ⟨rfl, A3.out⟩
  rw [if_neg z] at oz
  by_cases sx : sg x = true
  · rw [if_pos sx] at oz
    have H3 : Hid (Ieee.double.sqrt x = none) := sqrt_neg hx n1 z sx
    clear n1 z sx
    go_wp2_with fail
    refine (iSqrt_none H3.out _).mono ?_
    rintro e w2 ⟨rfl, hw2⟩
    have o4 := nan_nan w1 x x
    have A2 : Hid (Below w.heap.size w w2) := by rw [← hw2]; exact A1.out.drew
    generalize nanAt w1 x x = r at o4 ⊢
    clear hw2 A1 H H3
    go_wp2
    go_ret
    exact ⟨rfl, A2.out⟩
  rw [if_neg sx] at oz
  have hl : x < 9223372036854775808 := by simp only [sg, decide_eq_true_eq] at sx; omega
  by_cases hi : x = 9218868437227405312
  · have hgt := (order_large hx n1).2 hi
    have H3 : Hid (Ieee.double.sqrt x = some x) := by rw [hi]; exact sqrt_inf
    have H4 : Hid (x < 18446744073709551616) := hx
    clear n1 z hx sx hi hl
    go_wp2_with fail
    refine (iSqrt_some H3.out _).mono ?_
    rintro e w2 ⟨rfl, rfl⟩
    go_wp2_with fail
    refine (at_any A1.out H.out.1 H.out.2.1 hn2).mono ?_
    rintro e w3 ⟨r3, rfl, k0, k1, q3, hw3⟩
    have A3 : Hid (Below w.heap.size w w3) := by rw [hw3]; exact below_drewN A1.out _
    clear hw3 A1
    obtain ⟨k, rfl⟩ := Int.eq_ofNat_of_zero_le k0
    obtain ⟨f, hf⟩ : ∃ f, f = F false k 0 := ⟨_, rfl⟩
    have hfi : floatOfInt .f64 (k : Int) = f := by rw [hf]; exact floatOfInt_F k
    obtain ⟨s, hs1, hs2⟩ := square_root (k := k) (by omega)
    rw [← hf] at hs1 hs2
    have hmul := mul_is hs1
    have HS : Hid (Ieee.double.sqrt s = some f) := hs2
    have off : FloatKind.f64.format.order f f = some .eq := by rw [hf]; exact order_self' (f_lt _ _) (f_num (by omega))
    clear hs1 hs2 hf k0 k1
    go_wp2_with fail
    refine (iSqrt_some HS.out _).mono ?_
    rintro e w4 ⟨rfl, rfl⟩
    clear HS hmul
    go_wp2_with fail
    refine (lwSame_any H4.out H4.out rfl _).mono ?_
    rintro e w5 ⟨rfl, rfl⟩
    clear oself oz hgt off hfi
    go_wp2
    go_ret
    exact ⟨rfl, A3.out⟩
  have hnl := large_gt hx n1 hi
  have x0 : 0 < x := by simp only [rg] at z; omega
  have xi : x < 9218868437227405312 := by unfold Num at n1; omega
  obtain ⟨r, hr⟩ := root_some x0 xi
  obtain ⟨r1, r2⟩ := root_pos x0 xi hr
  have orz : FloatKind.f64.format.order r 0 = some .gt := by
    rw [order_zero (by omega) (by unfold Num; omega), if_neg (by simp only [rg]; omega), if_neg (by simp only [sg]; simp; omega)]
  obtain ⟨y, hy, hge⟩ := next_root x0 xi hr
  have H3 : Hid (Ieee.double.sqrt x = some r) := hr
  have H5 : Hid (Ieee.double.sqrt (x + 1) = some y) := hy
  have HNX : Hid (∀ w, Calls Try.prog 22 #[.float .f64 x] w fun e w' => e = .returned (.float .f64 (x + 1)) ∧ w = w') := fun w => next_is x0 xi w
  clear hr hy r1 r2 n1 z sx hl hi hx x0 xi
  go_wp2_with fail
  refine (iSqrt_some H3.out _).mono ?_
  rintro e w2 ⟨rfl, rfl⟩
  go_wp2_with fail
  refine (at_any A1.out H.out.1 H.out.2.1 hn2).mono ?_
  rintro e w3 ⟨r3, rfl, k0, k1, q3, hw3⟩
  have A3 : Hid (Below w.heap.size w w3) := by rw [hw3]; exact below_drewN A1.out _
  clear hw3 A1
  obtain ⟨k, rfl⟩ := Int.eq_ofNat_of_zero_le k0
  obtain ⟨f, hf⟩ : ∃ f, f = F false k 0 := ⟨_, rfl⟩
  have hfi : floatOfInt .f64 (k : Int) = f := by rw [hf]; exact floatOfInt_F k
  obtain ⟨s, hs1, hs2⟩ := square_root (k := k) (by omega)
  rw [← hf] at hs1 hs2
  have hmul := mul_is hs1
  have HS : Hid (Ieee.double.sqrt s = some f) := hs2
  have off : FloatKind.f64.format.order f f = some .eq := by rw [hf]; exact order_self' (f_lt _ _) (f_num (by omega))
  clear hs1 hs2 hf k0 k1
  go_wp2_with fail
  refine (iSqrt_some HS.out _).mono ?_
  rintro e w4 ⟨rfl, rfl⟩
  clear HS hmul
  go_wp2_with fail
  refine (HNX.out _).mono ?_
  rintro e w5 ⟨rfl, rfl⟩
  clear oself oz hnl off hfi HNX
  go_wp2_with fail
  refine (iSqrt_some H5.out _).mono ?_
  rintro e w5 ⟨rfl, rfl⟩
  have os := one_self
  rcases hge with hge | hge
  · go_wp2_with fail
    refine (iSqrt_some one_root _).mono ?_
    rintro e w5 ⟨rfl, rfl⟩
    go_wp2
    go_ret
    exact ⟨rfl, A3.out⟩
  · go_wp2_with fail
    refine (iSqrt_some one_root _).mono ?_
    rintro e w5 ⟨rfl, rfl⟩
    go_wp2
    go_ret
    exact ⟨rfl, A3.out⟩

set_option maxRecDepth 100000 in
theorem lifted (os : Os) (started : os.Started) (H : Type) (enc : TypeId × Value → H) :
    ReturnsInHanded {} Try.checked os 4 .any (Rows.fnRootsSpec.pre6 enc Try.prog Try.f4 Rows.fnRootsRow.domain false) (Rows.fnRootsSpec.post enc Try.prog Try.f4 false true false false) := by
  refine returnsInHanded_of_change (C := Try.checked) own started (by kernel_rfl) Try.func4
    (ChangeSpec.witness6 (enc := enc) (C := Try.checked) false ⟨#[], #[.slice none 0 0], []⟩ 8 (by kernel_rfl) (by kernel_rfl) (by kernel_rfl) (by kernel_rfl)) ?_
  intro W base args ds gs before hval0 hW hcnd _
  have hval : ∀ (j : Nat) t v, Try.f4.params[j]? = some t → args[j]? = some v → Value.okWide Try.prog W .any base t v := hval0
  have hW' := hW
  obtain ⟨p, q, hA0, hV, rfl, hfz, hnd⟩ := hW
  have hA : DataW.TrodAll enc Try.prog W 0 (fun _ => true) true Try.f4.params.toList args.toList ds p := hA0
  rw [Try.params4] at hA hval
  obtain ⟨v0, vs0, d0, ds0, p0, q0, hargs, rfl, rfl, h0, r0⟩ := trodAll_cons hA
  obtain ⟨rfl, rfl, rfl⟩ := trodAll_nil r0
  obtain rfl : args = #[v0] := by cases args; simp_all
  obtain ⟨rfl, rfl⟩ := trodVars_none hV
  have k0 := h0
  have lt0 : ∀ x ∈ p0, x.block < W.heap.size := by obtain ⟨m, hm⟩ := k0; exact DataW.trod_lt m _ _ _ hm
  obtain ⟨n0, F0, R0, nb0, fb0⟩ := open_bytes (hval 0 22 v0 rfl rfl) h0
  clear hA0 hval0
  refine (walk R0 nb0 fb0  ).mono fun e W' ⟨he, bel⟩ => ?_
  subst he
  exact ⟨_, rfl, _, _, _, [], _, [], hW', trodAll_mk1 (shut_bool Try.underlying4 _), (trodAll_cons_mk (Below.trod laidOut (by kernel_rfl) (of_decide_eq_true (by kernel_rfl)) k0 bel lt0) trodAll_mk0), rfl, bel.frame _, fun h => by cases h⟩

theorem over : Rows.fnRootsRow.holds Try.pinned (OpenSpec.ofChange Rows.fnRootsSpec) :=
  OpenClaim.holds_of_wide 4 Try.f4 rfl rfl rfl rfl rfl rfl rfl ⟨rfl, rfl, rfl, rfl, rfl⟩ rfl rfl rfl rfl rfl (by kernel_rfl) Try.func4 (by kernel_rfl)
    (of_decide_eq_true (by kernel_rfl)) (by unfold Func.isWrapper; first | (rw [if_pos (by decide +kernel)]; kernel_rfl) | (rw [if_neg (by decide +kernel)]; exact ⟨rfl, rfl⟩))
    (fun os started H enc _ => lifted os started H enc)
end Go.Proofs.Ytbhpdlhmkmkbhaa.LawRoots
namespace Go.Proofs.Ytbhpdlhmkmkbhaa
theorem roots_holds : Rows.FnRootsSaid := LawRoots.over
#print axioms roots_holds
end Go.Proofs.Ytbhpdlhmkmkbhaa
