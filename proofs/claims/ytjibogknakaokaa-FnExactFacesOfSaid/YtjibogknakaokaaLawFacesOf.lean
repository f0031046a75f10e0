/- At every list of plain surfaces the program's FacesOf answers as the specification, float by float, all NaNs being one, in memory of its own that neither the argument's nor a second call's marks reach, where the law's own bound on its length does not answer first; nothing that was there is changed. -/
import Derived.Test.YtjibogknakaokaaFs
import Derived.Test.YtjibogknakaokaaFj
import Derived.Test.YtjibogknakaokaaPc
import Derived.Test.YtjibogknakaokaaPd
import Derived.Test.YtjibogknakaokaaPo
import Derived.Handy
import Derived.Deep.RegionHeld3
import Derived.Deep.DeepCutAuto
namespace Go.Proofs.Ytjibogknakaokaa.LawFacesOf
open Go.ChangeShapes Go.WideShapes Go.ChangeAt Go.RowKit Go.Joins Fl
set_option linter.unusedVariables false

set_option maxRecDepth 100000 in
set_option maxHeartbeats 6400000 in
theorem walk {w : World} {v : Value} {n : Nat} {F : Nat → Ps} (h : RdV w v n 11 (fun i j => pcell (F i) j)) (hn : n ≤ 9223372036854775807) :
    Calls Try.prog 5 #[v] w fun e w' => e = .returned (.bool true) ∧ Below w.heap.size w w' := by
  obtain ⟨ao, cap, rfl⟩ := h.form
  have H : Hid (RdV w (.slice ao n cap) n 11 (fun i j => pcell (F i) j)) := h
  clear h
  have HZ : Hid (∀ W, Calls Try.prog 20 #[.slice ao n cap, .int .i64 1048576] W fun e w' => e = .returned (.int .i64 (if 1048576 < n then -1 else 1048576 - n)) ∧ W = w') := fun W => szPss_any ao n cap W hn
  go_enter Try.func5, Try.ntmps5
  by_cases hb : 1048576 < n
  · rw [if_pos hb] at HZ
    go_wp2_with (go_at_call 20; refine (HZ.out _).mono ?_; rintro e w' ⟨rfl, rfl⟩)
    go_ret
    exact ⟨rfl, Below.refl _ _⟩
  rw [if_neg hb] at HZ
  have hn2 : n ≤ 1048576 := by omega
  have hn3 : n ≤ 1000000000 := by omega
  have hn4 : n ≤ 100000000 := by omega
  have hn5 : n ≤ 1000000000000 := by omega
  have hnI : ¬ ((1048576 : Int) - n < 0) := by omega
  have HO : Hid (Below w.heap.size w w) := Below.refl _ _
  go_wp2_with (go_at_call 20; refine (HZ.out _).mono ?_; rintro e w' ⟨rfl, rfl⟩)
  clear HZ
  go_wp2_with fail
  refine (toPss_any (H.out.later HO.out) hn3).mono ?_
  rintro e w1 ⟨rfl, sx, b⟩
  have S_a : Hid (SegV w1 w.heap.size 101 n 11 (fun i j => pcell (F i) j)) := sx
  clear sx
  replace HO : Hid (Below w.heap.size w w1) := HO.out.trans (b.mono HO.out.size)
  clear b
  go_wp2_with fail
  refine (sFaces_some w.heap.size 0 n n F _ hn4 (fun i hi j hj => by have h := S_a.out.cell hi hj; simpa using h)).mono ?_
  rintro e w2 ⟨gs, cs, Rs, rfl, rs, b⟩
  replace S_a : Hid (SegV w2 w.heap.size 101 n 11 (fun i j => pcell (F i) j)) := S_a.out.below b
  have S_s : Hid (SegV w2 gs 57 n 5 (fun i j => fcl (Rs i) j)) := rs.2.1
  have HRs : Hid (∀ i, i < n → Gc (Rs i) (faceC (F i))) := rs.2.2
  have hs0 : Hid (w.heap.size ≤ gs) := Nat.le_trans HO.out.size rs.1
  have Ls := S_s.out.lt
  replace Ls : Hid _ := Ls
  clear rs
  replace HO : Hid (Below w.heap.size w w2) := HO.out.trans (b.mono HO.out.size)
  clear b
  have HOB : Hid (w.heap.size ≤ w2.heap.size) := HO.out.size
  clear S_a
  go_wp2_with fail
  refine (toPss_any (H.out.later HO.out) hn3).mono ?_
  rintro e w3 ⟨rfl, sx, b⟩
  replace S_s : Hid (SegV w3 gs 57 n 5 (fun i j => fcl (Rs i) j)) := S_s.out.below b
  have S_x : Hid (SegV w3 w2.heap.size 101 n 11 (fun i j => pcell (F i) j)) := sx
  clear sx
  replace HO : Hid (Below w.heap.size w w3) := HO.out.trans (b.mono HO.out.size)
  clear b
  have hx0 : Hid (w2.heap.size < w3.heap.size) := S_x.out.lt
  have hx1 : Hid (w.heap.size ≤ w2.heap.size) := HOB.out
  go_wp2_with fail
  refine (iFaces_some w2.heap.size 0 n n F _ hn4 (fun i hi j hj => by have h := S_x.out.cell hi hj; simpa using h)).mono ?_
  rintro e w4 ⟨gi, ci, Ri, rfl, ri, b⟩
  replace S_s : Hid (SegV w4 gs 57 n 5 (fun i j => fcl (Rs i) j)) := S_s.out.below b
  replace S_x : Hid (SegV w4 w2.heap.size 101 n 11 (fun i j => pcell (F i) j)) := S_x.out.below b
  have S_g : Hid (SegV w4 gi 57 n 5 (fun i j => fcl (Ri i) j)) := ri.2.1
  have HRi : Hid (∀ i, i < n → Gc (Ri i) (faceC (F i))) := ri.2.2
  have Lg := ri.1
  replace Lg : Hid _ := Lg
  clear ri
  have HB : Hid (gs < w2.heap.size ∧ w2.heap.size < gi ∧ w.heap.size ≤ w2.heap.size ∧ w.heap.size ≤ gs) := ⟨Ls.out, by have h1 := Lg.out; have h2 := hx0.out; omega, hx1.out, hs0.out⟩
  replace HO : Hid (Below w.heap.size w w4) := HO.out.trans (b.mono HO.out.size)
  clear b
  go_wp2_with fail
  refine (eqFas_same gi ci gs cs n Ri Rs (fun i => faceC (F i)) _ hn5 S_g.out S_s.out HRi.out HRs.out).mono ?_
  rintro e w5 ⟨rfl, b⟩
  replace S_s : Hid (SegV w5 gs 57 n 5 (fun i j => fcl (Rs i) j)) := S_s.out.below b
  replace S_x : Hid (SegV w5 w2.heap.size 101 n 11 (fun i j => pcell (F i) j)) := S_x.out.below b
  replace S_g : Hid (SegV w5 gi 57 n 5 (fun i j => fcl (Ri i) j)) := S_g.out.below b
  replace HO : Hid (Below w.heap.size w w5) := HO.out.trans (b.mono HO.out.size)
  clear b
  go_wp2_with fail
  refine (toPss_any (H.out.later HO.out) hn3).mono ?_
  rintro e w6 ⟨rfl, sx, b⟩
  replace S_s : Hid (SegV w6 gs 57 n 5 (fun i j => fcl (Rs i) j)) := S_s.out.below b
  replace S_x : Hid (SegV w6 w2.heap.size 101 n 11 (fun i j => pcell (F i) j)) := S_x.out.below b
  replace S_g : Hid (SegV w6 gi 57 n 5 (fun i j => fcl (Ri i) j)) := S_g.out.below b
  have S_y : Hid (SegV w6 w5.heap.size 101 n 11 (fun i j => pcell (F i) j)) := sx
  clear sx
  replace HO : Hid (Below w.heap.size w w6) := HO.out.trans (b.mono HO.out.size)
  clear b
  go_wp2_with fail
  refine (eqPss_same w2.heap.size n (w5.heap.size) n n F _ hn5 S_x.out S_y.out).mono ?_
  rintro e w7 ⟨rfl, b⟩
  replace S_s : Hid (SegV w7 gs 57 n 5 (fun i j => fcl (Rs i) j)) := S_s.out.below b
  replace S_x : Hid (SegV w7 w2.heap.size 101 n 11 (fun i j => pcell (F i) j)) := S_x.out.below b
  replace S_g : Hid (SegV w7 gi 57 n 5 (fun i j => fcl (Ri i) j)) := S_g.out.below b
  replace S_y : Hid (SegV w7 w5.heap.size 101 n 11 (fun i j => pcell (F i) j)) := S_y.out.below b
  replace HO : Hid (Below w.heap.size w w7) := HO.out.trans (b.mono HO.out.size)
  clear b
  clear S_y
  go_wp2_with fail
  refine (markPs_some w2.heap.size n n 1 _ w.heap.size w _ hn2 (by omega) S_x.out HO.out (by have := HB.out; omega)).mono ?_
  rintro e w8 ⟨rfl, sm, bm, om, zm⟩
  replace S_s : Hid (SegV w8 gs 57 n 5 (fun i j => fcl (Rs i) j)) := S_s.out.of_block (om _ (by have := HB.out; omega))
  replace S_g : Hid (SegV w8 gi 57 n 5 (fun i j => fcl (Ri i) j)) := S_g.out.of_block (om _ (by have := HB.out; omega))
  clear S_x
  replace HO : Hid (Below w.heap.size w w8) := bm
  clear sm bm om zm
  have hm0 : ¬ (mK 1 n < 0) := by unfold mK; omega
  generalize mK 1 n = M at hm0 ⊢
  go_wp2_with fail
  refine (eqFas_same gi ci gs cs n Ri Rs (fun i => faceC (F i)) _ hn5 S_g.out S_s.out HRi.out HRs.out).mono ?_
  rintro e w9 ⟨rfl, b⟩
  replace S_s : Hid (SegV w9 gs 57 n 5 (fun i j => fcl (Rs i) j)) := S_s.out.below b
  replace S_g : Hid (SegV w9 gi 57 n 5 (fun i j => fcl (Ri i) j)) := S_g.out.below b
  replace HO : Hid (Below w.heap.size w w9) := HO.out.trans (b.mono HO.out.size)
  clear b
  go_wp2_with fail
  refine (markFa_some gi n ci 1 _ w.heap.size w _ hn2 (by omega) S_g.out (fun i _ j _ => ⟨_, rfl⟩) HO.out (by have := HB.out; omega)).mono ?_
  rintro e w10 ⟨rfl, sm, bm, om, zm⟩
  replace S_s : Hid (SegV w10 gs 57 n 5 (fun i j => fcl (Rs i) j)) := S_s.out.of_block (om _ (by have := HB.out; omega))
  replace S_g : Hid (SegV w10 gi 57 n 5 (fun i j => fcl (mfl 5 1 i) j)) := sm
  replace HO : Hid (Below w.heap.size w w10) := bm
  clear sm bm om zm
  have hm1 : ¬ (((1 : Nat) : Int) + 5 * n < 0) := by omega
  have hm2 : ((1 : Nat) : Int) + 5 * n ≤ 50000000 := by omega
  have HM : Hid (∀ W, SegV W gi 57 n 5 (fun i j => fcl (mfl 5 1 i) j) → Calls Try.prog 28 #[.slice (some ⟨gi, 0, none⟩) n ci, .int .i64 1] W fun e w' => e = .returned (.int .i64 (((1 : Nat) : Int) + 5 * n)) ∧ W = w') := fun W h => heldFa_some gi n ci 1 W hn2 (by omega) h
  generalize ((1 : Nat) : Int) + 5 * n = M2 at hm1 hm2 HM ⊢
  go_wp2_with fail
  refine (HM.out _ S_g.out).mono ?_
  rintro e wx ⟨rfl, rfl⟩
  go_wp2_with fail
  refine (toPss_any (H.out.later HO.out) hn3).mono ?_
  rintro e w11 ⟨rfl, sx, b⟩
  replace S_s : Hid (SegV w11 gs 57 n 5 (fun i j => fcl (Rs i) j)) := S_s.out.below b
  replace S_g : Hid (SegV w11 gi 57 n 5 (fun i j => fcl (mfl 5 1 i) j)) := S_g.out.below b
  have S_z : Hid (SegV w11 w10.heap.size 101 n 11 (fun i j => pcell (F i) j)) := sx
  clear sx
  replace HO : Hid (Below w.heap.size w w11) := HO.out.trans (b.mono HO.out.size)
  clear b
  go_wp2_with fail
  refine (iFaces_some (w10.heap.size) 0 n n F _ hn4 (fun i hi j hj => by have h := S_z.out.cell hi hj; simpa using h)).mono ?_
  rintro e w12 ⟨gh, ch, Rh, rfl, rh, b⟩
  replace S_s : Hid (SegV w12 gs 57 n 5 (fun i j => fcl (Rs i) j)) := S_s.out.below b
  replace S_g : Hid (SegV w12 gi 57 n 5 (fun i j => fcl (mfl 5 1 i) j)) := S_g.out.below b
  replace S_z : Hid (SegV w12 w10.heap.size 101 n 11 (fun i j => pcell (F i) j)) := S_z.out.below b
  have S_h : Hid (SegV w12 gh 57 n 5 (fun i j => fcl (Rh i) j)) := rh.2.1
  have HRh : Hid (∀ i, i < n → Gc (Rh i) (faceC (F i))) := rh.2.2
  clear rh
  replace HO : Hid (Below w.heap.size w w12) := HO.out.trans (b.mono HO.out.size)
  clear b
  go_wp2_with fail
  refine (eqFas_same gh ch gs cs n Rh Rs (fun i => faceC (F i)) _ hn5 S_h.out S_s.out HRh.out HRs.out).mono ?_
  rintro e w13 ⟨rfl, b⟩
  replace S_s : Hid (SegV w13 gs 57 n 5 (fun i j => fcl (Rs i) j)) := S_s.out.below b
  replace S_g : Hid (SegV w13 gi 57 n 5 (fun i j => fcl (mfl 5 1 i) j)) := S_g.out.below b
  replace S_z : Hid (SegV w13 w10.heap.size 101 n 11 (fun i j => pcell (F i) j)) := S_z.out.below b
  replace S_h : Hid (SegV w13 gh 57 n 5 (fun i j => fcl (Rh i) j)) := S_h.out.below b
  replace HO : Hid (Below w.heap.size w w13) := HO.out.trans (b.mono HO.out.size)
  clear b
  go_wp2_with fail
  refine (HM.out _ S_g.out).mono ?_
  rintro e wx ⟨rfl, rfl⟩
  go_wp2
  go_ret
  exact ⟨rfl, HO.out⟩

set_option maxRecDepth 100000 in
theorem lifted (os : Os) (started : os.Started) (H : Type) (enc : TypeId × Value → H) :
    ReturnsInHanded {} Try.checked os 5 .any (Rows.fnExactFacesOfSpec.pre6 enc Try.prog Try.f5 Rows.fnExactFacesOfRow.domain false) (Rows.fnExactFacesOfSpec.post enc Try.prog Try.f5 false true false false) := by
  refine returnsInHanded_of_change (C := Try.checked) own started (by kernel_rfl) Try.func5
    (ChangeSpec.witness6 (enc := enc) (C := Try.checked) false ⟨#[], #[.slice none 0 0], []⟩ 8 (by kernel_rfl) (by kernel_rfl) (by kernel_rfl) (by kernel_rfl)) ?_
  intro W base args ds gs before hval0 hW hcnd _
  have hval : ∀ (j : Nat) t v, Try.f5.params[j]? = some t → args[j]? = some v → Value.okWide Try.prog W .any base t v := hval0
  have hW' := hW
  obtain ⟨p, q, hA0, hV, rfl, hfz, hnd⟩ := hW
  have hA : DataW.TrodAll enc Try.prog W 0 (fun _ => true) true Try.f5.params.toList args.toList ds p := hA0
  rw [Try.params5] at hA hval
  obtain ⟨v0, vs0, d0, ds0, p0, q0, hargs, rfl, rfl, h0, r0⟩ := trodAll_cons hA
  obtain ⟨rfl, rfl, rfl⟩ := trodAll_nil r0
  obtain rfl : args = #[v0] := by cases args; simp_all
  obtain ⟨rfl, rfl⟩ := trodVars_none hV
  have k0 := h0
  have lt0 : ∀ x ∈ p0, x.block < W.heap.size := by obtain ⟨m, hm⟩ := k0; exact DataW.trod_lt m _ _ _ hm
  obtain ⟨n0, F0, R0, nb0⟩ := open_ps (hval 0 42 v0 rfl rfl) h0
  clear hA0 hval0
  refine (walk R0 nb0).mono fun e W' ⟨he, bel⟩ => ?_
  subst he
  exact ⟨_, rfl, _, _, _, [], _, [], hW', trodAll_mk1 (shut_bool Try.underlying4 _), (trodAll_cons_mk (Below.trod laidOut (by kernel_rfl) (of_decide_eq_true (by kernel_rfl)) k0 bel lt0) trodAll_mk0), rfl, bel.frame _, fun h => by cases h⟩

theorem over : Rows.fnExactFacesOfRow.holds Try.pinned (OpenSpec.ofChange Rows.fnExactFacesOfSpec) :=
  OpenClaim.holds_of_wide 5 Try.f5 rfl rfl rfl rfl rfl rfl rfl ⟨rfl, rfl, rfl, rfl, rfl⟩ rfl rfl rfl rfl rfl (by kernel_rfl) Try.func5 (by kernel_rfl)
    (of_decide_eq_true (by kernel_rfl)) (by unfold Func.isWrapper; first | (rw [if_pos (by decide +kernel)]; kernel_rfl) | (rw [if_neg (by decide +kernel)]; exact ⟨rfl, rfl⟩))
    (fun os started H enc _ => lifted os started H enc)
end Go.Proofs.Ytjibogknakaokaa.LawFacesOf
namespace Go.Proofs.Ytjibogknakaokaa
theorem facesOf_holds : Rows.FnExactFacesOfSaid := LawFacesOf.over
#print axioms facesOf_holds
end Go.Proofs.Ytjibogknakaokaa
