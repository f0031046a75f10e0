/- impl.AngleOf. -/
import Derived.Test.YtbagaicbochmnaaFy
namespace Go.Proofs.Ytbagaicbochmnaa
open Go.RowKit Fl
set_option linter.unusedVariables false
theorem pw_shr : ∀ q : Fin 18, (1048576 : Int) / 2 ^ (q.val + 3) = pw q.val := by decide
theorem wrap_small {x : Int} (h0 : 0 ≤ x) (h1 : x ≤ 100000000) : wrap64 x = x := by unfold wrap64; omega
set_option maxHeartbeats 4000000 in
set_option maxRecDepth 100000 in
theorem iAng_any {a b : Nat} {p : Option Nat × Option Nat} (h : Zc a b p) (w : World) : Calls Try.prog 55 #[Zv a b] w fun e w' => e = .returned (.int .i64 (angC p)) ∧ Below w.heap.size w w' := by
  obtain ⟨fa, fb⟩ := zc_fc h
  have hneg := neg_run
  have hcn : ∀ (a b : Nat) (w : World), (Op.unary .neg (.complex .f64 a b)).run Try.prog w = .ok (.complex .f64 (Op.negFloat .f64 a) (Op.negFloat .f64 b)) w := fun _ _ _ => rfl
  have oa := ord_fc fa fc_zero
  have ob := ord_fc fb fc_zero
  obtain ⟨S1, hS1⟩ : ∃ S, S = an1 p := ⟨_, rfl⟩
  obtain ⟨s1a, s1b⟩ := an1_bd p
  rw [← hS1] at s1a s1b
  have HS1 : Hid (S1 = an1 p) := hS1
  clear hS1
  go_enter Try.func55, Try.ntmps55
  go_wp2_with fail
  refine (complexOf_any _ _ _).mono ?_
  rintro e w1 ⟨rfl, hb1⟩
  have B1 : Hid (Below w.heap.size w w1) := ((Below.refl _ w).alloc (Nat.le_refl _) _).trans (hb1.mono (by simp))
  clear hb1
  go_upto_region 2 with fail
  obtain ⟨o1, ho1⟩ : ∃ o, o = ordO p.1 zO := ⟨_, rfl⟩
  obtain ⟨o2, ho2⟩ : ∃ o, o = ordO p.2 zO := ⟨_, rfl⟩
  rw [← ho1] at oa
  rw [← ho2] at ob
  obtain ⟨c1, hc1⟩ : ∃ c : Bool, c = ((o2 == some .lt) || ((o2 == some .eq) && (o1 == some .lt))) := ⟨_, rfl⟩
  have HC1 : Hid (S1 = if c1 then (524288, (negO p.1, negO p.2)) else (0, p)) := by
    show S1 = _
    rw [HS1.out, hc1, ho1, ho2]
    rfl
  clear ho1 ho2
  go_cut [22] from 10 to 21 (fun v wx => v = .bool c1 ∧ wx = w1)
  case first =>
    rcases o2 with _ | (_ | _ | _)
    · simp at hc1
      subst hc1
      go_wp2
      go_meet
      case rel => exact ⟨rfl, rfl⟩
    · simp at hc1
      subst hc1
      go_wp2
      go_meet
      case rel => exact ⟨rfl, rfl⟩
    · rcases o1 with _ | (_ | _ | _)
      all_goals
        simp at hc1
        subst hc1
        go_wp2
        go_meet
        case rel => exact ⟨rfl, rfl⟩
    · simp at hc1
      subst hc1
      go_wp2
      go_meet
      case rel => exact ⟨rfl, rfl⟩
  case rest =>
  obtain ⟨rfl, rfl⟩ := hcut
  clear oa ob hc1
  go_upto_if 22 with fail
  go_cut [3, 4] from 23 to 26 (fun z t wx => ∃ x y, z = .complex .f64 x y ∧ t = .int .i64 S1.1 ∧ Zc x y S1.2 ∧ wx = wc)
  case first =>
    cases c1
    · go_wp2
      go_meet
      case rel => exact ⟨a, b, rfl, by rw [HC1.out]; rfl, by rw [HC1.out]; exact h, rfl⟩
    · go_wp2
      go_meet
      case rel => exact ⟨_, _, rfl, by rw [HC1.out]; rfl, by rw [HC1.out]; exact fc_zc (fc_neg fa) (fc_neg fb), rfl⟩
  case rest =>
  obtain ⟨x, y, rfl, rfl, hz, rfl⟩ := hcut
  clear fa fb h HC1
  obtain ⟨fx, fy⟩ := zc_fc hz
  obtain ⟨S2, hS2⟩ : ∃ S, S = an2 S1 := ⟨_, rfl⟩
  obtain ⟨gt1, hgt1⟩ : ∃ g : Bool, g = (FloatKind.f64.format.order x 0 == some .gt) := ⟨_, rfl⟩
  have HS2 : Hid (S2 = if gt1 then S1 else (S1.1 + 262144, (S1.2.2, negO S1.2.1))) := by
    show S2 = _
    rw [hS2, hgt1, gt_fc fx fc_zero]
    rfl
  have HAN : Hid (S2 = an2 (an1 p) ∧ 0 ≤ S2.1 ∧ S2.1 ≤ 1000000) := by
    have e : S2 = an2 (an1 p) := by rw [hS2, HS1.out]
    have := an12_bd p
    rw [← e] at this
    exact ⟨e, this⟩
  have hg1 : (FloatKind.f64.format.order x 0 == some .gt) = gt1 := hgt1.symm
  clear hgt1 hS2
  go_upto_if 30 with fail
  go_cut [3, 4] from 31 to 38 (fun z t wx => ∃ x y, z = .complex .f64 x y ∧ t = .int .i64 S2.1 ∧ Zc x y S2.2 ∧ wx = wc)
  case first =>
    cases gt1
    · go_wp2
      go_meet
      case rel => exact ⟨_, _, rfl, by rw [HS2.out]; rfl, by rw [HS2.out]; exact fc_zc fy (fc_neg fx), rfl⟩
    · go_wp2
      go_meet
      case rel => exact ⟨x, y, rfl, by rw [HS2.out]; rfl, by rw [HS2.out]; exact hz, rfl⟩
  case rest =>
  obtain ⟨x2, y2, rfl, rfl, hz2, rfl⟩ := hcut
  clear fx fy hz HS2 hg1 s1a s1b
  go_wp2_with fail
  refine (circ_any _).mono ?_
  rintro e w2 ⟨c, rfl, hR, hb2⟩
  have B2 : Hid (Below w.heap.size w w2) := B1.out.trans (hb2.mono B1.out.size)
  have h0 : Own w2.heap.size w2 w2.heap.size 40 84 (w2.alloc (.cells #[.float .f64 0, .float .f64 0, .float .f64 0, .float .f64 0, .float .f64 0, .float .f64 0, .float .f64 0, .float .f64 0, .float .f64 0, .float .f64 0, .float .f64 0, .float .f64 0, .float .f64 0, .float .f64 0, .float .f64 0, .float .f64 0, .float .f64 0, .float .f64 0, .float .f64 0, .float .f64 0, .float .f64 0, .float .f64 0, .float .f64 0, .float .f64 0, .float .f64 0, .float .f64 0, .float .f64 0, .float .f64 0, .float .f64 0, .float .f64 0, .float .f64 0, .float .f64 0, .float .f64 0, .float .f64 0, .float .f64 0, .float .f64 0, .float .f64 0, .float .f64 0, .float .f64 0, .float .f64 0] 84)) := own_made (X := w2) (t := 84) #[.float .f64 0, .float .f64 0, .float .f64 0, .float .f64 0, .float .f64 0, .float .f64 0, .float .f64 0, .float .f64 0, .float .f64 0, .float .f64 0, .float .f64 0, .float .f64 0, .float .f64 0, .float .f64 0, .float .f64 0, .float .f64 0, .float .f64 0, .float .f64 0, .float .f64 0, .float .f64 0, .float .f64 0, .float .f64 0, .float .f64 0, .float .f64 0, .float .f64 0, .float .f64 0, .float .f64 0, .float .f64 0, .float .f64 0, .float .f64 0, .float .f64 0, .float .f64 0, .float .f64 0, .float .f64 0, .float .f64 0, .float .f64 0, .float .f64 0, .float .f64 0, .float .f64 0, .float .f64 0] (Nat.le_refl _)
  have hth : (w2.alloc (.cells #[.float .f64 0, .float .f64 0, .float .f64 0, .float .f64 0, .float .f64 0, .float .f64 0, .float .f64 0, .float .f64 0, .float .f64 0, .float .f64 0, .float .f64 0, .float .f64 0, .float .f64 0, .float .f64 0, .float .f64 0, .float .f64 0, .float .f64 0, .float .f64 0, .float .f64 0, .float .f64 0, .float .f64 0, .float .f64 0, .float .f64 0, .float .f64 0, .float .f64 0, .float .f64 0, .float .f64 0, .float .f64 0, .float .f64 0, .float .f64 0, .float .f64 0, .float .f64 0, .float .f64 0, .float .f64 0, .float .f64 0, .float .f64 0, .float .f64 0, .float .f64 0, .float .f64 0, .float .f64 0] 84)).there w2.heap.size 0 c.size := by rw [hR.size]; exact own_there h0
  have h1 := rts_one hR
  have hsz : (Try.prog.info? 84).map (·.size) = some c.size := by rw [hR.size]; exact info74
  have HR : Hid (Rts c (upto 20)) := hR
  clear hb2 hR
  go_wp2_with (first | (refine wpList_store_mid rfl 84 _ _ rfl w2.heap.size 0 c rfl rfl hth hsz h1 ?_))
  obtain ⟨Y, hY⟩ : ∃ Y, Y = (w2.alloc (.cells #[.float .f64 0, .float .f64 0, .float .f64 0, .float .f64 0, .float .f64 0, .float .f64 0, .float .f64 0, .float .f64 0, .float .f64 0, .float .f64 0, .float .f64 0, .float .f64 0, .float .f64 0, .float .f64 0, .float .f64 0, .float .f64 0, .float .f64 0, .float .f64 0, .float .f64 0, .float .f64 0, .float .f64 0, .float .f64 0, .float .f64 0, .float .f64 0, .float .f64 0, .float .f64 0, .float .f64 0, .float .f64 0, .float .f64 0, .float .f64 0, .float .f64 0, .float .f64 0, .float .f64 0, .float .f64 0, .float .f64 0, .float .f64 0, .float .f64 0, .float .f64 0, .float .f64 0, .float .f64 0] 84)).setCells w2.heap.size 0 c.toList := ⟨_, rfl⟩
  have OY : Own w2.heap.size w2 w2.heap.size 40 84 Y := by rw [hY]; exact own_setCells _ _ _ h0
  have GY : SegM Y w2.heap.size 84 20 2 (tabF (upto 20)) := by
    refine seg_of_range OY ?_ HR.out
    rw [hY]
    exact World.rangeAt_setCells_same _ _ _ _ (by rw [Array.length_toList]; exact hth)
  have HY : Hid (SegM Y w2.heap.size 84 20 2 (tabF (upto 20)) ∧ Below w.heap.size w Y) := ⟨GY, B2.out.trans (OY.below.mono B2.out.size)⟩
  first | rw [← hY] | skip
  clear hth h1 hsz h0 OY GY HR
  go_loopw [3, 4, 6] (fun z t i wr => ∃ (q iN x y : Nat), q ≤ 18 ∧ i = .int .i64 (iN : Int) ∧ z = .complex .f64 x y ∧ t = .int .i64 (an3 S2 q).1 ∧ Hid (iN = q + 2 ∧ Zc x y (an3 S2 q).2 ∧ SegM wr w2.heap.size 84 20 2 (tabF (upto 20)) ∧ Below w.heap.size w wr)) (fun _ _ i _ => 20 - (intOf i).toNat)
  case atStart => exact ⟨0, 2, x2, y2, by omega, rfl, rfl, rfl, rfl, hz2, HY.out.1, HY.out.2⟩
  case round =>
    obtain ⟨q, iN, x, y, hq, rfl, rfl, rfl, HW⟩ := hrel
    clear hz2 HY
    obtain ⟨hiN, hzq, hsg, hbq⟩ := HW.out
    obtain ⟨tb1, tb2⟩ := an3_bd HAN.out.2.1 HAN.out.2.2 q
    by_cases hq18 : q < 18
    · have hi20 : (iN : Int) < 20 := by omega
      have hi20n : iN < 20 := by omega
      have L0 : wr.cell? ⟨w2.heap.size, iN * 2, none⟩ = some (.float .f64 (uT iN).1) := by
        have := hsg.cell (i := iN) (j := 0) hi20n (by omega)
        simpa [tabF, upto, hi20n] using this
      have L1 : wr.cell? ⟨w2.heap.size, iN * 2 + 1, none⟩ = some (.float .f64 (uT iN).2) := by
        have := hsg.cell (i := iN) (j := 1) hi20n (by omega)
        simpa [tabF, upto, hi20n] using this
      have u1 := uC_tab iN hi20n
      obtain ⟨b1, b2⟩ := uT_bd hi20n
      have hA : Fc (uT iN).1 (uC iN).1 := ⟨b1.1, by rw [u1, cl_num (b1.num (by omega))]⟩
      have hB : Fc (uT iN).2 (uC iN).2 := ⟨b2.1, by rw [u1, cl_num (b2.num (by omega))]⟩
      generalize (uT iN).1 = ra at L0 hA
      generalize (uT iN).2 = rb at L1 hB
      obtain ⟨E, G, nn, hop, HC⟩ := cmul_fun hzq (fc_zc hA (fc_neg hB))
      have HCC : Hid (∀ W, Zc (E W) (G W) (anW (an3 S2 q) q)) := fun W => by
        have := HC W
        rw [hiN] at this
        exact this
      have hbl : w2.heap.size < wr.heap.size := World.block_lt_of_cell? _ _ L0
      have k0 : ∀ W, Below wr.heap.size wr W → W.cell? ⟨w2.heap.size, iN * 2, none⟩ = some (.float .f64 ra) := fun W h => old_cell h hbl L0
      have k1 : ∀ W, Below wr.heap.size wr W → W.cell? ⟨w2.heap.size, iN * 2 + 1, none⟩ = some (.float .f64 rb) := fun W h => old_cell h hbl L1
      have hR0 : Below wr.heap.size wr wr := Below.refl _ _
      have HI : Hid (iN = q + 2) := hiN
      clear hzq hsg hbq u1 b1 b2 hA hB HC hbl L0 L1 hiN
      go_upto_region 12 with fail
      go_region_held (fun W => Below wr.heap.size wr W) (first | assumption | exact Below.drew ‹_› | exact below_drewN ‹_› _ | exact below_drewN (Below.drew ‹_›) _ | (with_reducible refine below_drewN ?_ _; first | assumption | exact Below.drew ‹_›)) (fail)
      obtain ⟨V, hV⟩ : ∃ V, V = wr.drewN (1 + nn wr.drew) := ⟨_, rfl⟩
      rw [← hV]
      have hbV : Below wr.heap.size wr V := by rw [hV]; exact below_drewN (Below.refl _ _) _
      have hzW := HCC.out wr.drew
      generalize E wr.drew = ea at hzW ⊢
      generalize G wr.drew = eb at hzW ⊢
      have HV : Hid (SegM V w2.heap.size 84 20 2 (tabF (upto 20)) ∧ Below w.heap.size w V) := ⟨HW.out.2.2.1.below hbV, HW.out.2.2.2.trans (hbV.mono HW.out.2.2.2.size)⟩
      obtain ⟨_, feb⟩ := zc_fc hzW
      obtain ⟨g, hg⟩ : ∃ g : Bool, g = (FloatKind.f64.format.order eb 0 == some .gt || FloatKind.f64.format.order eb 0 == some .eq) := ⟨_, rfl⟩
      have HG : Hid (an3 S2 (q + 1) = if g then ((an3 S2 q).1 + pw q, anW (an3 S2 q) q) else an3 S2 q) := by
        show an3 S2 (q + 1) = _
        rw [hg, ge_fc feb fc_zero]
        rfl
      have hge : (FloatKind.f64.format.order eb 0 == some .gt || FloatKind.f64.format.order eb 0 == some .eq) = g := hg.symm
      clear hg hV hbV k0 k1 hR0 hop HCC feb
      cases g
      · go_wp2
        go_roundw
        case rel => exact ⟨q + 1, iN + 1, x, y, by omega, by simp, rfl, by rw [HG.out]; rfl, by have := HI.out; omega, by rw [HG.out]; exact HW.out.2.1, HV.out.1, HV.out.2⟩
        case measure => simp [intOf]; omega
      · have pb := pw_bd q
        have HP : Hid (wrap64 ((an3 S2 q).1 + 1048576 / 2 ^ (iN + 1)) = (an3 S2 (q + 1)).1) := by
          show wrap64 ((an3 S2 q).1 + 1048576 / 2 ^ (iN + 1)) = (an3 S2 (q + 1)).1
          rw [HI.out, show q + 2 + 1 = q + 3 by omega, pw_shr ⟨q, hq18⟩, HG.out]
          exact wrap_small (x := (an3 S2 q).1 + pw q) (by omega) (by omega)
        clear pb
        go_wp2
        refine ⟨⟨q + 1, iN + 1, ea, eb, by omega, by simp, rfl, by rw [HP.out], by have := HI.out; omega, by rw [HG.out]; exact hzW, HV.out.1, HV.out.2⟩, by simp [intOf]; omega⟩
    · obtain rfl : q = 18 := by omega
      have hi20 : ¬((iN : Int) < 20) := by omega
      have HE : Hid ((an3 S2 18).1 = angC p) := by show (an3 S2 18).1 = angC p; rw [HAN.out.1]; rfl
      clear hzq hsg hiN
      go_wp2
      go_ret
      exact ⟨congrArg (fun n => Ending.returned (Value.int .i64 n)) HE.out, HW.out.2.2.2⟩
end Go.Proofs.Ytbagaicbochmnaa
