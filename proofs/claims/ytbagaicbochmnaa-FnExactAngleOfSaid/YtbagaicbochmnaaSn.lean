/- spec.AngleOf. -/
import Derived.Test.YtbagaicbochmnaaIa
namespace Go.Proofs.Ytbagaicbochmnaa
open Go.RowKit Fl
set_option linter.unusedVariables false
theorem l4Neg_any (a b : Nat) (w : World) : Calls Try.prog 83 #[Zv a b] w fun e w' => e = .returned (Zv (Op.negFloat .f64 a) (Op.negFloat .f64 b)) ∧ Below w.heap.size w w' := by
  have hneg := neg_run
  have hst := st64
  go_enter Try.func83, Try.ntmps83
  go_wp2
  refine bodyPost_ret (v := Zv (Op.negFloat .f64 a) (Op.negFloat .f64 b)) (by simp [results, Try.results83, go_sem]) rfl ⟨rfl, ?_⟩
  exact ((Below.refl _ w).alloc (Nat.le_refl _) _).alloc (by simp) _
/-- The part of a turn ahead of step q. -/
def pt (q : Nat) : Int := if q = 0 then 262144 else pw (q - 1)
theorem pt_half (q : Nat) : pt q / 2 = pw q := by
  cases q with
  | zero => rfl
  | succ q => rfl
theorem pt_bd (q : Nat) : 0 ≤ pt q ∧ pt q ≤ 262144 := by
  unfold pt
  split
  · omega
  · have := pw_bd (q - 1)
    omega
set_option maxHeartbeats 4000000 in
set_option maxRecDepth 100000 in
theorem sAng_any {a b : Nat} {p : Option Nat × Option Nat} (h : Zc a b p) (w : World) : Calls Try.prog 53 #[Zv a b] w fun e w' => e = .returned (.int .i64 (angC p)) ∧ Below w.heap.size w w' := by
  obtain ⟨fa, fb⟩ := zc_fc h
  have hneg := neg_run
  have hst := st64
  have oa := ord_fc fa fc_zero
  have ob := ord_fc fb fc_zero
  obtain ⟨S1, hS1⟩ : ∃ S, S = an1 p := ⟨_, rfl⟩
  obtain ⟨s1a, s1b⟩ := an1_bd p
  rw [← hS1] at s1a s1b
  have HS1 : Hid (S1 = an1 p) := hS1
  clear hS1
  obtain ⟨X, hX⟩ : ∃ X, X = w.alloc (.cells #[.float .f64 a, .float .f64 b] 55) := ⟨_, rfl⟩
  have BX : Hid (Blk X w.heap.size #[.float .f64 a, .float .f64 b] 55) := by show Blk X _ _ _; rw [hX]; exact Blk.new rfl
  have HX : Hid (Below w.heap.size w X) := by show Below _ _ X; rw [hX]; exact (Below.refl _ _).alloc (Nat.le_refl _) _
  have x0 := BX.out.cell (j := 0) rfl
  have x1 := BX.out.cell (j := 1) rfl
  have xf := BX.out.frozen
  go_enter Try.func53, Try.ntmps53
  go_upto_region 2 with fail
  rw [← hX]
  clear hX
  obtain ⟨o1, ho1⟩ : ∃ o, o = ordO p.1 zO := ⟨_, rfl⟩
  obtain ⟨o2, ho2⟩ : ∃ o, o = ordO p.2 zO := ⟨_, rfl⟩
  rw [← ho1] at oa
  rw [← ho2] at ob
  obtain ⟨c1, hc1⟩ : ∃ c : Bool, c = ((o2 == some .lt) || ((o2 == some .eq) && (o1 == some .lt))) := ⟨_, rfl⟩
  have HC1 : Hid (S1 = if c1 then (524288, (negO p.1, negO p.2)) else (0, p)) := by
    show S1 = _
    rw [HS1.out, hc1, ho1, ho2]
    rfl
  clear ho1 ho2
  go_cut [21] from 9 to 20 (fun v wx => v = .bool c1 ∧ wx = X)
  case first =>
    rcases o2 with _ | (_ | _ | _)
    · simp at hc1
      subst hc1
      go_wp2
      go_meet
      case rel => exact ⟨rfl, rfl⟩
    · simp at hc1
      subst hc1
      go_wp2
      go_meet
      case rel => exact ⟨rfl, rfl⟩
    · rcases o1 with _ | (_ | _ | _)
      all_goals
        simp at hc1
        subst hc1
        go_wp2
        go_meet
        case rel => exact ⟨rfl, rfl⟩
    · simp at hc1
      subst hc1
      go_wp2
      go_meet
      case rel => exact ⟨rfl, rfl⟩
  case rest =>
  obtain ⟨rfl, rfl⟩ := hcut
  clear oa ob hc1
  go_upto_if 21 with fail
  go_cut [3] from 22 to 23 (fun t wx => t = .int .i64 S1.1 ∧ ∃ x y, Zc x y S1.2 ∧ Blk wx w.heap.size #[.float .f64 x, .float .f64 y] 55 ∧ Below w.heap.size w wx)
  case first =>
    cases c1
    · go_wp2
      go_meet
      case rel => exact ⟨by rw [HC1.out]; rfl, a, b, by rw [HC1.out]; exact h, BX.out, HX.out⟩
    · go_wp2_with fail
      refine (l4Neg_any _ _ _).mono ?_
      rintro e w1 ⟨rfl, hb1⟩
      have B1 : Hid (Blk w1 w.heap.size #[.float .f64 a, .float .f64 b] 55) := BX.out.old hb1
      have H1 : Hid (Below w.heap.size w w1) := HX.out.trans (hb1.mono HX.out.size)
      have y0 := B1.out.cell (j := 0) rfl
      have y1 := B1.out.cell (j := 1) rfl
      have yf := B1.out.frozen
      clear hb1
      go_wp2
      go_meet
      case rel => exact ⟨by rw [HC1.out]; rfl, _, _, by rw [HC1.out]; exact fc_zc (fc_neg fa) (fc_neg fb), Blk.set (Blk.set B1.out 0 _ rfl) 1 _ rfl, (H1.out.setCell (p := ⟨w.heap.size, 0, none⟩) (Nat.le_refl _) _).setCell (p := ⟨w.heap.size, 1, none⟩) (Nat.le_refl _) _⟩
  case rest =>
  obtain ⟨rfl, x, y, hz, hbk, hbe⟩ := hcut
  clear fa fb h HC1 x0 x1 xf BX HX
  have BX : Hid (Blk wc w.heap.size #[.float .f64 x, .float .f64 y] 55) := hbk
  have HX : Hid (Below w.heap.size w wc) := hbe
  clear hbk hbe
  have x0 := BX.out.cell (j := 0) rfl
  have x1 := BX.out.cell (j := 1) rfl
  have xf := BX.out.frozen
  obtain ⟨fx, fy⟩ := zc_fc hz
  obtain ⟨S2, hS2⟩ : ∃ S, S = an2 S1 := ⟨_, rfl⟩
  obtain ⟨gt1, hgt1⟩ : ∃ g : Bool, g = (FloatKind.f64.format.order x 0 == some .gt) := ⟨_, rfl⟩
  have HS2 : Hid (S2 = if gt1 then S1 else (S1.1 + 262144, (S1.2.2, negO S1.2.1))) := by
    show S2 = _
    rw [hS2, hgt1, gt_fc fx fc_zero]
    rfl
  have HAN : Hid (S2 = an2 (an1 p) ∧ 0 ≤ S2.1 ∧ S2.1 ≤ 1000000) := by
    have e : S2 = an2 (an1 p) := by rw [hS2, HS1.out]
    have := an12_bd p
    rw [← e] at this
    exact ⟨e, this⟩
  have hg1 : (FloatKind.f64.format.order x 0 == some .gt) = gt1 := hgt1.symm
  clear hgt1 hS2
  go_upto_if 27 with fail
  go_cut [3] from 28 to 35 (fun t wx => t = .int .i64 S2.1 ∧ ∃ x y, Zc x y S2.2 ∧ Blk wx w.heap.size #[.float .f64 x, .float .f64 y] 55 ∧ Below w.heap.size w wx)
  case first =>
    cases gt1
    · go_wp2
      go_meet
      case rel => exact ⟨by rw [HS2.out]; rfl, _, _, by rw [HS2.out]; exact fc_zc fy (fc_neg fx), Blk.set (Blk.set BX.out 0 _ rfl) 1 _ rfl, (HX.out.setCell (p := ⟨w.heap.size, 0, none⟩) (Nat.le_refl _) _).setCell (p := ⟨w.heap.size, 1, none⟩) (Nat.le_refl _) _⟩
    · go_wp2
      go_meet
      case rel => exact ⟨by rw [HS2.out]; rfl, x, y, by rw [HS2.out]; exact hz, BX.out, HX.out⟩
  case rest =>
  obtain ⟨rfl, x2, y2, hz2, hbk2, hbe2⟩ := hcut
  clear fx fy hz HS2 hg1 s1a s1b BX HX x0 x1 xf
  obtain ⟨Y, hY⟩ : ∃ Y, Y = wc.alloc (.cells #[.float .f64 0, .float .f64 4607182418800017408] 55) := ⟨_, rfl⟩
  have HY : Hid (Blk Y w.heap.size #[.float .f64 x2, .float .f64 y2] 55 ∧ Blk Y wc.heap.size #[.float .f64 0, .float .f64 4607182418800017408] 55 ∧ Below w.heap.size w Y) := by
    show Blk Y _ _ _ ∧ Blk Y _ _ _ ∧ Below _ _ Y
    rw [hY]
    exact ⟨hbk2.alloc _, Blk.new rfl, hbe2.alloc hbe2.size _⟩
  have HNE : Hid (w.heap.size < wc.heap.size) := hbk2.lt
  clear hbk2 hbe2
  go_wp2_with fail
  rw [← hY]
  clear hY
  obtain ⟨ku, hku⟩ : ∃ k, k = wc.heap.size := ⟨_, rfl⟩
  rw [← hku] at HY HNE ⊢
  clear hku
  have hadd := add_run
  have hquo := quo_run
  have hc1 := cell_opW
  have hc2 := frozen_opW
  have hone : Fc 4607182418800017408 (cl 4607182418800017408) := ⟨by omega, rfl⟩
  have htwo : Fc 4611686018427387904 (cl 4611686018427387904) := ⟨by omega, rfl⟩
  go_loopw [3, 5, 6] (fun t pr i wr => ∃ (q kN x y ua ub : Nat) (pv : Int), q ≤ 18 ∧ i = .int .i64 (kN : Int) ∧ pr = .int .i64 pv ∧ t = .int .i64 (an3 S2 q).1 ∧ Hid (kN = q + 3 ∧ pv = pt q ∧ Zc x y (an3 S2 q).2 ∧ Zc ua ub (uC (q + 1)) ∧ Blk wr w.heap.size #[.float .f64 x, .float .f64 y] 55 ∧ Blk wr ku #[.float .f64 ua, .float .f64 ub] 55 ∧ Below w.heap.size w wr)) (fun _ _ i _ => 21 - (intOf i).toNat)
  case atStart => exact ⟨0, 3, x2, y2, 0, 4607182418800017408, 262144, by omega, rfl, rfl, rfl, rfl, rfl, hz2, ⟨by omega, by omega, rfl⟩, HY.out⟩
  case round =>
    obtain ⟨q, kN, x, y, ua, ub, pv, hq, rfl, rfl, rfl, HW⟩ := hrel
    clear hz2 HY
    obtain ⟨hkN, hpv, hzq, hu, hb1, hb2, hbq⟩ := HW.out
    obtain ⟨tb1, tb2⟩ := an3_bd HAN.out.2.1 HAN.out.2.2 q
    obtain ⟨pb1, pb2⟩ := pt_bd q
    rw [← hpv] at pb1 pb2
    by_cases hq18 : q < 18
    · have hk20 : (kN : Int) ≤ 20 := by omega
      obtain ⟨hA, hB⟩ := zc_fc hu
      have z0 := hb1.cell (j := 0) rfl
      have z1 := hb1.cell (j := 1) rfl
      have u0 := hb2.cell (j := 0) rfl
      have u1 := hb2.cell (j := 1) rfl
      clear hkN hpv hb1 hb2 hbq
      go_wp2_with fail
      refine (sSqrt_fz (fz_op .quo (fz_op .add hone hA _) htwo _) _).mono ?_
      rintro e w3 ⟨xx, qq, rfl, hXX, hw3⟩
      have b3 : Below wr.heap.size wr w3 := by rw [hw3]; exact below_drewN (below_opW (below_opW (Below.refl _ _))) _
      clear hw3
      have B3 : Hid (Blk w3 w.heap.size #[.float .f64 x, .float .f64 y] 55 ∧ Blk w3 ku #[.float .f64 ua, .float .f64 ub] 55 ∧ Below w.heap.size w w3) := ⟨HW.out.2.2.2.2.1.old b3, HW.out.2.2.2.2.2.1.old b3, HW.out.2.2.2.2.2.2.trans (b3.mono HW.out.2.2.2.2.2.2.size)⟩
      clear b3 z0 z1 u0 u1
      have u0 := B3.out.2.1.cell (j := 0) rfl
      have u1 := B3.out.2.1.cell (j := 1) rfl
      have uf := B3.out.2.1.frozen
      obtain ⟨yy, hyy⟩ : ∃ yy, yy = opV .quo ub (opV .add xx xx w3) (opW .add xx xx w3) := ⟨_, rfl⟩
      have hq2 := fz_op .quo hB (fz_op .add hXX hXX w3) (opW .add xx xx w3)
      rw [← hyy] at hq2
      have HYY : Hid (yy = opV .quo ub (opV .add xx xx w3) (opW .add xx xx w3)) := hyy
      have hU2 : Zc xx yy (uC (q + 2)) := ⟨hXX.lx, hq2.lx, by rw [hXX.c, hq2.c]; rfl⟩
      clear hyy
      go_upto_region 15 with fail
      rw [← HYY.out]
      obtain ⟨O, hO⟩ : ∃ O, O = opW .quo ub (opV .add xx xx w3) (opW .add xx xx w3) := ⟨_, rfl⟩
      have bO : Below w3.heap.size w3 O := by rw [hO]; exact below_opW (below_opW (Below.refl _ _))
      rw [← hO]
      clear hO HYY
      obtain ⟨U, hU⟩ : ∃ U, U = (O.setCell ⟨ku, 0, none⟩ (.float .f64 xx)).setCell ⟨ku, 1, none⟩ (.float .f64 yy) := ⟨_, rfl⟩
      have BU : Hid (Blk U w.heap.size #[.float .f64 x, .float .f64 y] 55 ∧ Blk U ku #[.float .f64 xx, .float .f64 yy] 55 ∧ Below w.heap.size w U) := by
        show Blk U _ _ _ ∧ Blk U _ _ _ ∧ Below _ _ U
        rw [hU]
        have hne : w.heap.size ≠ ku := Nat.ne_of_lt HNE.out
        exact ⟨Blk.setOther (p := ⟨ku, 1, none⟩) (Blk.setOther (p := ⟨ku, 0, none⟩) (B3.out.1.old bO) hne _) hne _, Blk.set (Blk.set (B3.out.2.1.old bO) 0 _ rfl) 1 _ rfl, ((B3.out.2.2.trans (bO.mono B3.out.2.2.size)).setCell (p := ⟨ku, 0, none⟩) (Nat.le_of_lt HNE.out) _).setCell (p := ⟨ku, 1, none⟩) (Nat.le_of_lt HNE.out) _⟩
      rw [← hU]
      clear hU bO B3 u0 u1 uf hq2 hXX hA hB
      have z0 := BU.out.1.cell (j := 0) rfl
      have z1 := BU.out.1.cell (j := 1) rfl
      have u0 := BU.out.2.1.cell (j := 0) rfl
      have u1 := BU.out.2.1.cell (j := 1) rfl
      obtain ⟨fxx, fyy⟩ := zc_fc hU2
      have hV2 : Zc xx (Op.negFloat .f64 yy) ((uC (q + 2)).1, negO (uC (q + 2)).2) := fc_zc fxx (fc_neg fyy)
      have pvh : pv.tdiv 2 = pv / 2 := Int.tdiv_eq_ediv_of_nonneg pb1
      go_wp2_with fail
      refine (sMul_any hzq hV2 _).mono ?_
      rintro e w4 ⟨ea, eb, rfl, hzW, hb4⟩
      have B4 : Hid (Blk w4 w.heap.size #[.float .f64 x, .float .f64 y] 55 ∧ Blk w4 ku #[.float .f64 xx, .float .f64 yy] 55 ∧ Below w.heap.size w w4) := ⟨BU.out.1.old hb4, BU.out.2.1.old hb4, BU.out.2.2.trans (hb4.mono BU.out.2.2.size)⟩
      clear hb4 z0 z1 u0 u1 BU fxx fyy hV2
      obtain ⟨V, hV⟩ : ∃ V, V = w4.alloc (.cells #[.float .f64 ea, .float .f64 eb] 55) := ⟨_, rfl⟩
      have BV : Hid (Blk V w.heap.size #[.float .f64 x, .float .f64 y] 55 ∧ Blk V ku #[.float .f64 xx, .float .f64 yy] 55 ∧ Below w.heap.size w V) := by
        show Blk V _ _ _ ∧ Blk V _ _ _ ∧ Below _ _ V
        rw [hV]
        exact ⟨B4.out.1.alloc _, B4.out.2.1.alloc _, B4.out.2.2.alloc B4.out.2.2.size _⟩
      have BE : Hid (Blk V w4.heap.size #[.float .f64 ea, .float .f64 eb] 55) := by show Blk V _ _ _; rw [hV]; exact Blk.new rfl
      have HLT : Hid (w.heap.size < w4.heap.size) := B4.out.1.lt
      have HZW : Hid (Zc ea eb (anW (an3 S2 q) q)) := hzW
      obtain ⟨_, feb⟩ := zc_fc hzW
      obtain ⟨g, hg⟩ : ∃ g : Bool, g = (FloatKind.f64.format.order eb 0 == some .gt || FloatKind.f64.format.order eb 0 == some .eq) := ⟨_, rfl⟩
      have HG : Hid (an3 S2 (q + 1) = if g then ((an3 S2 q).1 + pw q, anW (an3 S2 q) q) else an3 S2 q) := by
        show an3 S2 (q + 1) = _
        rw [hg, ge_fc feb fc_zero]
        rfl
      have hge : (FloatKind.f64.format.order eb 0 == some .gt || FloatKind.f64.format.order eb 0 == some .eq) = g := hg.symm
      have HPV : Hid (pv / 2 = pw q) := by show pv / 2 = pw q; rw [HW.out.2.1]; exact pt_half q
      have HKN : Hid (kN = q + 3) := HW.out.1
      have HZQ : Hid (Zc x y (an3 S2 q).2) := hzq
      have HU2 : Hid (Zc xx yy (uC (q + 2))) := hU2
      clear hg hzW feb B4 hzq hU2 hu HW
      go_upto_region 17 with fail
      rw [← hV]
      clear hV
      have v0 := BE.out.cell (j := 0) rfl
      have v1 := BE.out.cell (j := 1) rfl
      have z0 := BV.out.1.cell (j := 0) rfl
      have z1 := BV.out.1.cell (j := 1) rfl
      have zf := BV.out.1.frozen
      cases g
      · go_wp2
        go_roundw
        case rel => exact ⟨q + 1, kN + 1, x, y, xx, yy, pv / 2, by omega, by simp, rfl, by rw [HG.out]; rfl, by have := HKN.out; omega, by rw [HPV.out]; rfl, by rw [HG.out]; exact HZQ.out, HU2.out, BV.out⟩
        case measure => simp [intOf]; omega
      · have pwb := pw_bd q
        have HP : Hid (wrap64 ((an3 S2 q).1 + pv / 2) = (an3 S2 (q + 1)).1 ∧ (an3 S2 q).1 + pv / 2 = (an3 S2 (q + 1)).1) := by
          show wrap64 ((an3 S2 q).1 + pv / 2) = (an3 S2 (q + 1)).1 ∧ _
          rw [HPV.out, HG.out]
          exact ⟨wrap_small (x := (an3 S2 q).1 + pw q) (by omega) (by omega), rfl⟩
        clear pwb
        go_wp2
        have hne : ku ≠ w.heap.size := Nat.ne_of_gt HNE.out
        refine ⟨⟨q + 1, kN + 1, ea, eb, xx, yy, pv / 2, by omega, by simp, rfl, by rw [HP.out.2], by have := HKN.out; omega, by rw [HPV.out]; rfl, by rw [HG.out]; exact HZW.out, HU2.out, Blk.set (Blk.set BV.out.1 0 _ rfl) 1 _ rfl, Blk.setOther (p := ⟨w.heap.size, 1, none⟩) (Blk.setOther (p := ⟨w.heap.size, 0, none⟩) BV.out.2.1 hne _) hne _, (BV.out.2.2.setCell (p := ⟨w.heap.size, 0, none⟩) (Nat.le_refl _) _).setCell (p := ⟨w.heap.size, 1, none⟩) (Nat.le_refl _) _⟩, by simp [intOf]; omega⟩
    · obtain rfl : q = 18 := by omega
      have hk20 : ¬((kN : Int) ≤ 20) := by omega
      have HE : Hid ((an3 S2 18).1 = angC p) := by show (an3 S2 18).1 = angC p; rw [HAN.out.1]; rfl
      clear hkN hpv hzq hu hb1 hb2
      go_wp2
      go_ret
      exact ⟨congrArg (fun n => Ending.returned (Value.int .i64 n)) HE.out, HW.out.2.2.2.2.2.2⟩
end Go.Proofs.Ytbagaicbochmnaa
