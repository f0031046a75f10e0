/- Spots: the specification. -/
import Derived.Test.YtcmgafgboepllaaSo
namespace Go.Proofs.Ytcmgafgboepllaa
open Go.RowKit Fl
set_option linter.unusedVariables false
set_option linter.unusedSimpArgs false
set_option maxRecDepth 20000 in
theorem sSpot_many (ao : Option Addr) (n cap : Nat) (hn : n ≤ 1000000000000) (h : 400 < n) (w : World) : SV 11 #[.slice ao n cap] w 2 (fun _ => zO) := by
  unfold SV
  have hst := st64
  have hI : (400 : Int) < n := by omega
  go_enter Try.func11, Try.ntmps11
  go_wp2
  refine bodyPost_ret (v := Sp 2 (fun _ => 0)) (by simp [results, Try.results11, go_sem]) rfl ?_
  exact ⟨fun _ => 0, rfl, fun j _ => fc_zero, by go_grown⟩
set_option maxRecDepth 20000 in
theorem sSpot_zero (ao : Option Addr) (cap : Nat) (w : World) : SV 11 #[.slice ao 0 cap] w 1 (fun _ => zO) := by
  unfold SV
  have hst := st64
  go_enter Try.func11, Try.ntmps11
  go_wp2
  refine bodyPost_ret (v := Sp 1 (fun _ => 0)) (by simp [results, Try.results11, go_sem]) rfl ?_
  exact ⟨fun _ => 0, rfl, fun j _ => fc_zero, by go_grown⟩
set_option maxRecDepth 20000 in
set_option maxHeartbeats 6400000 in
theorem sSpot_ok (bi off n cap : Nat) (G : Nat → Nat → Nat) (w : World) (hn : n ≤ 400) (h0 : 1 ≤ n) (hcell : ∀ i, i < n → ∀ j, j < 2 → w.cell? ⟨bi, off + i * 2 + j, none⟩ = some (fcl (G i) j)) (hG : ∀ i, i < n → ∀ j, j < 2 → W64 (G i j)) :
    SV 11 #[.slice (some ⟨bi, off, none⟩) n cap] w 0 (spC G n) := by
  unfold SV
  have HC : Hid (∀ i, i < n → ∀ j, j < 2 → w.cell? ⟨bi, off + i * 2 + j, none⟩ = some (fcl (G i) j)) := hcell
  have HG : Hid (∀ i, i < n → ∀ j, j < 2 → W64 (G i j)) := hG
  have hcv := conv3
  have hst := st64
  have hnI : ¬ (400 : Int) < n := by omega
  have hnz : ¬ (n : Int) = 0 := by omega
  have hnz2 : ¬ n = 0 := by omega
  have S0 : Hid (X2 w (((w.alloc (.cells #[.int .i64 0, .float .f64 0, .float .f64 0, .float .f64 0] 26)).alloc (.cells #[] 24)).alloc (.cells #[] 24)) (.slice (some ⟨w.heap.size + 1, 0, none⟩) 0 0) (.slice (some ⟨w.heap.size + 1 + 1, 0, none⟩) 0 0) (fun i => G i 0) (fun i => G i 1) 0 0) := by
    have a := owns_empty (w.alloc (.cells #[.int .i64 0, .float .f64 0, .float .f64 0, .float .f64 0] 26)) 24 1
    have b := owns_empty ((w.alloc (.cells #[.int .i64 0, .float .f64 0, .float .f64 0, .float .f64 0] 26)).alloc (.cells #[] 24)) 24 1
    have a2 := a.alloc (.cells #[] 24)
    refine ⟨?_, ?_, fun q h1 h2 => ?_, ((Blk.new rfl).alloc _).alloc _, (((Below.refl _ _).alloc (Nat.le_refl _) _).alloc (by simp) _).alloc (by simp; omega) _⟩
    · have e0 : fl (fun i => G i 0) 0 = [] := rfl
      rw [e0]
      simpa using a2
    · refine ⟨rfl, Or.inr ⟨w.heap.size + 1 + 1, 0, #[], rfl, by omega, ?_, Nat.le_refl _, Nat.zero_le _, rfl, rfl⟩⟩
      have := heap_alloc2_new (w.alloc (.cells #[.int .i64 0, .float .f64 0, .float .f64 0, .float .f64 0] 26)) (.cells #[] 24) (.cells #[] 24)
      simpa using this
    · simp [Value.ownBlock] at h1 h2
      omega
  clear hcell hG
  go_enter Try.func11, Try.ntmps11
  go_wp2_with fail
  obtain ⟨W1, hW1⟩ : ∃ W, W = (((w.alloc (.cells #[.int .i64 0, .float .f64 0, .float .f64 0, .float .f64 0] 26)).alloc (.cells #[] 24)).alloc (.cells #[] 24)) := ⟨_, rfl⟩
  rw [← hW1] at S0 ⊢
  clear hW1
  go_loopw [4, 5, 6] (fun vx vy i wx => ∃ k : Nat, k ≤ n ∧ i = .int .i64 (k : Int) ∧ Hid (X2 w wx vx vy (fun i => G i 0) (fun i => G i 1) k k)) (fun _ _ i _ => n - (intOf i).toNat)
  case atStart => exact ⟨0, Nat.zero_le _, rfl, S0⟩
  case round =>
    clear S0
    obtain ⟨k, hk, rfl, HK⟩ := hrel
    by_cases hkn : k < n
    · have hkI : (k : Int) < n := by omega
      have g1 : wr.cell? ⟨bi, off + k * 2, none⟩ = some (.float .f64 (G k 0)) := (HK.out.be.cell (World.block_lt_of_cell? _ _ (HC.out k hkn 0 (by omega)))).trans (HC.out k hkn 0 (by omega))
      have z1 : w.heap.size + 1 ≤ wr.heap.size := HK.out.res.lt
      go_upto_region 12 with (first | (at_builtin; refine push_at rfl (.tmp 32) (.tmp 38) 34 rfl 24 (.float .f64 0) 1 8 Try.underlying34 info24 rfl (by decide) (by decide) wr [.float .f64 (G k 0)] rfl (by simp [Value.oneCell']) (w.heap.size + 1) u4 k _ rfl HK.out.ox 1 rfl (by omega) z1 ?_; intro v1 w1 own1 grow1 nn1 pl1))
      have HK1 : Hid (X2 w w1 v1 u5 (fun i => G i 0) (fun i => G i 1) (k + 1) k) := HK.out.step own1 grow1 pl1
      clear own1 grow1 nn1 pl1 g1 z1
      have g2 : w1.cell? ⟨bi, off + k * 2 + 1, none⟩ = some (.float .f64 (G k 1)) := (HK1.out.be.cell (World.block_lt_of_cell? _ _ (HC.out k hkn 1 (by omega)))).trans (HC.out k hkn 1 (by omega))
      have z2 : w.heap.size + 1 ≤ w1.heap.size := HK1.out.res.lt
      clear HK
      go_upto_region 10 with (first | (at_builtin; refine push_at rfl (.tmp 40) (.tmp 46) 34 rfl 24 (.float .f64 0) 1 8 Try.underlying34 info24 rfl (by decide) (by decide) w1 [.float .f64 (G k 1)] rfl (by simp [Value.oneCell']) (w.heap.size + 1) u5 k _ rfl HK1.out.oy 1 rfl (by omega) z2 ?_; intro v2 w2 own2 grow2 nn2 pl2))
      have HN : Hid (X2 w w2 v1 v2 (fun i => G i 0) (fun i => G i 1) (k + 1) (k + 1)) := (HK1.out.swap.step own2 grow2 pl2).swap
      clear own2 grow2 nn2 pl2 g2 z2 HK1
      go_wp2
      exact ⟨⟨k + 1, by omega, by simp, HN⟩, by simp [intOf]; omega⟩
    · obtain rfl : k = n := by omega
      have hkI : ¬ (k : Int) < k := by omega
      have KK : Hid (X2 w wr u4 u5 (fun i => G i 0) (fun i => G i 1) k k) := HK
      clear HK
      obtain ⟨wq, hwq⟩ : ∃ W, W = wr := ⟨_, rfl⟩
      subst hwq
      obtain ⟨xo, xc, hx⟩ : ∃ g c, u4 = .slice (some ⟨g, 0, none⟩) k c := by
        obtain ⟨_, h | ⟨g, cap, cur, hv, _⟩⟩ := KK.out.ox
        · omega
        · exact ⟨g, cap, hv⟩
      obtain ⟨yo, yc, hy⟩ : ∃ g c, u5 = .slice (some ⟨g, 0, none⟩) k c := by
        obtain ⟨_, h | ⟨g, cap, cur, hv, _⟩⟩ := KK.out.oy
        · omega
        · exact ⟨g, cap, hv⟩
      subst hx
      subst hy
      have RX : Hid (∀ W, Below wq.heap.size wq W → ∀ i, i < k → W.cell? ⟨xo, 0 + i, none⟩ = some (.float .f64 (G i 0))) := fun W hb i hi => by
        have h := (owned_seg (F := fun i => .float .f64 (G i 0)) KK.out.ox (fun i hi => by simp [fl, hi]))
        rcases h with ⟨h, _⟩ | ⟨g, cap, e, _, _, hs⟩
        · cases h
        · simp at e
          obtain ⟨rfl, _⟩ := e
          exact (hs.below hb).cell hi
      have RY : Hid (∀ W, Below wq.heap.size wq W → ∀ i, i < k → W.cell? ⟨yo, 0 + i, none⟩ = some (.float .f64 (G i 1))) := fun W hb i hi => by
        have h := (owned_seg (F := fun i => .float .f64 (G i 1)) KK.out.oy (fun i hi => by simp [fl, hi]))
        rcases h with ⟨h, _⟩ | ⟨g, cap, e, _, _, hs⟩
        · cases h
        · simp at e
          obtain ⟨rfl, _⟩ := e
          exact (hs.below hb).cell hi
      go_wp2_with fail
      refine (sSum_any xo 0 k xc (fun i => G i 0) wq (by omega) (RX.out wq (Below.refl _ _)) (fun i hi => HG.out i hi 0 (by omega))).mono ?_
      rintro e w1 ⟨s1, rfl, f1, b1⟩
      have A1 : Hid (Below wq.heap.size wq w1 ∧ Fc s1 (fsumC (fun i => G i 0) k)) := ⟨b1, f1⟩
      clear b1 f1
      obtain ⟨m1, qm1, r1, fm1⟩ := flop .quo (by simp) A1.out.2 (fc_own (mk_lt (k : Int))) w1
      obtain ⟨w2, hw2⟩ : ∃ X, X = w1.drewN qm1 := ⟨_, rfl⟩
      rw [← hw2] at r1
      have Dw2 : Hid (Below w1.heap.size w1 w2) := by show Below _ _ _; rw [hw2]; exact below_drewN (Below.refl _ _) _
      have Fm1 : Hid (Fc m1 _) := fm1
      clear hw2 fm1
      have B2 : Hid (Below wq.heap.size wq w2) := A1.out.1.trans (Dw2.out.mono A1.out.1.size)
      go_wp2_with fail
      clear r1
      refine (sSum_any yo 0 k yc (fun i => G i 1) w2 (by omega) (RY.out w2 B2.out) (fun i hi => HG.out i hi 1 (by omega))).mono ?_
      rintro e w3 ⟨s2, rfl, f2, b2⟩
      have A3 : Hid (Below wq.heap.size wq w3 ∧ Fc s2 (fsumC (fun i => G i 1) k)) := ⟨B2.out.trans (b2.mono B2.out.size), f2⟩
      clear b2 f2
      obtain ⟨m2, qm2, r2, fm2⟩ := flop .quo (by simp) A3.out.2 (fc_own (mk_lt (k : Int))) w3
      obtain ⟨w4, hw4⟩ : ∃ X, X = w3.drewN qm2 := ⟨_, rfl⟩
      rw [← hw4] at r2
      have Dw4 : Hid (Below w3.heap.size w3 w4) := by show Below _ _ _; rw [hw4]; exact below_drewN (Below.refl _ _) _
      have Fm2 : Hid (Fc m2 _) := fm2
      clear hw4 fm2
      have B4 : Hid (Below wq.heap.size wq w4) := A3.out.1.trans (Dw4.out.mono A3.out.1.size)
      have MX : Hid (Fc m1 (mnC (fun i => G i 0) k) ∧ Fc m2 (mnC (fun i => G i 1) k)) := ⟨Fm1.out, Fm2.out⟩
      obtain ⟨MA, hMA⟩ : ∃ M, M = mnC (fun i => G i 0) k := ⟨_, rfl⟩
      obtain ⟨MB, hMB⟩ : ∃ M, M = mnC (fun i => G i 1) k := ⟨_, rfl⟩
      have HMM : Hid (MA = mnC (fun i => G i 0) k ∧ MB = mnC (fun i => G i 1) k) := ⟨hMA, hMB⟩
      rw [← hMA, ← hMB] at MX
      clear hMA hMB Fm1 Fm2 RX RY A1 A3 B2 Dw2 Dw4
      go_wp2_with fail
      clear r2
      go_loopw [9, 10] (fun s i wx => ∃ j y : Nat, j ≤ k ∧ i = .int .i64 (j : Int) ∧ s = .float .f64 y ∧ Hid (Fc y (dsC G MA MB j) ∧ Below wq.heap.size wq wx)) (fun _ i _ => k - (intOf i).toNat)
      case atStart => exact ⟨0, 0, Nat.zero_le _, rfl, rfl, fc_zero, B4.out⟩
      case round =>
        obtain ⟨j, y, hj, rfl, rfl, HY⟩ := hrel
        by_cases hjk : j < k
        · have hjI : (j : Int) < k := by omega
          have W0 : W64 (G j 0) := HG.out j hjk 0 (by omega)
          have W1 : W64 (G j 1) := HG.out j hjk 1 (by omega)
          have BW : Hid (Below w.heap.size w wr) := KK.out.be.trans (HY.out.2.mono KK.out.be.size)
          have g1 : wr.cell? ⟨bi, off + j * 2, none⟩ = some (.float .f64 (G j 0)) := (BW.out.cell (World.block_lt_of_cell? _ _ (HC.out j hjk 0 (by omega)))).trans (HC.out j hjk 0 (by omega))
          obtain ⟨x1, qx1, t1, fx1⟩ := flop .sub (by simp) (fc_own W0) MX.out.1 wr
          obtain ⟨v1, hv1⟩ : ∃ X, X = wr.drewN qx1 := ⟨_, rfl⟩
          rw [← hv1] at t1
          have Dv1 : Hid (Below wr.heap.size wr v1) := by show Below _ _ _; rw [hv1]; exact below_drewN (Below.refl _ _) _
          have Fx1 : Hid (Fc x1 _) := fx1
          clear hv1 fx1
          have g2 : v1.cell? ⟨bi, off + j * 2 + 1, none⟩ = some (.float .f64 (G j 1)) := by
            have hb := BW.out.trans (Dv1.out.mono BW.out.size)
            exact (hb.cell (World.block_lt_of_cell? _ _ (HC.out j hjk 1 (by omega)))).trans (HC.out j hjk 1 (by omega))
          obtain ⟨x2, qx2, t2, fx2⟩ := flop .sub (by simp) (fc_own W1) MX.out.2 v1
          obtain ⟨v2, hv2⟩ : ∃ X, X = v1.drewN qx2 := ⟨_, rfl⟩
          rw [← hv2] at t2
          have Dv2 : Hid (Below v1.heap.size v1 v2) := by show Below _ _ _; rw [hv2]; exact below_drewN (Below.refl _ _) _
          have Fx2 : Hid (Fc x2 _) := fx2
          clear hv2 fx2
          obtain ⟨p1, qp1, t3, fp1⟩ := flop .mul (by simp) Fx1.out Fx1.out v2
          obtain ⟨v3, hv3⟩ : ∃ X, X = v2.drewN qp1 := ⟨_, rfl⟩
          rw [← hv3] at t3
          have Dv3 : Hid (Below v2.heap.size v2 v3) := by show Below _ _ _; rw [hv3]; exact below_drewN (Below.refl _ _) _
          have Fp1 : Hid (Fc p1 _) := fp1
          clear hv3 fp1
          obtain ⟨p2, qp2, t4, fp2⟩ := flop .mul (by simp) Fx2.out Fx2.out v3
          obtain ⟨v4, hv4⟩ : ∃ X, X = v3.drewN qp2 := ⟨_, rfl⟩
          rw [← hv4] at t4
          have Dv4 : Hid (Below v3.heap.size v3 v4) := by show Below _ _ _; rw [hv4]; exact below_drewN (Below.refl _ _) _
          have Fp2 : Hid (Fc p2 _) := fp2
          clear hv4 fp2
          obtain ⟨p3, qp3, t5, fp3⟩ := flop .add (by simp) Fp1.out Fp2.out v4
          obtain ⟨v5, hv5⟩ : ∃ X, X = v4.drewN qp3 := ⟨_, rfl⟩
          rw [← hv5] at t5
          have Dv5 : Hid (Below v4.heap.size v4 v5) := by show Below _ _ _; rw [hv5]; exact below_drewN (Below.refl _ _) _
          have Fp3 : Hid (Fc p3 _) := fp3
          clear hv5 fp3
          obtain ⟨p4, qp4, t6, fp4⟩ := flop .add (by simp) HY.out.1 Fp3.out v5
          obtain ⟨v6, hv6⟩ : ∃ X, X = v5.drewN qp4 := ⟨_, rfl⟩
          rw [← hv6] at t6
          have Dv6 : Hid (Below v5.heap.size v5 v6) := by show Below _ _ _; rw [hv6]; exact below_drewN (Below.refl _ _) _
          have Fp4 : Hid (Fc p4 _) := fp4
          clear hv6 fp4
          have HN : Hid (Fc p4 (dsC G MA MB (j + 1)) ∧ Below wq.heap.size wq v6) := by
            refine ⟨Fp4.out, ?_⟩
            have e1 := HY.out.2.trans (Dv1.out.mono HY.out.2.size)
            have e2 := e1.trans (Dv2.out.mono e1.size)
            have e3 := e2.trans (Dv3.out.mono e2.size)
            have e4 := e3.trans (Dv4.out.mono e3.size)
            have e5 := e4.trans (Dv5.out.mono e4.size)
            exact e5.trans (Dv6.out.mono e5.size)
          clear HY Fx1 Fx2 Fp1 Fp2 Fp3 Fp4 Dv1 Dv2 Dv3 Dv4 Dv5 Dv6 BW W0 W1
          go_wp2
          exact ⟨⟨j + 1, p4, by omega, by simp, rfl, HN⟩, by simp [intOf]; omega⟩
        · obtain rfl : j = k := by omega
          have hjI : ¬ (j : Int) < j := by omega
          clear HC
          obtain ⟨z, qz, t1, fz⟩ := flop .quo (by simp) HY.out.1 (fc_own (mk_lt (j : Int))) wr
          obtain ⟨v1, hv1⟩ : ∃ X, X = wr.drewN qz := ⟨_, rfl⟩
          rw [← hv1] at t1
          have Dv1 : Hid (Below wr.heap.size wr v1) := by show Below _ _ _; rw [hv1]; exact below_drewN (Below.refl _ _) _
          have Fz : Hid (Fc z _) := fz
          clear hv1 fz
          have B1 : Hid (Below wq.heap.size wq v1) := HY.out.2.trans (Dv1.out.mono HY.out.2.size)
          go_wp2_with fail
          clear t1
          refine (sSqrt_fc Fz.out v1).mono ?_
          rintro e w7 ⟨rt, rfl, ft, b7⟩
          have R7 := (KK.out.res.old B1.out).old b7
          have FT : Hid (Fc rt (rmC G MA MB j) ∧ Below w.heap.size w w7) := ⟨ft, (KK.out.be.trans (B1.out.mono KK.out.be.size)).trans (b7.mono (Nat.le_trans KK.out.be.size B1.out.size))⟩
          have d0 := R7.cell (j := 0) (v := .int .i64 0) rfl
          have d1 := R7.cell (j := 1) (v := .float .f64 0) rfl
          have d2 := R7.cell (j := 2) (v := .float .f64 0) rfl
          have d3 := R7.cell (j := 3) (v := .float .f64 0) rfl
          have e0 := R7.frozen 0
          have e1 := R7.frozen 1
          have e2 := R7.frozen 2
          have e3 := R7.frozen 3
          clear R7 ft b7 KK B1 Dv1 HG Fz
          go_wp2
          refine bodyPost_ret (v := Sp 0 (r3 m1 m2 rt)) (by simp [results, Try.results11, go_sem, r3, d0, d1, d2, d3, e0, e1, e2, e3]) rfl ?_
          refine ⟨_, rfl, ?_, (((FT.out.2.setCell (Nat.le_refl _) _).setCell (Nat.le_refl _) _).setCell (Nat.le_refl _) _).setCell (Nat.le_refl _) _⟩
          obtain ⟨hA, hB⟩ := HMM.out
          intro l hl
          match l, hl with
          | 0, _ => have := MX.out.1; rw [hA] at this; exact this
          | 1, _ => have := MX.out.2; rw [hB] at this; exact this
          | 2, _ => have := FT.out.1; rw [hA, hB] at this; exact this
end Go.Proofs.Ytcmgafgboepllaa
