/- Spots: the program's small functions. -/
import Derived.Test.YtcmgafgboepllaaSo
namespace Go.Proofs.Ytcmgafgboepllaa
open Go.RowKit Fl
set_option linter.unusedVariables false
set_option linter.unusedSimpArgs false
set_option maxRecDepth 20000 in
theorem sqr_any {a b : Nat} {A B : Option Nat} (ha : Fc a A) (hb : Fc b B) (w : World) : FV 60 #[.float .f64 a, .float .f64 b] w (opC .add (opC .mul A A) (opC .mul B B)) := by
  unfold FV
  obtain ⟨p1, qp1, t1, fp1⟩ := flop .mul (by simp) ha ha w
  obtain ⟨v1, hv1⟩ : ∃ X, X = w.drewN qp1 := ⟨_, rfl⟩
  rw [← hv1] at t1
  have Dv1 : Hid (Below w.heap.size w v1) := by show Below _ _ _; rw [hv1]; exact below_drewN (Below.refl _ _) _
  have Fp1 : Hid (Fc p1 _) := fp1
  clear hv1 fp1
  obtain ⟨p2, qp2, t2, fp2⟩ := flop .mul (by simp) hb hb v1
  obtain ⟨v2, hv2⟩ : ∃ X, X = v1.drewN qp2 := ⟨_, rfl⟩
  rw [← hv2] at t2
  have Dv2 : Hid (Below v1.heap.size v1 v2) := by show Below _ _ _; rw [hv2]; exact below_drewN (Below.refl _ _) _
  have Fp2 : Hid (Fc p2 _) := fp2
  clear hv2 fp2
  obtain ⟨p3, qp3, t3, fp3⟩ := flop .add (by simp) Fp1.out Fp2.out v2
  obtain ⟨v3, hv3⟩ : ∃ X, X = v2.drewN qp3 := ⟨_, rfl⟩
  rw [← hv3] at t3
  have Dv3 : Hid (Below v2.heap.size v2 v3) := by show Below _ _ _; rw [hv3]; exact below_drewN (Below.refl _ _) _
  have Fp3 : Hid (Fc p3 _) := fp3
  clear hv3 fp3
  have HB : Hid (Below w.heap.size w v3) := (Dv1.out.trans (Dv2.out.mono Dv1.out.size)).trans (Dv3.out.mono (Nat.le_trans Dv1.out.size Dv2.out.size))
  clear Dv1 Dv2 Dv3 ha hb Fp1 Fp2
  go_enter Try.func60, Try.ntmps60
  go_wp2
  go_ret
  exact ⟨p3, rfl, Fp3.out, HB.out⟩
/-- What the closure has caught: two lists and two numbers. -/
structure Ct (W : World) (px pX py pY gx gy n : Nat) (G : Nat → Nat → Nat) (mx my : Nat) : Prop where
  cx : W.cell? ⟨px, 0, none⟩ = some (.slice (some ⟨gx, 0, none⟩) n n)
  cy : W.cell? ⟨py, 0, none⟩ = some (.slice (some ⟨gy, 0, none⟩) n n)
  cX : W.cell? ⟨pX, 0, none⟩ = some (.float .f64 mx)
  cY : W.cell? ⟨pY, 0, none⟩ = some (.float .f64 my)
  rx : ∀ i, i < n → W.cell? ⟨gx, i, none⟩ = some (.float .f64 (G i 0))
  ry : ∀ i, i < n → W.cell? ⟨gy, i, none⟩ = some (.float .f64 (G i 1))
theorem Ct.later {W W' : World} {px pX py pY gx gy n : Nat} {G : Nat → Nat → Nat} {mx my : Nat} (h : Ct W px pX py pY gx gy n G mx my) (b : Below W.heap.size W W') : Ct W' px pX py pY gx gy n G mx my := by
  have k : ∀ {p : Addr} {v : Value}, W.cell? p = some v → W'.cell? p = some v := fun hv => (b.cell (World.block_lt_of_cell? _ _ hv)).trans hv
  exact ⟨k h.cx, k h.cy, k h.cX, k h.cY, fun i hi => k (h.rx i hi), fun i hi => k (h.ry i hi)⟩
set_option maxRecDepth 20000 in
set_option maxHeartbeats 3200000 in
theorem told_any {w : World} {px pX py pY gx gy n : Nat} {G : Nat → Nat → Nat} {mx my : Nat} {X Y : Option Nat} (h : Ct w px pX py pY gx gy n G mx my) (hX : Fc mx X) (hY : Fc my Y) (hG : ∀ i, i < n → ∀ j, j < 2 → W64 (G i j)) (hn : n ≤ 400) {i : Nat} (hi : i < n) :
    FV 59 #[.int .i64 i, .pointer (some ⟨px, 0, none⟩), .pointer (some ⟨pX, 0, none⟩), .pointer (some ⟨py, 0, none⟩), .pointer (some ⟨pY, 0, none⟩)] w (dvC G X Y i) := by
  unfold FV
  have HF : Hid (Fc mx X ∧ Fc my Y ∧ W64 (G i 0) ∧ W64 (G i 1)) := ⟨hX, hY, hG i hi 0 (by omega), hG i hi 1 (by omega)⟩
  have H0 : Hid (w.cell? ⟨px, 0, none⟩ = some (.slice (some ⟨gx, 0, none⟩) n n) ∧ w.cell? ⟨py, 0, none⟩ = some (.slice (some ⟨gy, 0, none⟩) n n) ∧ w.cell? ⟨pX, 0, none⟩ = some (.float .f64 mx) ∧ w.cell? ⟨pY, 0, none⟩ = some (.float .f64 my) ∧ w.cell? ⟨gx, i, none⟩ = some (.float .f64 (G i 0)) ∧ w.cell? ⟨gy, i, none⟩ = some (.float .f64 (G i 1))) := ⟨h.cx, h.cy, h.cX, h.cY, h.rx i hi, h.ry i hi⟩
  have hiI : (i : Int) < n := by omega
  have hsub := sub_run
  obtain ⟨g0, hg0⟩ : ∃ g, g = G i 0 := ⟨_, rfl⟩
  obtain ⟨g1, hg1⟩ : ∃ g, g = G i 1 := ⟨_, rfl⟩
  rw [← hg0, ← hg1] at HF H0
  have HE : Hid (g0 = G i 0 ∧ g1 = G i 1) := ⟨hg0, hg1⟩
  have HQ : Hid (∀ W V V', Calls Try.prog 60 #[.float .f64 (opV .sub g0 mx V), .float .f64 (opV .sub g1 my V')] W fun e w' => ∃ v, e = .returned (.float .f64 v) ∧ Fc v (dvC G X Y i) ∧ Below W.heap.size W w') := fun W V V' => by
    have := sqr_any (fc_op .sub (fc_own HF.out.2.2.1) HF.out.1 V) (fc_op .sub (fc_own HF.out.2.2.2) HF.out.2.1 V') W
    rw [HE.out.1, HE.out.2] at this
    rw [HE.out.1, HE.out.2]
    exact this
  clear h hX hY hG hg0 hg1
  have old : ∀ {p : Addr} {v : Value}, w.cell? p = some v → ∀ W, Below w.heap.size w W → W.cell? p = some v := fun hv W b => (b.cell (World.block_lt_of_cell? _ _ hv)).trans hv
  have c1 := old H0.out.1
  have c2 := old H0.out.2.1
  have c3 := old H0.out.2.2.1
  have c4 := old H0.out.2.2.2.1
  have c5 := old H0.out.2.2.2.2.1
  have c6 := old H0.out.2.2.2.2.2
  clear old H0 HF HE
  go_enter Try.func59, Try.ntmps59
  go_wp2_with fail
  go_region_held (fun W => Below w.heap.size w W) (first | assumption | exact (Below.refl _ _).drew | exact Below.drew ‹_› | exact below_opW ‹_›)
    (first | (go_at_call 60; refine (HQ.out _ _ _).mono ?_; rintro e w1 ⟨v, rfl, hv, hb1⟩; have hR1 := box_step ‹_› hb1 (Nat.le_refl _)))
  all_goals
    have HZ : Hid (Fc v (dvC G X Y i) ∧ Below w.heap.size w w1) := ⟨hv, hR1⟩
    clear hv hb1 hR1 c1 c2 c3 c4 c5 c6 HQ
    go_wp2
    go_ret
    exact ⟨v, rfl, HZ.out.1, HZ.out.2⟩
abbrev Cl (px pX py pY : Nat) : Value := .func (.func 59) #[] #[.pointer (some ⟨px, 0, none⟩), .pointer (some ⟨pX, 0, none⟩), .pointer (some ⟨py, 0, none⟩), .pointer (some ⟨pY, 0, none⟩)]
set_option maxRecDepth 20000 in
set_option maxHeartbeats 3200000 in
theorem sumOver_any {w : World} {px pX py pY gx gy n : Nat} {G : Nat → Nat → Nat} {mx my : Nat} {X Y : Option Nat} (h : Ct w px pX py pY gx gy n G mx my) (hX : Fc mx X) (hY : Fc my Y) (hG : ∀ i, i < n → ∀ j, j < 2 → W64 (G i j)) (hn : n ≤ 400) :
    FV 90 #[.int .i64 n, Cl px pX py pY] w (dsC G X Y n) := by
  unfold FV
  have HT : Hid (∀ k, k < n → ∀ W, Below w.heap.size w W → FV 59 #[.int .i64 k, .pointer (some ⟨px, 0, none⟩), .pointer (some ⟨pX, 0, none⟩), .pointer (some ⟨py, 0, none⟩), .pointer (some ⟨pY, 0, none⟩)] W (dvC G X Y k)) := fun k hk W b => told_any (h.later b) hX hY hG hn hk
  clear h hX hY hG
  go_enter Try.func90, Try.ntmps90
  go_wp2_with fail
  go_loopw [5, 8] (fun z i wx => ∃ (k y : Nat), k ≤ n ∧ i = .int .i64 (k : Int) ∧ z = .float .f64 y ∧ Hid (Fc y (dsC G X Y k) ∧ Below w.heap.size w wx)) (fun _ i _ => n - (intOf i).toNat)
  case atStart => exact ⟨0, 0, Nat.zero_le _, rfl, rfl, fc_zero, Below.refl _ _⟩
  case round =>
    obtain ⟨k, y, hk, rfl, rfl, HK⟩ := hrel
    by_cases hkn : k < n
    · have hkI : (k : Int) < n := by omega
      go_wp2_with fail
      refine (HT.out k hkn wr HK.out.2).mono ?_
      rintro e w1 ⟨v, rfl, fv, b1⟩
      obtain ⟨z, qz, rz, fz⟩ := flop .add (by simp) HK.out.1 fv w1
      obtain ⟨w2, hw2⟩ : ∃ W, W = w1.drewN qz := ⟨_, rfl⟩
      rw [← hw2] at rz
      have HN : Hid (Fc z (dsC G X Y (k + 1)) ∧ Below w.heap.size w w2) := ⟨fz, by rw [hw2]; exact below_drewN (HK.out.2.trans (b1.mono HK.out.2.size)) _⟩
      clear hw2 fv b1 fz HK
      go_wp2
      exact ⟨⟨k + 1, z, by omega, by simp, rfl, HN⟩, by simp [intOf]; omega⟩
    · obtain rfl : k = n := by omega
      have hkI : ¬ (k : Int) < k := by omega
      clear HT
      go_wp2
      go_ret
      exact ⟨y, rfl, HK.out.1, HK.out.2⟩
set_option maxRecDepth 20000 in
theorem rootOf_any {w : World} {px pX py pY gx gy n : Nat} {G : Nat → Nat → Nat} {mx my : Nat} {X Y : Option Nat} (h : Ct w px pX py pY gx gy n G mx my) (hX : Fc mx X) (hY : Fc my Y) (hG : ∀ i, i < n → ∀ j, j < 2 → W64 (G i j)) (hn : n ≤ 400) :
    FV 58 #[.int .i64 n, Cl px pX py pY] w (rmC G X Y n) := by
  have HS : Hid (FV 90 #[.int .i64 n, Cl px pX py pY] w (dsC G X Y n)) := sumOver_any h hX hY hG hn
  unfold FV
  have hcv := conv3
  clear h hX hY hG
  go_enter Try.func58, Try.ntmps58
  go_wp2_with fail
  refine HS.out.mono ?_
  rintro e w1 ⟨v, rfl, fv, b1⟩
  obtain ⟨z, qz, rz, fz⟩ := flop .quo (by simp) fv (fc_own (mk_lt (n : Int))) w1
  obtain ⟨w2, hw2⟩ : ∃ W, W = w1.drewN qz := ⟨_, rfl⟩
  rw [← hw2] at rz
  have HN : Hid (Fc z (opC .quo (dsC G X Y n) (cl (mk (n : Int)))) ∧ Below w.heap.size w w2) := ⟨fz, by rw [hw2]; exact below_drewN b1 _⟩
  clear hw2 fv b1 fz HS
  go_wp2_with fail
  refine (iSqrt_fc HN.out.1 w2).mono ?_
  rintro e w3 ⟨r, rfl, fr, b3⟩
  have HR : Hid (Fc r (rmC G X Y n) ∧ Below w.heap.size w w3) := ⟨fr, HN.out.2.trans (b3.mono HN.out.2.size)⟩
  clear fr b3 HN
  go_wp2
  go_ret
  exact ⟨r, rfl, HR.out.1, HR.out.2⟩
end Go.Proofs.Ytcmgafgboepllaa
