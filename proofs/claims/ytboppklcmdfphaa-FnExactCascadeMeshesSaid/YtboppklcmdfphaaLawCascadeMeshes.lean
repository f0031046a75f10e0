/- At every argument the program's CascadeMeshes answers as the specification, code and mesh, where the law's own bound on the sizes does not answer first; what it answers owns its memory; nothing that was there is changed. -/
import Derived.Test.YtboppklcmdfphaaMods
import Derived.Test.YtboppklcmdfphaaSmul
import Derived.Test.YtboppklcmdfphaaUv
import Derived.Test.YtboppklcmdfphaaPs
import Derived.Test.YtboppklcmdfphaaAux
import Derived.Deep.RegionLaw
import Derived.Deep.RegionHeld3
import Derived.Deep.DeepCutAuto
import Derived.Handy
namespace Go.Proofs.Ytboppklcmdfphaa
open Go.RowKit
def mulCode (na : Nat) (La : Nat → Nat) (nb : Nat) (Lb : Nat → Nat) : Int := if faultOf na La ≠ 0 then faultOf na La else if faultOf nb Lb ≠ 0 then faultOf nb Lb else if na ≠ nb then 1 else 0
theorem mulCode_ok {na nb : Nat} {La Lb : Nat → Nat} (h : mulCode na La nb Lb = 0) : faultOf na La = 0 ∧ faultOf nb Lb = 0 ∧ na = nb := by
  unfold mulCode at h
  by_cases h1 : faultOf na La = 0
  · rw [if_neg (by simp [h1])] at h
    by_cases h2 : faultOf nb Lb = 0
    · rw [if_neg (by simp [h2])] at h
      by_cases h3 : na = nb
      · exact ⟨h1, h2, h3⟩
      · rw [if_pos h3] at h; omega
    · rw [if_pos h2] at h; exact absurd h h2
  · rw [if_pos h1] at h; exact absurd h h1
theorem mulCode_dim {na nb : Nat} {La Lb : Nat → Nat} (h : mulCode na La nb Lb = 0) : na ≤ 1000 := by
  have := (fault_right (mulCode_ok h).1).2.1
  omega
theorem sMulRows_any {ma mb : Lie} {na nb : Nat} {La Lb : Nat → Nat} {A B : Rm.Mx} {w : World} (hA : Mat 0 w.heap.size w ma na La A) (hB : Mat 0 w.heap.size w mb nb Lb B) (hna : na ≤ 1000000000000) (hnb : nb ≤ 1000000000000)
    (hLa : ∀ k, k < na → La k ≤ 1000000000000) (hLb : ∀ k, k < nb → Lb k ≤ 1000000000000) :
    Calls Try.prog 90 #[.slice (some ⟨ma.b, 0, none⟩) na ma.cap, .slice (some ⟨mb.b, 0, none⟩) nb mb.cap] w fun e w' => ∃ v, e = .returned (.agg #[.int .i64 (mulCode na La nb Lb), v]) ∧
      OutR w' (mulCode na La nb Lb) v na (fun i j => Rm.dot A B i j na) ∧ Below w.heap.size w w' := by
  by_cases h1 : faultOf na La = 0
  · by_cases h2 : faultOf nb Lb = 0
    · by_cases h3 : na = nb
      · subst h3
        rw [show mulCode na La na Lb = 0 by simp [mulCode, h1, h2]]
        obtain ⟨q0, q1, q2⟩ := fault_right h1
        obtain ⟨_, _, q3⟩ := fault_right h2
        exact (sMul_ok hA hB q1 q0 q2 q3 h1 h2).mono fun e w' ⟨v, he, hm, hb⟩ => ⟨v, he, Or.inr ⟨rfl, hm⟩, hb⟩
      · rw [show mulCode na La nb Lb = 1 by simp [mulCode, h1, h2, h3]]
        exact (sMul_e3 hA hB hna hnb hLa hLb h1 h2 h3).mono fun e w' ⟨he, hb⟩ => ⟨_, he, Or.inl ⟨by omega, rfl⟩, hb⟩
    · rw [show mulCode na La nb Lb = faultOf nb Lb by simp [mulCode, h1, h2]]
      exact (sMul_e2 hA hB hna hnb hLa hLb h1 h2).mono fun e w' ⟨he, hb⟩ => ⟨_, he, Or.inl ⟨h2, rfl⟩, hb⟩
  · rw [show mulCode na La nb Lb = faultOf na La by simp [mulCode, h1]]
    exact (sMul_e1 hA hB hna hnb hLa hLb h1).mono fun e w' ⟨he, hb⟩ => ⟨_, he, Or.inl ⟨h1, rfl⟩, hb⟩
theorem iMulRows_any {ma mb : Lie} {na nb : Nat} {La Lb : Nat → Nat} {A B : Rm.Mx} {w : World} (hA : Mat 0 w.heap.size w ma na La A) (hB : Mat 0 w.heap.size w mb nb Lb B) (hna : na ≤ 1000000000000) (hnb : nb ≤ 1000000000000)
    (hLa : ∀ k, k < na → La k ≤ 1000000000000) (hLb : ∀ k, k < nb → Lb k ≤ 1000000000000) :
    Calls Try.prog 91 #[.slice (some ⟨ma.b, 0, none⟩) na ma.cap, .slice (some ⟨mb.b, 0, none⟩) nb mb.cap] w fun e w' => ∃ v, e = .returned (.agg #[.int .i64 (mulCode na La nb Lb), v]) ∧
      OwnR w.heap.size w'.heap.size w' (mulCode na La nb Lb) v na (fun i j => Rm.dot A B i j na) ∧ Below w.heap.size w w' := by
  by_cases h1 : faultOf na La = 0
  · by_cases h2 : faultOf nb Lb = 0
    · by_cases h3 : na = nb
      · subst h3
        rw [show mulCode na La na Lb = 0 by simp [mulCode, h1, h2]]
        obtain ⟨q0, q1, q2⟩ := fault_right h1
        obtain ⟨_, _, q3⟩ := fault_right h2
        exact (iMul_ok hA hB q1 q2 q3 h1 h2).mono fun e w' ⟨m, he, hm, hb⟩ => ⟨_, he, Or.inr ⟨rfl, m, rfl, hm⟩, hb⟩
      · rw [show mulCode na La nb Lb = 1 by simp [mulCode, h1, h2, h3]]
        exact (iMul_e3 hA hB hna hnb hLa hLb h1 h2 h3).mono fun e w' ⟨he, hb⟩ => ⟨_, he, Or.inl ⟨by omega, rfl⟩, hb⟩
    · rw [show mulCode na La nb Lb = faultOf nb Lb by simp [mulCode, h1, h2]]
      exact (iMul_e2 hA hB hna hnb hLa hLb h1 h2).mono fun e w' ⟨he, hb⟩ => ⟨_, he, Or.inl ⟨h2, rfl⟩, hb⟩
  · rw [show mulCode na La nb Lb = faultOf na La by simp [mulCode, h1]]
    exact (iMul_e1 hA hB hna hnb hLa hLb h1).mono fun e w' ⟨he, hb⟩ => ⟨_, he, Or.inl ⟨h1, rfl⟩, hb⟩
end Go.Proofs.Ytboppklcmdfphaa
namespace Go.Proofs.Ytboppklcmdfphaa
open Go.RowKit
set_option linter.unusedVariables false
set_option linter.unusedSimpArgs false
theorem OutR.some {w : World} {c : Int} {v : Value} {n : Nat} {F : Rm.Mx} (h : OutR w c v n F) (h0 : c = 0) (hn : 0 < n) : ∃ b off cap, v = .slice (some ⟨b, off, none⟩) n cap ∧ RdMat w (.slice (some ⟨b, off, none⟩) n cap) n (fun _ => n) F := by
  rcases h with ⟨h1, _⟩ | ⟨_, h⟩
  · exact absurd h0 h1
  · rcases id h with ⟨_, _, _, e⟩ | ⟨b, off, cap, vs, rfl, hv⟩
    · omega
    · exact ⟨b, off, cap, rfl, h⟩
/-- The product of two meshes' matrices, the second's behind the first's. -/
def cA (np' : Nat) (ph' : Nat → Int) (nc' : Nat) (C' : Nat → Ce) (ph : Nat → Int) (nc : Nat) (C : Nat → Ce) : Rm.Mx := fun i j => Rm.dot (rdm ph' C' nc') (rdm ph C nc) i j np'
def cok (c c' : Int) (np np' : Nat) : Prop := c = 0 ∧ c' = 0 ∧ np = np'
def ccd (c c' : Int) (np np' : Nat) (A : Rm.Mx) : Int := if c ≠ 0 then c else if c' ≠ 0 then c' else if np ≠ np' then 1 else pcd np' (fun _ => np') A
def csd (c c' : Int) (np np' : Nat) (A : Rm.Mx) : Int := if c = 0 ∧ c' = 0 ∧ np = np' then psd np' (fun _ => np') A else 0
def cnp (c c' : Int) (np np' : Nat) (A : Rm.Mx) : Nat := if c = 0 ∧ c' = 0 ∧ np = np' then pnp np' (fun _ => np') A else 0
def cnc (c c' : Int) (np np' : Nat) (A : Rm.Mx) : Nat := if c = 0 ∧ c' = 0 ∧ np = np' then pnc np' (fun _ => np') A else 0
theorem cnp_le (c c' : Int) (np np' : Nat) (A : Rm.Mx) : cnp c c' np np' A ≤ 24 := by unfold cnp; split; exact pnp_le _ _ _; omega
theorem cnc_le (c c' : Int) (np np' : Nat) (A : Rm.Mx) : cnc c c' np np' A ≤ 576 := by unfold cnc; split; exact pnc_le _ _ _; omega
theorem c_bad {c c' : Int} {np np' : Nat} {A : Rm.Mx} (h : ¬ cok c c' np np') : csd c c' np np' A = 0 ∧ cnp c c' np np' A = 0 ∧ cnc c c' np np' A = 0 := by
  have h' : ¬ (c = 0 ∧ c' = 0 ∧ np = np') := h
  unfold csd cnp cnc
  simp only [if_neg h', and_self]
theorem c_good {c c' : Int} {np np' : Nat} {A : Rm.Mx} (h : cok c c' np np') : ccd c c' np np' A = pcd np' (fun _ => np') A ∧ csd c c' np np' A = psd np' (fun _ => np') A ∧ cnp c c' np np' A = pnp np' (fun _ => np') A ∧ cnc c c' np np' A = pnc np' (fun _ => np') A := by
  refine ⟨?_, ?_, ?_, ?_⟩
  · unfold ccd; rw [if_neg (by simp [h.1]), if_neg (by simp [h.2.1]), if_neg (by simp [h.2.2])]
  · unfold csd; rw [if_pos (show c = 0 ∧ c' = 0 ∧ np = np' from h)]
  · unfold cnp; rw [if_pos (show c = 0 ∧ c' = 0 ∧ np = np' from h)]
  · unfold cnc; rw [if_pos (show c = 0 ∧ c' = 0 ∧ np = np' from h)]
theorem c_one {c c' : Int} {np np' : Nat} {A : Rm.Mx} (h : c ≠ 0) : ccd c c' np np' A = c := by unfold ccd; rw [if_pos h]
theorem c_two {c c' : Int} {np np' : Nat} {A : Rm.Mx} (h : c = 0) (h' : c' ≠ 0) : ccd c c' np np' A = c' := by unfold ccd; rw [if_neg (by simp [h]), if_pos h']
theorem c_odd {c c' : Int} {np np' : Nat} {A : Rm.Mx} (h : c = 0) (h' : c' = 0) (e : np ≠ np') : ccd c c' np np' A = 1 := by unfold ccd; rw [if_neg (by simp [h]), if_neg (by simp [h']), if_pos e]
theorem fault_sq {n : Nat} (h0 : 0 < n) (h : n ≤ 24) : faultOf n (fun _ => n) = 0 := fault0 (by
  rintro (h1 | ⟨i, _, h1⟩)
  · omega
  · exact absurd (show 24 < n from h1) (by omega)) (by
  rintro (h1 | ⟨i, _, h1⟩)
  · omega
  · exact h1 rfl)
theorem mul_sq {n : Nat} (h0 : 0 < n) (h : n ≤ 24) : mulCode n (fun _ => n) n (fun _ => n) = 0 := by unfold mulCode; simp [fault_sq h0 h]
theorem mul_odd {n m : Nat} (h0 : 0 < n) (h : n ≤ 24) (h0' : 0 < m) (h' : m ≤ 24) (e : n ≠ m) : mulCode n (fun _ => n) m (fun _ => m) = 1 := by unfold mulCode; simp [fault_sq h0 h, fault_sq h0' h', e]
theorem olds5 {X W : World} (h : Below X.heap.size X W) : (∀ k, k < X.heap.size → k ≤ W.heap.size) ∧ (∀ k, k < X.heap.size → ¬ k = W.heap.size) ∧ (∀ k, k < X.heap.size → ¬ W.heap.size = k) :=
  ⟨fun k hk => Nat.le_of_lt (Nat.lt_of_lt_of_le hk h.size), fun k hk e => by have := h.size; omega, fun k hk e => by have := h.size; omega⟩
set_option maxRecDepth 20000 in
set_option maxHeartbeats 6400000 in
theorem sCas_any {w : World} {ao bo ao' bo' : Option Addr} {np nc cp cq np' nc' cp' cq' : Nat} {sd sd' : Int} {ph ph' : Nat → Int} {C C' : Nat → Ce} (h : Me w (.slice ao np cp) (.slice bo nc cq) np ph nc C) (h' : Me w (.slice ao' np' cp') (.slice bo' nc' cq') np' ph' nc' C') (hp : np ≤ 1048576) (hn : nc ≤ 1048576) (hp' : np' ≤ 1048576) (hn' : nc' ≤ 1048576) {c c' : Int} (hc : c = Rm.mfault sd np ph nc C) (hc' : c' = Rm.mfault sd' np' ph' nc' C') {A : Rm.Mx} (hA : A = cA np' ph' nc' C' ph nc C) :
    Calls Try.prog 52 #[.agg #[.int .i64 sd, .slice ao np cp, .slice bo nc cq], .agg #[.int .i64 sd', .slice ao' np' cp', .slice bo' nc' cq']] w fun e w' => ∃ v0 v1, e = .returned (.agg #[.int .i64 (ccd c c' np np' A), .int .i64 (csd c c' np np' A), v0, v1]) ∧ MeO w.heap.size w'.heap.size w' v0 v1 (cnp c c' np np' A) (pph np' (fun _ => np') A) (cnc c c' np np' A) (pC np' (fun _ => np') A) ∧ Below w.heap.size w w' := by
  obtain ⟨X, hX⟩ : ∃ X, X = ((w.alloc (.cells #[.int .i64 sd, .slice ao np cp, .slice bo nc cq] 49)).alloc (.cells #[.int .i64 sd', .slice ao' np' cp', .slice bo' nc' cq'] 49)).alloc (.cells #[.int .i64 0, .int .i64 0, .slice none 0 0, .slice none 0 0] 61) := ⟨_, rfl⟩
  have BX : Hid (Blk X w.heap.size #[.int .i64 sd, .slice ao np cp, .slice bo nc cq] 49 ∧ Blk X (w.heap.size + 1) #[.int .i64 sd', .slice ao' np' cp', .slice bo' nc' cq'] 49 ∧ Blk X (w.heap.size + 2) #[.int .i64 0, .int .i64 0, .slice none 0 0, .slice none 0 0] 61 ∧ Below w.heap.size w X ∧ X.heap.size = w.heap.size + 1 + 1 + 1) := by rw [hX]; exact ⟨((Blk.new rfl).alloc _).alloc _, (Blk.new (by simp)).alloc _, Blk.new (by simp), (((Below.refl _ _).alloc (Nat.le_refl _) _).alloc (by simp) _).alloc (by simp; omega) _, by simp⟩
  have zX : X.heap.size = w.heap.size + 1 + 1 + 1 := BX.out.2.2.2.2
  have HM : ∀ W, Below X.heap.size X W → Hid (Me W (.slice ao np cp) (.slice bo nc cq) np ph nc C ∧ Me W (.slice ao' np' cp') (.slice bo' nc' cq') np' ph' nc' C') := fun W hb => ⟨h.later (BX.out.2.2.2.1.trans (hb.mono (by omega))), h'.later (BX.out.2.2.2.1.trans (hb.mono (by omega)))⟩
  have CX : ∀ W, Below X.heap.size X W → W.cell? ⟨w.heap.size, 0, none⟩ = some (.int .i64 sd) ∧ W.cell? ⟨w.heap.size, 1, none⟩ = some (.slice ao np cp) ∧ W.cell? ⟨w.heap.size, 2, none⟩ = some (.slice bo nc cq) ∧ W.cell? ⟨w.heap.size + 1, 0, none⟩ = some (.int .i64 sd') ∧ W.cell? ⟨w.heap.size + 1, 1, none⟩ = some (.slice ao' np' cp') ∧ W.cell? ⟨w.heap.size + 1, 2, none⟩ = some (.slice bo' nc' cq') :=
    fun W h => ⟨(BX.out.1.old h).cell rfl, (BX.out.1.old h).cell rfl, (BX.out.1.old h).cell rfl, (BX.out.2.1.old h).cell rfl, (BX.out.2.1.old h).cell rfl, (BX.out.2.1.old h).cell rfl⟩
  clear h h'
  have HCC : Hid (c = Rm.mfault sd np ph nc C ∧ c' = Rm.mfault sd' np' ph' nc' C' ∧ A = cA np' ph' nc' C' ph nc C) := ⟨hc, hc', hA⟩
  have HP : Hid (np ≤ 1048576 ∧ nc ≤ 1048576 ∧ np' ≤ 1048576 ∧ nc' ≤ 1048576) := ⟨hp, hn, hp', hn'⟩
  clear hc hc' hA hp hn hp' hn'
  go_enter Try.func52, Try.ntmps52
  go_wp2_with fail
  rw [← hX]
  clear hX
  obtain ⟨x0, x1, x2, y0, y1, y2⟩ := CX X (Below.refl _ _)
  go_wp2_with fail
  refine (sMf_any (HM _ (Below.refl _ _)).out.1 HP.out.1 HP.out.2.1).mono ?_
  rintro e w1 ⟨rfl, hb1⟩
  rw [← HCC.out.1]
  clear x0 x1 x2 y0 y1 y2
  have HB1 : Hid (Below X.heap.size X w1) := hb1
  clear hb1
  by_cases h0 : c = 0
  case neg =>
    have hc1 : (c != 0) = true := by rw [bne_iff_ne]; exact h0
    have HU : Hid (ccd c c' np np' A = c ∧ csd c c' np np' A = 0 ∧ cnp c c' np np' A = 0 ∧ cnc c c' np np' A = 0) := ⟨c_one h0, c_bad fun h => h0 h.1⟩
    clear h0
    have hB := BX.out.2.2.1.old HB1.out
    have r0 := hB.cell (j := 0) rfl
    have r1 := hB.cell (j := 1) rfl
    have r2 := hB.cell (j := 2) rfl
    have r3 := hB.cell (j := 3) rfl
    have rf := hB.frozen
    have rl := hB.lt
    go_wp2
    refine bodyPost_ret (res_of (cs := #[.int .i64 c, .int .i64 0, .slice none 0 0, .slice none 0 0]) Try.results52 rfl ((((hB.set 0 _ rfl).set 1 _ rfl).set 2 _ rfl).set 3 _ rfl) Try.underlying61 (by kernel_rfl)) rfl ⟨.slice none 0 0, .slice none 0 0, by rw [HU.out.1, HU.out.2.1], by rw [HU.out.2.2.1, HU.out.2.2.2]; exact MeO.nil _ _ _ _ _, ?_⟩
    have h1 : Below w.heap.size w w1 := BX.out.2.2.2.1.trans (HB1.out.mono (by omega))
    repeat (first | exact h1 | (refine Below.setCell ?_ (by simp <;> omega) _))
  have hc1 : (c != 0) = false := by simp [h0]
  have HC0 : Hid (c = 0) := h0
  obtain ⟨x0, x1, x2, y0, y1, y2⟩ := CX w1 HB1.out
  clear h0
  go_wp2_with fail
  refine (sMf_any (HM _ HB1.out).out.2 HP.out.2.2.1 HP.out.2.2.2).mono ?_
  rintro e w2 ⟨rfl, hb2⟩
  rw [← HCC.out.2.1]
  clear x0 x1 x2 y0 y1 y2
  have HB2 : Hid (Below X.heap.size X w2) := HB1.out.trans (hb2.mono HB1.out.size)
  clear hb2 HB1
  by_cases h0 : c' = 0
  case neg =>
    have hc2 : (c' != 0) = true := by rw [bne_iff_ne]; exact h0
    have HU : Hid (ccd c c' np np' A = c' ∧ csd c c' np np' A = 0 ∧ cnp c c' np np' A = 0 ∧ cnc c c' np np' A = 0) := ⟨c_two HC0.out h0, c_bad fun h => h0 h.2.1⟩
    clear h0
    have hB := BX.out.2.2.1.old HB2.out
    have r0 := hB.cell (j := 0) rfl
    have r1 := hB.cell (j := 1) rfl
    have r2 := hB.cell (j := 2) rfl
    have r3 := hB.cell (j := 3) rfl
    have rf := hB.frozen
    have rl := hB.lt
    go_wp2
    refine bodyPost_ret (res_of (cs := #[.int .i64 c', .int .i64 0, .slice none 0 0, .slice none 0 0]) Try.results52 rfl ((((hB.set 0 _ rfl).set 1 _ rfl).set 2 _ rfl).set 3 _ rfl) Try.underlying61 (by kernel_rfl)) rfl ⟨.slice none 0 0, .slice none 0 0, by rw [HU.out.1, HU.out.2.1], by rw [HU.out.2.2.1, HU.out.2.2.2]; exact MeO.nil _ _ _ _ _, ?_⟩
    have h1 : Below w.heap.size w w2 := BX.out.2.2.2.1.trans (HB2.out.mono (by omega))
    repeat (first | exact h1 | (refine Below.setCell ?_ (by simp <;> omega) _))
  have hc2 : (c' != 0) = false := by simp [h0]
  have HC0' : Hid (c' = 0) := h0
  have ok1 := Rm.mfault_ok (HCC.out.1.symm.trans HC0.out)
  have ok2 := Rm.mfault_ok (HCC.out.2.1.symm.trans h0)
  have HO : Hid (0 < np ∧ np ≤ 24 ∧ nc ≤ 600 ∧ (np : Int) = sd ∧ Rm.fitsB (np : Int) C nc = true ∧ 0 < np' ∧ np' ≤ 24 ∧ nc' ≤ 600 ∧ (np' : Int) = sd' ∧ Rm.fitsB (np' : Int) C' nc' = true) := ⟨by omega, by omega, ok1.2.2.1, ok1.2.2.2.1, by rw [ok1.2.2.2.1]; exact ok1.2.2.2.2, by omega, by omega, ok2.2.2.1, ok2.2.2.2.1, by rw [ok2.2.2.2.1]; exact ok2.2.2.2.2⟩
  clear h0 ok1 ok2
  obtain ⟨x0, x1, x2, y0, y1, y2⟩ := CX w2 HB2.out
  by_cases he : np = np'
  case neg =>
    have hsd : (sd != sd') = true := by rw [bne_iff_ne]; have := HO.out.2.2.2.1; have := HO.out.2.2.2.2.2.2.2.2.1; omega
    have HU : Hid (ccd c c' np np' A = 1 ∧ csd c c' np np' A = 0 ∧ cnp c c' np np' A = 0 ∧ cnc c c' np np' A = 0) := ⟨c_odd HC0.out HC0'.out he, c_bad fun h => he h.2.2⟩
    clear he
    have hB := BX.out.2.2.1.old HB2.out
    have r0 := hB.cell (j := 0) rfl
    have r1 := hB.cell (j := 1) rfl
    have r2 := hB.cell (j := 2) rfl
    have r3 := hB.cell (j := 3) rfl
    have rf := hB.frozen
    have rl := hB.lt
    go_wp2
    refine bodyPost_ret (res_of (cs := #[.int .i64 1, .int .i64 0, .slice none 0 0, .slice none 0 0]) Try.results52 rfl ((((hB.set 0 _ rfl).set 1 _ rfl).set 2 _ rfl).set 3 _ rfl) Try.underlying61 (by kernel_rfl)) rfl ⟨.slice none 0 0, .slice none 0 0, by rw [HU.out.1, HU.out.2.1], by rw [HU.out.2.2.1, HU.out.2.2.2]; exact MeO.nil _ _ _ _ _, ?_⟩
    have h1 : Below w.heap.size w w2 := BX.out.2.2.2.1.trans (HB2.out.mono (by omega))
    repeat (first | exact h1 | (refine Below.setCell ?_ (by simp <;> omega) _))
  have hsd : (sd != sd') = false := by
    have h1 := HO.out.2.2.2.1
    have h2 := HO.out.2.2.2.2.2.2.2.2.1
    have : sd = sd' := by omega
    simp [this]
  have HMC : Hid (mulCode np' (fun _ => np') np (fun _ => np) = 0 ∧ (fun i j => Rm.dot (rdm ph' C' nc') (rdm ph C nc) i j np') = A) := ⟨by rw [he]; exact mul_sq HO.out.2.2.2.2.2.1 HO.out.2.2.2.2.2.2.1, HCC.out.2.2.symm⟩
  have HU : Hid (cok c c' np np') := ⟨HC0.out, HC0'.out, he⟩
  clear he
  have HK : Hid ((∀ W, Below X.heap.size X W → Calls Try.prog 76 #[.agg #[.int .i64 sd', .slice ao' np' cp', .slice bo' nc' cq']] W fun e w' => ∃ m : Lie, e = .returned (.slice (some ⟨m.b, 0, none⟩) np' m.cap) ∧ Mat W.heap.size w'.heap.size w' m np' (fun _ => np') (rdm ph' C' nc') ∧ Below W.heap.size W w') ∧
      (∀ W, Below X.heap.size X W → Calls Try.prog 76 #[.agg #[.int .i64 sd, .slice ao np cp, .slice bo nc cq]] W fun e w' => ∃ m : Lie, e = .returned (.slice (some ⟨m.b, 0, none⟩) np m.cap) ∧ Mat W.heap.size w'.heap.size w' m np (fun _ => np) (rdm ph C nc) ∧ Below W.heap.size W w')) := by
    obtain ⟨o1, o2, o3, o4, o5, p1, p2, p3, p4, p5⟩ := HO.out
    exact ⟨fun W hb => sRead_any (HM W hb).out.2 p1 p2 p3 p4 p5, fun W hb => sRead_any (HM W hb).out.1 o1 o2 o3 o4 o5⟩
  have hfl := field25_1
  have HB := HB2.out
  go_upto_region 9 with fail
  go_region_law (first
    | (go_simp; go_at_call_of 76 (Value.agg #[.int .i64 sd', .slice ao' np' cp', .slice bo' nc' cq']); refine (HK.out.1 _ (by go_grown)).mono ?_; rintro e w3 ⟨m3, rfl, hm3, hb3⟩; have hx3 : Below X.heap.size X w3 := box_step (by go_grown) hb3 (by go_size); obtain ⟨a0, a1, a2, a3, a4, a5⟩ := CX w3 hx3)
    | (go_simp; go_at_call_of 76 (Value.agg #[.int .i64 sd, .slice ao np cp, .slice bo nc cq]); refine (HK.out.2 _ (by first | assumption | go_grown)).mono ?_; rintro e w4 ⟨m4, rfl, hm4, hb4⟩; have hx4 : Below X.heap.size X w4 := box_step (by first | exact hx3 | go_grown) hb4 (by go_size))
    | (go_simp; go_at_call 90; refine Calls.mono (sMulRows_any ((hm3.keep (keep_below hb4 (by go_size))).wide (Nat.zero_le _) (by have := hb4.size; omega)) (hm4.wide (Nat.zero_le _) (Nat.le_refl _)) (by have := HP.out; omega) (by have := HP.out; omega) (fun _ _ => by have := HP.out; omega) (fun _ _ => by have := HP.out; omega)) ?_; rintro e w5 ⟨v5, rfl, ho5, hb5⟩; rw [HMC.out.1] at ho5 ⊢; rw [HMC.out.2] at ho5; obtain ⟨b5, f5, c5, rfl, hr5⟩ := ho5.some rfl HO.out.2.2.2.2.2.1; have hx5 : Below X.heap.size X w5 := box_step hx4 hb5 (by go_size))
    | (go_simp; go_at_call 43; refine (sProg_any _ _ _ hr5 (by have := HP.out; omega) (fun _ _ => by have := HP.out; omega)).mono ?_; rintro e w6 ⟨v6, u6, rfl, hme, hb6⟩; obtain ⟨sa, sc, sb, sq, e3, e4⟩ := hme.rd.shape; subst e3; subst e4; have hx6 : Below X.heap.size X w6 := box_step hx5 hb6 (by go_size); have hB := BX.out.2.2.1.old hx6; have r0 := hB.cell (j := 0) rfl; have r1 := hB.cell (j := 1) rfl; have r2 := hB.cell (j := 2) rfl; have r3 := hB.cell (j := 3) rfl; have rf := hB.frozen; have rl := hB.lt))
  all_goals
    go_wp2
    obtain ⟨u1, u2, u3, u4⟩ := c_good (A := A) HU.out
    refine bodyPost_ret (res_of (cs := #[.int .i64 (pcd np' (fun _ => np') A), .int .i64 (psd np' (fun _ => np') A), .slice sa (pnp np' (fun _ => np') A) sc, .slice sb (pnc np' (fun _ => np') A) sq]) Try.results52 rfl ((((hB.set 0 _ rfl).set 1 _ rfl).set 2 _ rfl).set 3 _ rfl) Try.underlying61 (by kernel_rfl)) rfl ⟨_, _, by rw [u1, u2], ?_, ?_⟩
    · rw [u3, u4]
      have z5 := hx5.size
      exact (meO_four hme (by omega)).wide (by omega) (Nat.le_refl _)
    · have h1 : Below w.heap.size w w6 := BX.out.2.2.2.1.trans (hx6.mono (by omega))
      repeat (first | exact h1 | (refine Below.setCell ?_ (by simp <;> omega) _))
theorem set_two {W : World} {k : Nat} {c : Int} {v : Value} (h : Blk W k #[.int .i64 0, .slice none 0 0] 25) : Blk ((W.setCell ⟨k, 0, none⟩ (.int .i64 c)).setCell ⟨k, 1, none⟩ v) k #[.int .i64 c, v] 25 :=
  Blk.set (cs := #[.int .i64 c, .slice none 0 0]) (Blk.set (cs := #[.int .i64 0, .slice none 0 0]) h 0 _ rfl) 1 _ rfl
theorem off_two {W : World} {k q : Nat} {u v : Value} {cs : Array Value} (h : Blk W k cs 25) (hne : k ≠ q) : Blk ((W.setCell ⟨q, 0, none⟩ u).setCell ⟨q, 1, none⟩ v) k cs 25 :=
  Blk.setOther (Blk.setOther h (by exact hne) _) (by exact hne) _
theorem OwnR.wide {lo hi lo' hi' : Nat} {w : World} {c : Int} {v : Value} {n : Nat} {F : Rm.Mx} (h : OwnR lo hi w c v n F) (a : lo' ≤ lo) (b : hi ≤ hi') : OwnR lo' hi' w c v n F := by
  rcases h with h | ⟨h, m, rfl, hm⟩
  · exact Or.inl h
  · exact Or.inr ⟨h, m, rfl, hm.wide a b⟩
set_option maxRecDepth 20000 in
set_option maxHeartbeats 6400000 in
theorem iCas_any {w : World} {ao bo ao' bo' : Option Addr} {np nc cp cq np' nc' cp' cq' : Nat} {sd sd' : Int} {ph ph' : Nat → Int} {C C' : Nat → Ce} (h : Me w (.slice ao np cp) (.slice bo nc cq) np ph nc C) (h' : Me w (.slice ao' np' cp') (.slice bo' nc' cq') np' ph' nc' C') (hp : np ≤ 1048576) (hn : nc ≤ 1048576) (hp' : np' ≤ 1048576) (hn' : nc' ≤ 1048576) {c c' : Int} (hc : c = Rm.mfault sd np ph nc C) (hc' : c' = Rm.mfault sd' np' ph' nc' C') {A : Rm.Mx} (hA : A = cA np' ph' nc' C' ph nc C) :
    Calls Try.prog 53 #[.agg #[.int .i64 sd, .slice ao np cp, .slice bo nc cq], .agg #[.int .i64 sd', .slice ao' np' cp', .slice bo' nc' cq']] w fun e w' => ∃ v0 v1, e = .returned (.agg #[.int .i64 (ccd c c' np np' A), .int .i64 (csd c c' np np' A), v0, v1]) ∧ MeO w.heap.size w'.heap.size w' v0 v1 (cnp c c' np np' A) (pph np' (fun _ => np') A) (cnc c c' np np' A) (pC np' (fun _ => np') A) ∧ Below w.heap.size w w' := by
  obtain ⟨X, hX⟩ : ∃ X, X = ((w.alloc (.cells #[.int .i64 sd, .slice ao np cp, .slice bo nc cq] 49)).alloc (.cells #[.int .i64 sd', .slice ao' np' cp', .slice bo' nc' cq'] 49)).alloc (.cells #[.int .i64 0, .int .i64 0, .slice none 0 0, .slice none 0 0] 61) := ⟨_, rfl⟩
  have BX : Hid (Blk X w.heap.size #[.int .i64 sd, .slice ao np cp, .slice bo nc cq] 49 ∧ Blk X (w.heap.size + 1) #[.int .i64 sd', .slice ao' np' cp', .slice bo' nc' cq'] 49 ∧ Blk X (w.heap.size + 2) #[.int .i64 0, .int .i64 0, .slice none 0 0, .slice none 0 0] 61 ∧ Below w.heap.size w X ∧ X.heap.size = w.heap.size + 1 + 1 + 1) := by rw [hX]; exact ⟨((Blk.new rfl).alloc _).alloc _, (Blk.new (by simp)).alloc _, Blk.new (by simp), (((Below.refl _ _).alloc (Nat.le_refl _) _).alloc (by simp) _).alloc (by simp; omega) _, by simp⟩
  have zX : X.heap.size = w.heap.size + 1 + 1 + 1 := BX.out.2.2.2.2
  have HM : ∀ W, Below X.heap.size X W → Hid (Me W (.slice ao np cp) (.slice bo nc cq) np ph nc C ∧ Me W (.slice ao' np' cp') (.slice bo' nc' cq') np' ph' nc' C') := fun W hb => ⟨h.later (BX.out.2.2.2.1.trans (hb.mono (by omega))), h'.later (BX.out.2.2.2.1.trans (hb.mono (by omega)))⟩
  have CX : ∀ W, Below X.heap.size X W → W.cell? ⟨w.heap.size, 0, none⟩ = some (.int .i64 sd) ∧ W.cell? ⟨w.heap.size, 1, none⟩ = some (.slice ao np cp) ∧ W.cell? ⟨w.heap.size, 2, none⟩ = some (.slice bo nc cq) ∧ W.cell? ⟨w.heap.size + 1, 0, none⟩ = some (.int .i64 sd') ∧ W.cell? ⟨w.heap.size + 1, 1, none⟩ = some (.slice ao' np' cp') ∧ W.cell? ⟨w.heap.size + 1, 2, none⟩ = some (.slice bo' nc' cq') :=
    fun W h => ⟨(BX.out.1.old h).cell rfl, (BX.out.1.old h).cell rfl, (BX.out.1.old h).cell rfl, (BX.out.2.1.old h).cell rfl, (BX.out.2.1.old h).cell rfl, (BX.out.2.1.old h).cell rfl⟩
  clear h h'
  have HCC : Hid (c = Rm.mfault sd np ph nc C ∧ c' = Rm.mfault sd' np' ph' nc' C' ∧ A = cA np' ph' nc' C' ph nc C) := ⟨hc, hc', hA⟩
  have HP : Hid (np ≤ 1048576 ∧ nc ≤ 1048576 ∧ np' ≤ 1048576 ∧ nc' ≤ 1048576) := ⟨hp, hn, hp', hn'⟩
  clear hc hc' hA hp hn hp' hn'
  have HN : Hid ((∀ W, Below X.heap.size X W → Calls Try.prog 42 #[.agg #[.int .i64 sd, .slice ao np cp, .slice bo nc cq]] W fun e w' => ∃ v lo, e = .returned (.agg #[.int .i64 c, v]) ∧ W.heap.size ≤ lo ∧ OwnR lo w'.heap.size w' c v np (rdm ph C nc) ∧ Below W.heap.size W w') ∧
      (∀ W, Below X.heap.size X W → Calls Try.prog 42 #[.agg #[.int .i64 sd', .slice ao' np' cp', .slice bo' nc' cq']] W fun e w' => ∃ v lo, e = .returned (.agg #[.int .i64 c', v]) ∧ W.heap.size ≤ lo ∧ OwnR lo w'.heap.size w' c' v np' (rdm ph' C' nc') ∧ Below W.heap.size W w')) :=
    ⟨fun W hb => (iRM_any (HM W hb).out.1 HP.out.1 HP.out.2.1 HCC.out.1).mono fun e w' ⟨v, h1, h2, h3⟩ => ⟨v, _, h1, Nat.le_refl _, h2, h3⟩, fun W hb => (iRM_any (HM W hb).out.2 HP.out.2.2.1 HP.out.2.2.2 HCC.out.2.1).mono fun e w' ⟨v, h1, h2, h3⟩ => ⟨v, _, h1, Nat.le_refl _, h2, h3⟩⟩
  go_enter Try.func53, Try.ntmps53
  go_wp2_with fail
  rw [← hX]
  clear hX
  obtain ⟨x0, x1, x2, y0, y1, y2⟩ : (∀ W, Below X.heap.size X W → W.cell? ⟨w.heap.size, 0, none⟩ = some (.int .i64 sd)) ∧ (∀ W, Below X.heap.size X W → W.cell? ⟨w.heap.size, 1, none⟩ = some (.slice ao np cp)) ∧ (∀ W, Below X.heap.size X W → W.cell? ⟨w.heap.size, 2, none⟩ = some (.slice bo nc cq)) ∧ (∀ W, Below X.heap.size X W → W.cell? ⟨w.heap.size + 1, 0, none⟩ = some (.int .i64 sd')) ∧ (∀ W, Below X.heap.size X W → W.cell? ⟨w.heap.size + 1, 1, none⟩ = some (.slice ao' np' cp')) ∧ (∀ W, Below X.heap.size X W → W.cell? ⟨w.heap.size + 1, 2, none⟩ = some (.slice bo' nc' cq')) :=
    ⟨fun W h => (CX W h).1, fun W h => (CX W h).2.1, fun W h => (CX W h).2.2.1, fun W h => (CX W h).2.2.2.1, fun W h => (CX W h).2.2.2.2.1, fun W h => (CX W h).2.2.2.2.2⟩
  have hR0 : Below X.heap.size X X := Below.refl _ _
  clear zX
  have HZX : Hid (X.heap.size = w.heap.size + 1 + 1 + 1) := BX.out.2.2.2.2
  go_cut [5, 6] from 8 to 11 (fun p q wx => ∃ (k1 k2 : Nat) (va vb : Value), p = .pointer (some ⟨k1, 0, none⟩) ∧ q = .pointer (some ⟨k2, 0, none⟩) ∧ Blk wx k1 #[.int .i64 c, va] 25 ∧ Blk wx k2 #[.int .i64 c', vb] 25 ∧ Hid (OwnR 0 wx.heap.size wx c va np (rdm ph C nc) ∧ OwnR 0 wx.heap.size wx c' vb np' (rdm ph' C' nc') ∧ Below X.heap.size X wx))
  case first =>
    clear HP HM CX HCC BX HZX
    go_region_held3 (fun W => Below X.heap.size X W) (go_grown) (first
      | (go_at_call_of 42 (Value.agg #[.int .i64 sd, .slice ao np cp, .slice bo nc cq]); refine Calls.mono (HN.out.1 _ (by first | assumption | go_grown)) ?_; rintro e wa ⟨va, la, rfl, hla, oa, ba⟩; (try simp at hla); obtain ⟨vo, vk, vc, rfl⟩ := OutR.shape oa.rd; have zwa := ba.size; (try simp at zwa); have hRwa : Below X.heap.size X wa := (by refine box_step ?_ ba (by go_size); first | assumption | go_grown); have OA : Hid (OwnR la wa.heap.size wa c (.slice vo vk vc) np (rdm ph C nc)) := oa; have kaa : Below wa.heap.size wa wa := Below.refl _ _; obtain ⟨oa1, oa2, oa3⟩ := olds ba; obtain ⟨oa4, oa5, oa6⟩ := olds5 ba; clear oa)
      | (go_at_call_of 42 (Value.agg #[.int .i64 sd', .slice ao' np' cp', .slice bo' nc' cq']); refine Calls.mono (HN.out.2 _ (by first | assumption | go_grown)) ?_; rintro e wb ⟨vb, lb, rfl, hlb, ob, bb⟩; (try simp at hlb); obtain ⟨uo, uk, uc, rfl⟩ := OutR.shape ob.rd; have zwb := bb.size; (try simp at zwb); have hRwb : Below X.heap.size X wb := (by refine box_step ?_ bb (by go_size); first | assumption | go_grown); have OB : Hid (OwnR lb wb.heap.size wb c' (.slice uo uk uc) np' (rdm ph' C' nc')) := ob; have kab : Below wa.heap.size wa wb := (by refine box_step ?_ bb (by go_size); go_grown); have kbb : Below wb.heap.size wb wb := Below.refl _ _; obtain ⟨ob1, ob2, ob3⟩ := olds bb; obtain ⟨ob4, ob5, ob6⟩ := olds5 bb; have oc3 := (fun (k : Nat) hk => Nat.lt_of_lt_of_le (oa3 k hk) kab.size); have oc1 := (fun (k j : Nat) hk => (kab.cell (p := ⟨k, j, none⟩) (oa3 k hk)).trans (oa1 k j hk)); have oc2 := (fun (k j : Nat) hk => (kab.frozen (p := ⟨k, j, none⟩) (oa3 k hk)).trans (oa2 k j hk)); have oc4 := (fun (k : Nat) hk => Nat.le_of_lt (oc3 k hk)); have oc5 := (fun (k : Nat) hk => Nat.ne_of_lt (oc3 k hk)); have oc6 := (fun (k : Nat) hk => Nat.ne_of_gt (oc3 k hk)); clear ob))
    all_goals
      go_wp2_with fail
      go_meet
      case rel =>
        refine ⟨_, _, .slice vo vk vc, .slice uo uk uc, rfl, rfl, ?_, ?_, ?_, ?_, ?_⟩
        · first
            | with_reducible exact Blk.new rfl
            | with_reducible exact Blk.new (by simp)
            | with_reducible exact (Blk.new rfl).alloc _
            | (with_reducible refine set_two ?_; (first | with_reducible exact (Blk.new rfl).old bb | with_reducible exact ((Blk.new rfl).alloc _).old bb | with_reducible exact (Blk.new (by simp)).old bb | with_reducible exact (((Blk.new rfl).drew).old ba).old kab | with_reducible exact ((((Blk.new rfl).alloc _).drew).old ba).old kab | with_reducible exact (((Blk.new (by simp)).drew).old ba).old kab))
            | (with_reducible refine Blk.alloc ?_ _; with_reducible refine set_two ?_; (first | with_reducible exact (Blk.new rfl).old bb | with_reducible exact ((Blk.new rfl).alloc _).old bb | with_reducible exact (Blk.new (by simp)).old bb | with_reducible exact (((Blk.new rfl).drew).old ba).old kab | with_reducible exact ((((Blk.new rfl).alloc _).drew).old ba).old kab | with_reducible exact (((Blk.new (by simp)).drew).old ba).old kab))
            | (with_reducible refine off_two ?_ (by first | omega | (simp; omega)); with_reducible refine set_two ?_; (first | with_reducible exact (Blk.new rfl).old bb | with_reducible exact ((Blk.new rfl).alloc _).old bb | with_reducible exact (Blk.new (by simp)).old bb | with_reducible exact (((Blk.new rfl).drew).old ba).old kab | with_reducible exact ((((Blk.new rfl).alloc _).drew).old ba).old kab | with_reducible exact (((Blk.new (by simp)).drew).old ba).old kab))
            | (with_reducible refine Blk.alloc ?_ _; with_reducible refine off_two ?_ (by first | omega | (simp; omega)); with_reducible refine set_two ?_; (first | with_reducible exact (Blk.new rfl).old bb | with_reducible exact ((Blk.new rfl).alloc _).old bb | with_reducible exact (Blk.new (by simp)).old bb | with_reducible exact (((Blk.new rfl).drew).old ba).old kab | with_reducible exact ((((Blk.new rfl).alloc _).drew).old ba).old kab | with_reducible exact (((Blk.new (by simp)).drew).old ba).old kab))
        · first
            | with_reducible exact Blk.new rfl
            | with_reducible exact Blk.new (by simp)
            | with_reducible exact (Blk.new rfl).alloc _
            | (with_reducible refine set_two ?_; (first | with_reducible exact (Blk.new rfl).old bb | with_reducible exact ((Blk.new rfl).alloc _).old bb | with_reducible exact (Blk.new (by simp)).old bb | with_reducible exact (((Blk.new rfl).drew).old ba).old kab | with_reducible exact ((((Blk.new rfl).alloc _).drew).old ba).old kab | with_reducible exact (((Blk.new (by simp)).drew).old ba).old kab))
            | (with_reducible refine set_two ?_; with_reducible refine off_two ?_ (by first | omega | (simp; omega)); (first | with_reducible exact (Blk.new rfl).old bb | with_reducible exact ((Blk.new rfl).alloc _).old bb | with_reducible exact (Blk.new (by simp)).old bb | with_reducible exact (((Blk.new rfl).drew).old ba).old kab | with_reducible exact ((((Blk.new rfl).alloc _).drew).old ba).old kab | with_reducible exact (((Blk.new (by simp)).drew).old ba).old kab))
            | (with_reducible refine Blk.alloc ?_ _; with_reducible refine set_two ?_; (first | with_reducible exact (Blk.new rfl).old bb | with_reducible exact ((Blk.new rfl).alloc _).old bb | with_reducible exact (Blk.new (by simp)).old bb | with_reducible exact (((Blk.new rfl).drew).old ba).old kab | with_reducible exact ((((Blk.new rfl).alloc _).drew).old ba).old kab | with_reducible exact (((Blk.new (by simp)).drew).old ba).old kab))
            | (with_reducible refine Blk.alloc ?_ _; with_reducible refine set_two ?_; with_reducible refine off_two ?_ (by first | omega | (simp; omega)); (first | with_reducible exact (Blk.new rfl).old bb | with_reducible exact ((Blk.new rfl).alloc _).old bb | with_reducible exact (Blk.new (by simp)).old bb | with_reducible exact (((Blk.new rfl).drew).old ba).old kab | with_reducible exact ((((Blk.new rfl).alloc _).drew).old ba).old kab | with_reducible exact (((Blk.new (by simp)).drew).old ba).old kab))
        · refine OwnR.wide (OA.out.keep fun k h1 h2 => ?_) (Nat.zero_le _) (by simp [World.setCell] <;> omega)
          repeat (first | rw [Below.heap_setCell _ _ _ _ (by simp; omega)] | rw [Below.heap_alloc _ _ _ (by simp; omega)])
          first | with_reducible exact kab.block k h2 | exact (Below.heap_alloc _ _ _ (Nat.lt_of_lt_of_le h2 kab.size)).trans (kab.block k h2)
        · refine OwnR.wide (OB.out.keep fun k h1 h2 => ?_) (Nat.zero_le _) (by simp [World.setCell] <;> omega)
          repeat (first | rw [Below.heap_setCell _ _ _ _ (by simp; omega)] | rw [Below.heap_alloc _ _ _ (by simp; omega)])
          first | done | with_reducible rfl | exact Below.heap_alloc _ _ _ h2
        · first | assumption | go_grown
  case rest =>
    obtain ⟨k1, k2, va, vb, rfl, rfl, B1, B2, HC⟩ := hcut
    have c10 := B1.cell (j := 0) (v := .int .i64 c) rfl
    have c11 := B1.cell (j := 1) (v := va) rfl
    have c20 := B2.cell (j := 0) (v := .int .i64 c') rfl
    have c21 := B2.cell (j := 1) (v := vb) rfl
    clear B1 B2
    have HX : Hid (Below X.heap.size X wc) := HC.out.2.2
    have zX : X.heap.size = w.heap.size + 1 + 1 + 1 := HZX.out
    clear x0 x1 x2 y0 y1 y2 hR0 CX HM HN
    by_cases h0 : c = 0
    case neg =>
      have hc1 : (c != 0) = true := by rw [bne_iff_ne]; exact h0
      have HU : Hid (ccd c c' np np' A = c ∧ csd c c' np np' A = 0 ∧ cnp c c' np np' A = 0 ∧ cnc c c' np np' A = 0) := ⟨c_one h0, c_bad fun h => h0 h.1⟩
      clear h0
      have hB := BX.out.2.2.1.old HX.out
      have r0 := hB.cell (j := 0) rfl
      have r1 := hB.cell (j := 1) rfl
      have r2 := hB.cell (j := 2) rfl
      have r3 := hB.cell (j := 3) rfl
      have rf := hB.frozen
      have rl := hB.lt
      go_wp2
      refine bodyPost_ret (res_of (cs := #[.int .i64 c, .int .i64 0, .slice none 0 0, .slice none 0 0]) Try.results53 rfl ((((hB.set 0 _ rfl).set 1 _ rfl).set 2 _ rfl).set 3 _ rfl) Try.underlying61 (by kernel_rfl)) rfl ⟨.slice none 0 0, .slice none 0 0, by rw [HU.out.1, HU.out.2.1], by rw [HU.out.2.2.1, HU.out.2.2.2]; exact MeO.nil _ _ _ _ _, ?_⟩
      have h1 : Below w.heap.size w wc := BX.out.2.2.2.1.trans (HX.out.mono (by omega))
      repeat (first | exact h1 | (refine Below.setCell ?_ (by simp <;> omega) _))
    have hc1 : (c != 0) = false := by simp [h0]
    have HC0 : Hid (c = 0) := h0
    clear h0
    by_cases h0 : c' = 0
    case neg =>
      have hc2 : (c' != 0) = true := by rw [bne_iff_ne]; exact h0
      have HU : Hid (ccd c c' np np' A = c' ∧ csd c c' np np' A = 0 ∧ cnp c c' np np' A = 0 ∧ cnc c c' np np' A = 0) := ⟨c_two HC0.out h0, c_bad fun h => h0 h.2.1⟩
      clear h0
      have hB := BX.out.2.2.1.old HX.out
      have r0 := hB.cell (j := 0) rfl
      have r1 := hB.cell (j := 1) rfl
      have r2 := hB.cell (j := 2) rfl
      have r3 := hB.cell (j := 3) rfl
      have rf := hB.frozen
      have rl := hB.lt
      go_wp2
      refine bodyPost_ret (res_of (cs := #[.int .i64 c', .int .i64 0, .slice none 0 0, .slice none 0 0]) Try.results53 rfl ((((hB.set 0 _ rfl).set 1 _ rfl).set 2 _ rfl).set 3 _ rfl) Try.underlying61 (by kernel_rfl)) rfl ⟨.slice none 0 0, .slice none 0 0, by rw [HU.out.1, HU.out.2.1], by rw [HU.out.2.2.1, HU.out.2.2.2]; exact MeO.nil _ _ _ _ _, ?_⟩
      have h1 : Below w.heap.size w wc := BX.out.2.2.2.1.trans (HX.out.mono (by omega))
      repeat (first | exact h1 | (refine Below.setCell ?_ (by simp <;> omega) _))
    have hc2 : (c' != 0) = false := by simp [h0]
    have HC0' : Hid (c' = 0) := h0
    have ok1 := Rm.mfault_ok (HCC.out.1.symm.trans HC0.out)
    have ok2 := Rm.mfault_ok (HCC.out.2.1.symm.trans h0)
    have HO : Hid (0 < np ∧ np ≤ 24 ∧ 0 < np' ∧ np' ≤ 24) := ⟨by omega, by omega, by omega, by omega⟩
    clear h0 ok1 ok2
    obtain ⟨ma, rfl, hma⟩ : ∃ m : Lie, va = .slice (some ⟨m.b, 0, none⟩) np m.cap ∧ Mat 0 wc.heap.size wc m np (fun _ => np) (rdm ph C nc) := by
      rcases HC.out.1 with ⟨h1, _⟩ | ⟨_, m, e, hm⟩
      · exact absurd HC0.out h1
      · exact ⟨m, e, hm⟩
    obtain ⟨mb, rfl, hmb⟩ : ∃ m : Lie, vb = .slice (some ⟨m.b, 0, none⟩) np' m.cap ∧ Mat 0 wc.heap.size wc m np' (fun _ => np') (rdm ph' C' nc') := by
      rcases HC.out.2.1 with ⟨h1, _⟩ | ⟨_, m, e, hm⟩
      · exact absurd HC0'.out h1
      · exact ⟨m, e, hm⟩
    have HMM : Hid (Mat 0 wc.heap.size wc ma np (fun _ => np) (rdm ph C nc) ∧ Mat 0 wc.heap.size wc mb np' (fun _ => np') (rdm ph' C' nc')) := ⟨hma, hmb⟩
    clear hma hmb
    go_wp2_with fail
    refine (iMulRows_any HMM.out.2 HMM.out.1 (by have := HP.out; omega) (by have := HP.out; omega) (fun _ _ => by have := HP.out; omega) (fun _ _ => by have := HP.out; omega)).mono ?_
    rintro e w5 ⟨v5, rfl, ho5, hb5⟩
    rw [show (fun i j => Rm.dot (rdm ph' C' nc') (rdm ph C nc) i j np') = A from HCC.out.2.2.symm] at ho5
    have z5 := hb5.size
    have HX5 : Hid (Below X.heap.size X w5) := HX.out.trans (hb5.mono HX.out.size)
    clear HMM HC c10 c11 c20 c21 hb5
    by_cases he : np = np'
    case neg =>
      have hmc : mulCode np' (fun _ => np') np (fun _ => np) = 1 := mul_odd HO.out.2.2.1 HO.out.2.2.2 HO.out.1 HO.out.2.1 (fun e => he e.symm)
      have HU : Hid (ccd c c' np np' A = 1 ∧ csd c c' np np' A = 0 ∧ cnp c c' np np' A = 0 ∧ cnc c c' np np' A = 0) := ⟨c_odd HC0.out HC0'.out he, c_bad fun h => he h.2.2⟩
      rw [hmc] at ho5 ⊢
      obtain rfl : v5 = .slice none 0 0 := by
        rcases ho5 with ⟨_, e⟩ | ⟨h1, _⟩
        · exact e
        · exact absurd h1 (by decide)
      clear he hmc ho5
      obtain ⟨Y, hY⟩ : ∃ Y, Y = w5.alloc (.cells #[.int .i64 1, .slice none 0 0] 25) := ⟨_, rfl⟩
      have HY : Hid (Below X.heap.size X Y) := by rw [hY]; exact HX5.out.alloc HX5.out.size _
      have BY : Hid (Blk Y w5.heap.size #[.int .i64 1, .slice none 0 0] 25) := by rw [hY]; exact Blk.new rfl
      go_upto_region 7 with fail
      rw [← hY]
      clear hY
      have d0 := BY.out.cell (j := 0) (v := .int .i64 1) rfl
      have d1 := BY.out.cell (j := 1) (v := .slice none 0 0) rfl
      have hB := BX.out.2.2.1.old HY.out
      have r0 := hB.cell (j := 0) rfl
      have r1 := hB.cell (j := 1) rfl
      have r2 := hB.cell (j := 2) rfl
      have r3 := hB.cell (j := 3) rfl
      have rf := hB.frozen
      have rl := hB.lt
      go_wp2
      refine bodyPost_ret (res_of (cs := #[.int .i64 1, .int .i64 0, .slice none 0 0, .slice none 0 0]) Try.results53 rfl ((((hB.set 0 _ rfl).set 1 _ rfl).set 2 _ rfl).set 3 _ rfl) Try.underlying61 (by kernel_rfl)) rfl ⟨.slice none 0 0, .slice none 0 0, by rw [HU.out.1, HU.out.2.1], by rw [HU.out.2.2.1, HU.out.2.2.2]; exact MeO.nil _ _ _ _ _, ?_⟩
      have h1 : Below w.heap.size w Y := BX.out.2.2.2.1.trans (HY.out.mono (by omega))
      repeat (first | exact h1 | (refine Below.setCell ?_ (by simp <;> omega) _))
    have hmc : mulCode np' (fun _ => np') np (fun _ => np) = 0 := by rw [he]; exact mul_sq HO.out.2.2.1 HO.out.2.2.2
    have HU : Hid (cok c c' np np') := ⟨HC0.out, HC0'.out, he⟩
    rw [hmc] at ho5 ⊢
    obtain ⟨m5, rfl, hm5⟩ : ∃ m : Lie, v5 = .slice (some ⟨m.b, 0, none⟩) np' m.cap ∧ Mat wc.heap.size w5.heap.size w5 m np' (fun _ => np') A := by
      rcases ho5 with ⟨h1, _⟩ | ⟨_, m, e, hm⟩
      · exact absurd rfl h1
      · exact ⟨m, e, hm⟩
    clear he hmc ho5
    obtain ⟨Y, hY⟩ : ∃ Y, Y = w5.alloc (.cells #[.int .i64 0, .slice (some ⟨m5.b, 0, none⟩) np' m5.cap] 25) := ⟨_, rfl⟩
    have HY : Hid (Below X.heap.size X Y ∧ RdMat Y (.slice (some ⟨m5.b, 0, none⟩) np' m5.cap) np' (fun _ => np') A) := by rw [hY]; exact ⟨HX5.out.alloc HX5.out.size _, (hm5.alloc _ (Nat.le_refl _)).rd⟩
    have BY : Hid (Blk Y w5.heap.size #[.int .i64 0, .slice (some ⟨m5.b, 0, none⟩) np' m5.cap] 25) := by rw [hY]; exact Blk.new rfl
    clear hm5
    go_upto_region 7 with fail
    rw [← hY]
    clear hY
    have d0 := BY.out.cell (j := 0) (v := .int .i64 0) rfl
    have d1 := BY.out.cell (j := 1) (v := .slice (some ⟨m5.b, 0, none⟩) np' m5.cap) rfl
    go_wp2_with fail
    refine (iProg_any _ 0 _ HY.out.2 (by have := HP.out; omega) (fun _ _ => by have := HP.out; omega)).mono ?_
    rintro e w6 ⟨v6, u6, rfl, hme, hb6⟩
    obtain ⟨sa, sc, sb, sq, e3, e4⟩ := hme.rd.shape
    subst e3
    subst e4
    have z6 := hb6.size
    have zY := HY.out.1.size
    have HX6 : Hid (Below X.heap.size X w6) := HY.out.1.trans (hb6.mono HY.out.1.size)
    have HME : Hid (MeO Y.heap.size w6.heap.size w6 (.slice sa (pnp np' (fun _ => np') A) sc) (.slice sb (pnc np' (fun _ => np') A) sq) (pnp np' (fun _ => np') A) (pph np' (fun _ => np') A) (pnc np' (fun _ => np') A) (pC np' (fun _ => np') A)) := hme
    clear hme hb6 d0 d1
    have hB := BX.out.2.2.1.old HX6.out
    have r0 := hB.cell (j := 0) rfl
    have r1 := hB.cell (j := 1) rfl
    have r2 := hB.cell (j := 2) rfl
    have r3 := hB.cell (j := 3) rfl
    have rf := hB.frozen
    have rl := hB.lt
    go_wp2
    obtain ⟨u1, u2, u3, u4⟩ := c_good (A := A) HU.out
    refine bodyPost_ret (res_of (cs := #[.int .i64 (pcd np' (fun _ => np') A), .int .i64 (psd np' (fun _ => np') A), .slice sa (pnp np' (fun _ => np') A) sc, .slice sb (pnc np' (fun _ => np') A) sq]) Try.results53 rfl ((((hB.set 0 _ rfl).set 1 _ rfl).set 2 _ rfl).set 3 _ rfl) Try.underlying61 (by kernel_rfl)) rfl ⟨_, _, by rw [u1, u2], ?_, ?_⟩
    · rw [u3, u4]
      exact (meO_four HME.out (by omega)).wide (by omega) (Nat.le_refl _)
    · have h1 : Below w.heap.size w w6 := BX.out.2.2.2.1.trans (HX6.out.mono (by omega))
      repeat (first | exact h1 | (refine Below.setCell ?_ (by simp <;> omega) _))

end Go.Proofs.Ytboppklcmdfphaa
namespace Go.Proofs.Ytboppklcmdfphaa.LawCascadeMeshes
open Go.ChangeShapes Go.WideShapes Go.ChangeAt Go.RowKit Go.Joins
set_option linter.unusedVariables false

theorem weaks {P : Program} {f : Nat} {args : Array Value} {w : World} {c d : Int} {n m : Nat} {p : Nat → Int} {Q : Nat → Ce} (h : Calls P f args w fun e w' => ∃ v0 v1, e = .returned (.agg #[.int .i64 c, .int .i64 d, v0, v1]) ∧ MeO w.heap.size w'.heap.size w' v0 v1 n p m Q ∧ Below w.heap.size w w') :
    Calls P f args w fun e w' => ∃ v0 v1 lo hi, e = .returned (.agg #[.int .i64 c, .int .i64 d, v0, v1]) ∧ w.heap.size ≤ lo ∧ lo ≤ hi ∧ hi ≤ w'.heap.size ∧ MeO lo hi w' v0 v1 n p m Q ∧ Below w.heap.size w w' := by
  refine h.mono ?_
  rintro e w' ⟨v0, v1, rfl, h1, h2⟩
  exact ⟨v0, v1, _, _, rfl, Nat.le_refl _, h2.size, Nat.le_refl _, h1, h2⟩
theorem weakh {P : Program} {f : Nat} {args : Array Value} {w : World} {c d : Int} {n m : Nat} {p : Nat → Int} {Q : Nat → Ce} (h : Calls P f args w fun e w' => ∃ v0 v1, e = .returned (.agg #[.int .i64 c, .int .i64 d, v0, v1]) ∧ MeO w.heap.size w'.heap.size w' v0 v1 n p m Q ∧ Below w.heap.size w w') :
    Calls P f args w fun e w' => ∃ v0 v1 lo hi, e = .returned (.agg #[.int .i64 c, .int .i64 d, v0, v1]) ∧ w.heap.size ≤ lo ∧ lo ≤ hi ∧ hi ≤ w'.heap.size ∧ MeO lo hi w' v0 v1 n p m Q ∧ Below w.heap.size w w' := by
  refine h.mono ?_
  rintro e w' ⟨v0, v1, rfl, h1, h2⟩
  exact ⟨v0, v1, _, _, rfl, Nat.le_refl _, h2.size, Nat.le_refl _, h1, h2⟩
theorem set_four {W : World} {k : Nat} {a b : Int} {u v : Value} (h : Blk W k #[.int .i64 0, .int .i64 0, .slice none 0 0, .slice none 0 0] 61) : Blk ((((W.setCell ⟨k, 0, none⟩ (.int .i64 a)).setCell ⟨k, 1, none⟩ (.int .i64 b)).setCell ⟨k, 2, none⟩ u).setCell ⟨k, 3, none⟩ v) k #[.int .i64 a, .int .i64 b, u, v] 61 :=
  Blk.set (cs := #[.int .i64 a, .int .i64 b, u, .slice none 0 0]) (Blk.set (cs := #[.int .i64 a, .int .i64 b, .slice none 0 0, .slice none 0 0]) (Blk.set (cs := #[.int .i64 a, .int .i64 0, .slice none 0 0, .slice none 0 0]) (Blk.set (cs := #[.int .i64 0, .int .i64 0, .slice none 0 0, .slice none 0 0]) h 0 _ rfl) 1 _ rfl) 2 _ rfl) 3 _ rfl
theorem keep_set4 {W : World} {lo hi b i j k l : Nat} {u v s t : Value} (h : b < lo ∨ hi ≤ b) : Keep lo hi W ((((W.setCell ⟨b, i, none⟩ u).setCell ⟨b, j, none⟩ v).setCell ⟨b, k, none⟩ s).setCell ⟨b, l, none⟩ t) := fun q h1 h2 => by
  rw [Below.heap_setCell _ _ _ _ (by show q ≠ b; omega), Below.heap_setCell _ _ _ _ (by show q ≠ b; omega), Below.heap_setCell _ _ _ _ (by show q ≠ b; omega), Below.heap_setCell _ _ _ _ (by show q ≠ b; omega)]
set_option maxHeartbeats 8000000 in
set_option maxRecDepth 20000 in
theorem walk {w : World} {sd0 : Int} {ao0 bo0 : Option Addr} {np0 cp0 nc0 cq0 : Nat} {ph0 : Nat → Int} {C0 : Nat → Ce} (hp0 : RdRow w (.slice ao0 np0 cp0) np0 ph0) (hc0 : RdV w (.slice bo0 nc0 cq0) nc0 6 (fun i j => ccell (C0 i) j)) (bp0 : np0 ≤ 9223372036854775807) (bc0 : nc0 ≤ 9223372036854775807) {sd1 : Int} {ao1 bo1 : Option Addr} {np1 cp1 nc1 cq1 : Nat} {ph1 : Nat → Int} {C1 : Nat → Ce} (hp1 : RdRow w (.slice ao1 np1 cp1) np1 ph1) (hc1 : RdV w (.slice bo1 nc1 cq1) nc1 6 (fun i j => ccell (C1 i) j)) (bp1 : np1 ≤ 9223372036854775807) (bc1 : nc1 ≤ 9223372036854775807) :
    Calls Try.prog 11 #[.agg #[.int .i64 sd0, .slice ao0 np0 cp0, .slice bo0 nc0 cq0], .agg #[.int .i64 sd1, .slice ao1 np1 cp1, .slice bo1 nc1 cq1]] w fun e w' => e = .returned (.bool true) ∧ Below w.heap.size w w' := by
  have H0 : Hid (RdRow w (.slice ao0 np0 cp0) np0 ph0 ∧ RdV w (.slice bo0 nc0 cq0) nc0 6 (fun i j => ccell (C0 i) j)) := ⟨hp0, hc0⟩
  clear hp0 hc0
  have H1 : Hid (RdRow w (.slice ao1 np1 cp1) np1 ph1 ∧ RdV w (.slice bo1 nc1 cq1) nc1 6 (fun i j => ccell (C1 i) j)) := ⟨hp1, hc1⟩
  clear hp1 hc1
  have D_w : Hid (Below w.heap.size w w) := Below.refl _ _
  have zw : w.heap.size ≤ w.heap.size := Nat.le_refl _
  obtain ⟨c, hcc⟩ : ∃ c, c = Rm.mfault sd0 np0 ph0 nc0 C0 := ⟨_, rfl⟩
  obtain ⟨c', hcc'⟩ : ∃ c, c = Rm.mfault sd1 np1 ph1 nc1 C1 := ⟨_, rfl⟩
  obtain ⟨A, hA⟩ : ∃ A, A = cA np1 ph1 nc1 C1 ph0 nc0 C0 := ⟨_, rfl⟩
  have HCC : Hid (c = Rm.mfault sd0 np0 ph0 nc0 C0 ∧ c' = Rm.mfault sd1 np1 ph1 nc1 C1 ∧ A = cA np1 ph1 nc1 C1 ph0 nc0 C0) := ⟨hcc, hcc', hA⟩
  clear hcc hcc' hA
  go_enter Try.func11, Try.ntmps11
  go_wp2_with fail
  obtain ⟨w1, hwd⟩ : ∃ W, W = ((w.alloc (.cells #[.int .i64 sd0, .slice ao0 np0 cp0, .slice bo0 nc0 cq0] 44)).alloc (.cells #[.int .i64 sd1, .slice ao1 np1 cp1, .slice bo1 nc1 cq1] 44)) := ⟨_, rfl⟩
  have B_a0 : Hid (Blk w1 w.heap.size #[.int .i64 sd0, .slice ao0 np0 cp0, .slice bo0 nc0 cq0] 44) := by rw [hwd]; exact (Blk.new rfl).alloc _
  have B_a1 : Hid (Blk w1 (w.heap.size + 1) #[.int .i64 sd1, .slice ao1 np1 cp1, .slice bo1 nc1 cq1] 44) := by rw [hwd]; exact Blk.new (by simp)
  have hbb : Below w.heap.size w w1 := by rw [hwd]; exact ((Below.refl _ _).alloc (Nat.le_refl _) _).alloc (by simp) _
  have yw1 : w.heap.size + 2 ≤ w1.heap.size := by rw [hwd]; simp
  rw [← hwd]
  clear hwd
  have zw1 : w.heap.size ≤ w1.heap.size := hbb.size
  replace D_w : Hid (Below w.heap.size w w1) := D_w.out.trans (hbb.mono (by omega))
  clear hbb
  refine (szMe_any _ _ _ _ _ _ _ 1048576 _ (by omega) (by omega) bp0 bc0).mono ?_
  rintro e w2 ⟨rfl, hbb⟩
  have zw2 : w1.heap.size ≤ w2.heap.size := hbb.size
  replace B_a0 : Hid (Blk w2 w.heap.size #[.int .i64 sd0, .slice ao0 np0 cp0, .slice bo0 nc0 cq0] 44) := B_a0.out.old hbb
  replace B_a1 : Hid (Blk w2 (w.heap.size + 1) #[.int .i64 sd1, .slice ao1 np1 cp1, .slice bo1 nc1 cq1] 44) := B_a1.out.old hbb
  replace D_w : Hid (Below w.heap.size w w2) := D_w.out.trans (hbb.mono (by omega))
  clear hbb
  obtain ⟨left0, hleft0⟩ : ∃ l, l = szM 1048576 np0 nc0 := ⟨_, rfl⟩
  rw [← hleft0]
  by_cases hr0 : left0 < 0
  · go_wp2
    go_ret
    exact ⟨rfl, D_w.out⟩
  have hs0 := szM_ok (hleft0 ▸ hr0)
  have hs0b : left0 ≤ 1048576 := by rw [hleft0]; exact szM_le _ _ _ (by omega)
  clear hleft0
  have c_a1_0 := B_a1.out.cell (j := 0) rfl
  have c_a1_1 := B_a1.out.cell (j := 1) rfl
  have c_a1_2 := B_a1.out.cell (j := 2) rfl
  have l_a1 := B_a1.out.lt
  go_wp2_with fail
  refine (szMe_any _ _ _ _ _ _ _ left0 _ (by omega) (by omega) bp1 bc1).mono ?_
  rintro e w3 ⟨rfl, hbb⟩
  clear c_a1_0 c_a1_1 c_a1_2 l_a1
  have zw3 : w2.heap.size ≤ w3.heap.size := hbb.size
  replace B_a0 : Hid (Blk w3 w.heap.size #[.int .i64 sd0, .slice ao0 np0 cp0, .slice bo0 nc0 cq0] 44) := B_a0.out.old hbb
  replace B_a1 : Hid (Blk w3 (w.heap.size + 1) #[.int .i64 sd1, .slice ao1 np1 cp1, .slice bo1 nc1 cq1] 44) := B_a1.out.old hbb
  replace D_w : Hid (Below w.heap.size w w3) := D_w.out.trans (hbb.mono (by omega))
  clear hbb
  obtain ⟨left1, hleft1⟩ : ∃ l, l = szM left0 np1 nc1 := ⟨_, rfl⟩
  rw [← hleft1]
  by_cases hr1 : left1 < 0
  · go_wp2
    go_ret
    exact ⟨rfl, D_w.out⟩
  have hs1 := szM_ok (hleft1 ▸ hr1)
  have hs1b : left1 ≤ left0 := by rw [hleft1]; exact szM_le _ _ _ (by omega)
  clear hleft1
  obtain ⟨cd, h1c⟩ : ∃ x, x = ccd c c' np0 np1 A := ⟨_, rfl⟩
  obtain ⟨sdd, h2c⟩ : ∃ x, x = csd c c' np0 np1 A := ⟨_, rfl⟩
  obtain ⟨mp, h3c⟩ : ∃ x, x = cnp c c' np0 np1 A := ⟨_, rfl⟩
  obtain ⟨mc, h4c⟩ : ∃ x, x = cnc c c' np0 np1 A := ⟨_, rfl⟩
  obtain ⟨PP, h5c⟩ : ∃ x, x = pph np1 (fun _ => np1) A := ⟨_, rfl⟩
  obtain ⟨QQ, h6c⟩ : ∃ x, x = pC np1 (fun _ => np1) A := ⟨_, rfl⟩
  have hb1 : mp ≤ 24 := by rw [h3c]; exact cnp_le _ _ _ _ _
  have hb2 : mc ≤ 576 := by rw [h4c]; exact cnc_le _ _ _ _ _
  have HS : Hid (∀ (W : World) (a b a' b' : Option Addr) (p q p' q' : Nat), Me W (.slice a np0 p) (.slice b nc0 q) np0 ph0 nc0 C0 → Me W (.slice a' np1 p') (.slice b' nc1 q') np1 ph1 nc1 C1 → Calls Try.prog 52 #[.agg #[.int .i64 sd0, .slice a np0 p, .slice b nc0 q], .agg #[.int .i64 sd1, .slice a' np1 p', .slice b' nc1 q']] W fun e w' => ∃ v0 v1, e = .returned (.agg #[.int .i64 cd, .int .i64 sdd, v0, v1]) ∧ MeO W.heap.size w'.heap.size w' v0 v1 mp PP mc QQ ∧ Below W.heap.size W w') := fun W a b a' b' p q p' q' h1 h2 => by
    have := sCas_any h1 h2 (by omega) (by omega) (by omega) (by omega) HCC.out.1 HCC.out.2.1 HCC.out.2.2
    rw [← h1c, ← h2c, ← h3c, ← h4c, ← h5c, ← h6c] at this
    exact this
  have HI : Hid (∀ (W : World) (a b a' b' : Option Addr) (p q p' q' : Nat), Me W (.slice a np0 p) (.slice b nc0 q) np0 ph0 nc0 C0 → Me W (.slice a' np1 p') (.slice b' nc1 q') np1 ph1 nc1 C1 → Calls Try.prog 53 #[.agg #[.int .i64 sd0, .slice a np0 p, .slice b nc0 q], .agg #[.int .i64 sd1, .slice a' np1 p', .slice b' nc1 q']] W fun e w' => ∃ v0 v1, e = .returned (.agg #[.int .i64 cd, .int .i64 sdd, v0, v1]) ∧ MeO W.heap.size w'.heap.size w' v0 v1 mp PP mc QQ ∧ Below W.heap.size W w') := fun W a b a' b' p q p' q' h1 h2 => by
    have := iCas_any h1 h2 (by omega) (by omega) (by omega) (by omega) HCC.out.1 HCC.out.2.1 HCC.out.2.2
    rw [← h1c, ← h2c, ← h3c, ← h4c, ← h5c, ← h6c] at this
    exact this
  clear h1c h2c h3c h4c h5c h6c
  have q_a0_0 : ∀ W, Below w3.heap.size w3 W → W.cell? ⟨w.heap.size, 0, none⟩ = some (.int .i64 sd0) := fun W h => (B_a0.out.old h).cell (j := 0) rfl
  have q_a0_1 : ∀ W, Below w3.heap.size w3 W → W.cell? ⟨w.heap.size, 1, none⟩ = some (.slice ao0 np0 cp0) := fun W h => (B_a0.out.old h).cell (j := 1) rfl
  have q_a0_2 : ∀ W, Below w3.heap.size w3 W → W.cell? ⟨w.heap.size, 2, none⟩ = some (.slice bo0 nc0 cq0) := fun W h => (B_a0.out.old h).cell (j := 2) rfl
  have q_a1_0 : ∀ W, Below w3.heap.size w3 W → W.cell? ⟨(w.heap.size + 1), 0, none⟩ = some (.int .i64 sd1) := fun W h => (B_a1.out.old h).cell (j := 0) rfl
  have q_a1_1 : ∀ W, Below w3.heap.size w3 W → W.cell? ⟨(w.heap.size + 1), 1, none⟩ = some (.slice ao1 np1 cp1) := fun W h => (B_a1.out.old h).cell (j := 1) rfl
  have q_a1_2 : ∀ W, Below w3.heap.size w3 W → W.cell? ⟨(w.heap.size + 1), 2, none⟩ = some (.slice bo1 nc1 cq1) := fun W h => (B_a1.out.old h).cell (j := 2) rfl
  have QN : ∀ W, Below w3.heap.size w3 W → Hid ((RdRow W (.slice ao0 np0 cp0) np0 ph0 ∧ RdV W (.slice bo0 nc0 cq0) nc0 6 (fun i j => ccell (C0 i) j)) ∧ (RdRow W (.slice ao1 np1 cp1) np1 ph1 ∧ RdV W (.slice bo1 nc1 cq1) nc1 6 (fun i j => ccell (C1 i) j))) := fun W h => ⟨⟨H0.out.1.later (D_w.out.trans (h.mono (by omega))), H0.out.2.later (D_w.out.trans (h.mono (by omega)))⟩, H1.out.1.later (D_w.out.trans (h.mono (by omega))), H1.out.2.later (D_w.out.trans (h.mono (by omega)))⟩
  have hR0 : Below w3.heap.size w3 w3 := Below.refl _ _
  have HSZ : Hid (np0 ≤ 1048576 ∧ nc0 ≤ 1048576 ∧ np1 ≤ 1048576 ∧ nc1 ≤ 1048576) := ⟨by omega, by omega, by omega, by omega⟩
  go_wp2_with fail
  go_cut [6] from 24 to 28 (fun p wx => ∃ (kx : Nat) (v0 v1 : Value) (lo hi : Nat), p = .pointer (some ⟨kx, 0, none⟩) ∧ w3.heap.size ≤ kx ∧ kx < wx.heap.size ∧ w3.heap.size ≤ lo ∧ lo ≤ hi ∧ hi ≤ wx.heap.size ∧ Below w3.heap.size w3 wx ∧ Blk wx kx #[.int .i64 (cd), .int .i64 (sdd), v0, v1] 61 ∧ MeO lo hi wx v0 v1 mp PP mc QQ ∧ (kx < lo ∨ hi ≤ kx))
  case first =>
    go_region_held3 (fun W => Below w3.heap.size w3 W) (go_grown) (first
      | (go_at_call_of 32 (Value.agg #[.int .i64 sd0, .slice ao0 np0 cp0, .slice bo0 nc0 cq0]); refine Calls.mono (toMe_any (QN _ (by first | assumption | go_grown)).out.1.1 (QN _ (by first | assumption | go_grown)).out.1.2 HSZ.out.1 HSZ.out.2.1) ?_; rintro e wa ⟨ga, gc, rfl, ha, ba⟩; have zwa := ba.size; (try simp at zwa); have hRwa : Below w3.heap.size w3 wa := (by refine box_step ?_ ba (by go_size); go_grown); (first | (have hZ := box_step hZ ba (Nat.le_refl _)) | (have hZ := ba)); obtain ⟨ho1, hf1, hz1⟩ := olds hZ; have HA : Hid (Me wa (.slice (some ⟨ga, 0, none⟩) np0 np0) (.slice (some ⟨gc, 0, none⟩) nc0 nc0) np0 ph0 nc0 C0) := ha.rd; have kaa : Below wa.heap.size wa wa := Below.refl _ _; clear ha)
      | (go_at_call_of 32 (Value.agg #[.int .i64 sd1, .slice ao1 np1 cp1, .slice bo1 nc1 cq1]); refine Calls.mono (toMe_any (QN _ (by first | assumption | go_grown)).out.2.1 (QN _ (by first | assumption | go_grown)).out.2.2 HSZ.out.2.2.1 HSZ.out.2.2.2) ?_; rintro e wb ⟨gb, gd, rfl, hb', bb⟩; have zwb := bb.size; (try simp at zwb); have hRwb : Below w3.heap.size w3 wb := (by refine box_step ?_ bb (by go_size); go_grown); (first | (have hZ := box_step hZ bb (Nat.le_refl _)) | (have hZ := bb)); obtain ⟨ho1, hf1, hz1⟩ := olds hZ; have HB2 : Hid (Me wb (.slice (some ⟨gb, 0, none⟩) np1 np1) (.slice (some ⟨gd, 0, none⟩) nc1 nc1) np1 ph1 nc1 C1) := hb'.rd; have kbb : Below wb.heap.size wb wb := Below.refl _ _; have kab : Below wa.heap.size wa wb := (by refine box_step ?_ bb (by go_size); go_grown); clear hb')
      | (go_at_call 52; refine Calls.mono (weaks (HS.out _ _ _ _ _ _ _ _ _ (HA.out.later (by first | assumption | go_grown)) (HB2.out.later (by first | assumption | go_grown)))) ?_; rintro e we ⟨v0, v1, lo, hi, rfl, hlo, hlh, hhi, ov, be⟩; obtain ⟨vo, vc, vu, vy, e8, e9⟩ := ov.rd.shape; subst e8; subst e9; (try simp at hlo); have zwe := be.size; (try simp at zwe); have hRwe : Below w3.heap.size w3 we := (by refine box_step ?_ be (by go_size); go_grown); (first | (have hZ := box_step hZ be (Nat.le_refl _)) | (have hZ := be)); obtain ⟨ho1, hf1, hz1⟩ := olds hZ; have OV : Hid (MeO lo hi we (.slice vo mp vc) (.slice vu mc vy) mp PP mc QQ) := ov; clear ov))
    all_goals
      go_wp2_with fail
      go_meet
      case rel =>
        refine ⟨_, .slice vo mp vc, .slice vu mc vy, lo, hi, rfl, ?_, ?_, ?_, hlh, ?_, ?_, ?_, ?_, ?_⟩
        · omega
        · simp [World.setCell] <;> omega
        · omega
        · simp [World.setCell] <;> omega
        · first | assumption | go_grown
        · first | with_reducible exact Blk.new rfl | with_reducible exact Blk.new (by simp) | (with_reducible refine set_four ?_; first | with_reducible exact (Blk.new rfl).old hZ | with_reducible exact ((Blk.new rfl).drew).old hZ)
        · with_reducible refine MeO.keep OV.out ?_
          first
            | (with_reducible refine keep_set4 ?_; omega)
            | (with_reducible refine keep_below (Below.alloc (Below.refl _ _) (Nat.le_refl _) _) ?_; omega)
        · omega
  case rest =>
    obtain ⟨ks, y0s, y1s, los, his, rfl, hk1s, hk2s, hl1s, hl3s, hl2s, hbb, hN, ov, hds⟩ := hcut
    obtain ⟨sa, sc, sb, sq, e8s, e9s⟩ := ov.rd.shape
    subst e8s
    subst e9s
    clear hR0 QN HSZ q_a0_0 q_a0_1 q_a0_2 q_a1_0 q_a1_1 q_a1_2
    obtain ⟨w4, hv⟩ : ∃ v, v = wc := ⟨_, rfl⟩
    subst hv
    have zw4 : w3.heap.size ≤ w4.heap.size := hbb.size
    replace B_a0 : Hid (Blk w4 w.heap.size #[.int .i64 sd0, .slice ao0 np0 cp0, .slice bo0 nc0 cq0] 44) := B_a0.out.old hbb
    replace B_a1 : Hid (Blk w4 (w.heap.size + 1) #[.int .i64 sd1, .slice ao1 np1 cp1, .slice bo1 nc1 cq1] 44) := B_a1.out.old hbb
    replace D_w : Hid (Below w.heap.size w w4) := D_w.out.trans (hbb.mono (by omega))
    clear hbb
    have B_S : Hid (Blk w4 ks #[.int .i64 (cd), .int .i64 (sdd), .slice sa mp sc, .slice sb mc sq] 61) := hN
    clear hN
    have O_s : Hid (MeO los his w4 (.slice sa mp sc) (.slice sb mc sq) mp PP mc QQ) := ov
    clear ov
    have c_a0_0 := B_a0.out.cell (j := 0) rfl
    have c_a0_1 := B_a0.out.cell (j := 1) rfl
    have c_a0_2 := B_a0.out.cell (j := 2) rfl
    have l_a0 := B_a0.out.lt
    go_wp2_with fail
    refine (toMe_any (H0.out.1.later D_w.out) (H0.out.2.later D_w.out) (by omega) (by omega)).mono ?_
    rintro e w5 ⟨gax0, gbx0, rfl, hmo, hbb⟩
    clear c_a0_0 c_a0_1 c_a0_2 l_a0
    have zw5 : w4.heap.size ≤ w5.heap.size := hbb.size
    replace B_a0 : Hid (Blk w5 w.heap.size #[.int .i64 sd0, .slice ao0 np0 cp0, .slice bo0 nc0 cq0] 44) := B_a0.out.old hbb
    replace B_a1 : Hid (Blk w5 (w.heap.size + 1) #[.int .i64 sd1, .slice ao1 np1 cp1, .slice bo1 nc1 cq1] 44) := B_a1.out.old hbb
    replace B_S : Hid (Blk w5 ks #[.int .i64 (cd), .int .i64 (sdd), .slice sa mp sc, .slice sb mc sq] 61) := B_S.out.old hbb
    replace O_s : Hid (MeO los his w5 (.slice sa mp sc) (.slice sb mc sq) mp PP mc QQ) := O_s.out.keep (keep_below hbb (by omega))
    replace D_w : Hid (Below w.heap.size w w5) := D_w.out.trans (hbb.mono (by omega))
    clear hbb
    have O_x0 : Hid (MeO w4.heap.size w5.heap.size w5 (.slice (some ⟨gax0, 0, none⟩) np0 np0) (.slice (some ⟨gbx0, 0, none⟩) nc0 nc0) np0 ph0 nc0 C0) := hmo
    clear hmo
    have c_a1_0 := B_a1.out.cell (j := 0) rfl
    have c_a1_1 := B_a1.out.cell (j := 1) rfl
    have c_a1_2 := B_a1.out.cell (j := 2) rfl
    have l_a1 := B_a1.out.lt
    go_wp2_with fail
    obtain ⟨w6, hwd⟩ : ∃ W, W = w5.alloc (.cells #[.int .i64 sd0, .slice (some ⟨gax0, 0, none⟩) np0 np0, .slice (some ⟨gbx0, 0, none⟩) nc0 nc0] 49) := ⟨_, rfl⟩
    have NB : Hid (Blk w6 w5.heap.size #[.int .i64 sd0, .slice (some ⟨gax0, 0, none⟩) np0 np0, .slice (some ⟨gbx0, 0, none⟩) nc0 nc0] 49) := by rw [hwd]; exact Blk.new rfl
    have hbb : Below w5.heap.size w5 w6 := by rw [hwd]; exact (Below.refl _ _).alloc (Nat.le_refl _) _
    have yw6 : w5.heap.size + 1 ≤ w6.heap.size := by rw [hwd]; simp
    rw [← hwd]
    clear hwd
    clear c_a1_0 c_a1_1 c_a1_2 l_a1
    have zw6 : w5.heap.size ≤ w6.heap.size := hbb.size
    replace B_a0 : Hid (Blk w6 w.heap.size #[.int .i64 sd0, .slice ao0 np0 cp0, .slice bo0 nc0 cq0] 44) := B_a0.out.old hbb
    replace B_a1 : Hid (Blk w6 (w.heap.size + 1) #[.int .i64 sd1, .slice ao1 np1 cp1, .slice bo1 nc1 cq1] 44) := B_a1.out.old hbb
    replace B_S : Hid (Blk w6 ks #[.int .i64 (cd), .int .i64 (sdd), .slice sa mp sc, .slice sb mc sq] 61) := B_S.out.old hbb
    replace O_s : Hid (MeO los his w6 (.slice sa mp sc) (.slice sb mc sq) mp PP mc QQ) := O_s.out.keep (keep_below hbb (by omega))
    replace O_x0 : Hid (MeO w4.heap.size w5.heap.size w6 (.slice (some ⟨gax0, 0, none⟩) np0 np0) (.slice (some ⟨gbx0, 0, none⟩) nc0 nc0) np0 ph0 nc0 C0) := O_x0.out.keep (keep_below hbb (by omega))
    replace D_w : Hid (Below w.heap.size w w6) := D_w.out.trans (hbb.mono (by omega))
    clear hbb
    have B_x0 := NB
    clear NB
    refine (toMe_any (H1.out.1.later D_w.out) (H1.out.2.later D_w.out) (by omega) (by omega)).mono ?_
    rintro e w7 ⟨gax1, gbx1, rfl, hmo, hbb⟩
    have zw7 : w6.heap.size ≤ w7.heap.size := hbb.size
    replace B_a0 : Hid (Blk w7 w.heap.size #[.int .i64 sd0, .slice ao0 np0 cp0, .slice bo0 nc0 cq0] 44) := B_a0.out.old hbb
    replace B_a1 : Hid (Blk w7 (w.heap.size + 1) #[.int .i64 sd1, .slice ao1 np1 cp1, .slice bo1 nc1 cq1] 44) := B_a1.out.old hbb
    replace B_S : Hid (Blk w7 ks #[.int .i64 (cd), .int .i64 (sdd), .slice sa mp sc, .slice sb mc sq] 61) := B_S.out.old hbb
    replace B_x0 : Hid (Blk w7 w5.heap.size #[.int .i64 sd0, .slice (some ⟨gax0, 0, none⟩) np0 np0, .slice (some ⟨gbx0, 0, none⟩) nc0 nc0] 49) := B_x0.out.old hbb
    replace O_s : Hid (MeO los his w7 (.slice sa mp sc) (.slice sb mc sq) mp PP mc QQ) := O_s.out.keep (keep_below hbb (by omega))
    replace O_x0 : Hid (MeO w4.heap.size w5.heap.size w7 (.slice (some ⟨gax0, 0, none⟩) np0 np0) (.slice (some ⟨gbx0, 0, none⟩) nc0 nc0) np0 ph0 nc0 C0) := O_x0.out.keep (keep_below hbb (by omega))
    replace D_w : Hid (Below w.heap.size w w7) := D_w.out.trans (hbb.mono (by omega))
    clear hbb
    have O_x1 : Hid (MeO w6.heap.size w7.heap.size w7 (.slice (some ⟨gax1, 0, none⟩) np1 np1) (.slice (some ⟨gbx1, 0, none⟩) nc1 nc1) np1 ph1 nc1 C1) := hmo
    clear hmo
    have c_x0_0 := B_x0.out.cell (j := 0) rfl
    have c_x0_1 := B_x0.out.cell (j := 1) rfl
    have c_x0_2 := B_x0.out.cell (j := 2) rfl
    have l_x0 := B_x0.out.lt
    go_wp2_with fail
    obtain ⟨w8, hwd⟩ : ∃ W, W = w7.alloc (.cells #[.int .i64 sd1, .slice (some ⟨gax1, 0, none⟩) np1 np1, .slice (some ⟨gbx1, 0, none⟩) nc1 nc1] 49) := ⟨_, rfl⟩
    have NB : Hid (Blk w8 w7.heap.size #[.int .i64 sd1, .slice (some ⟨gax1, 0, none⟩) np1 np1, .slice (some ⟨gbx1, 0, none⟩) nc1 nc1] 49) := by rw [hwd]; exact Blk.new rfl
    have hbb : Below w7.heap.size w7 w8 := by rw [hwd]; exact (Below.refl _ _).alloc (Nat.le_refl _) _
    have yw8 : w7.heap.size + 1 ≤ w8.heap.size := by rw [hwd]; simp
    rw [← hwd]
    clear hwd
    clear c_x0_0 c_x0_1 c_x0_2 l_x0
    have zw8 : w7.heap.size ≤ w8.heap.size := hbb.size
    replace B_a0 : Hid (Blk w8 w.heap.size #[.int .i64 sd0, .slice ao0 np0 cp0, .slice bo0 nc0 cq0] 44) := B_a0.out.old hbb
    replace B_a1 : Hid (Blk w8 (w.heap.size + 1) #[.int .i64 sd1, .slice ao1 np1 cp1, .slice bo1 nc1 cq1] 44) := B_a1.out.old hbb
    replace B_S : Hid (Blk w8 ks #[.int .i64 (cd), .int .i64 (sdd), .slice sa mp sc, .slice sb mc sq] 61) := B_S.out.old hbb
    replace B_x0 : Hid (Blk w8 w5.heap.size #[.int .i64 sd0, .slice (some ⟨gax0, 0, none⟩) np0 np0, .slice (some ⟨gbx0, 0, none⟩) nc0 nc0] 49) := B_x0.out.old hbb
    replace O_s : Hid (MeO los his w8 (.slice sa mp sc) (.slice sb mc sq) mp PP mc QQ) := O_s.out.keep (keep_below hbb (by omega))
    replace O_x0 : Hid (MeO w4.heap.size w5.heap.size w8 (.slice (some ⟨gax0, 0, none⟩) np0 np0) (.slice (some ⟨gbx0, 0, none⟩) nc0 nc0) np0 ph0 nc0 C0) := O_x0.out.keep (keep_below hbb (by omega))
    replace O_x1 : Hid (MeO w6.heap.size w7.heap.size w8 (.slice (some ⟨gax1, 0, none⟩) np1 np1) (.slice (some ⟨gbx1, 0, none⟩) nc1 nc1) np1 ph1 nc1 C1) := O_x1.out.keep (keep_below hbb (by omega))
    replace D_w : Hid (Below w.heap.size w w8) := D_w.out.trans (hbb.mono (by omega))
    clear hbb
    have B_x1 := NB
    clear NB
    have c_x0_0 := B_x0.out.cell (j := 0) rfl
    have c_x0_1 := B_x0.out.cell (j := 1) rfl
    have c_x0_2 := B_x0.out.cell (j := 2) rfl
    have l_x0 := B_x0.out.lt
    have c_x1_0 := B_x1.out.cell (j := 0) rfl
    have c_x1_1 := B_x1.out.cell (j := 1) rfl
    have c_x1_2 := B_x1.out.cell (j := 2) rfl
    have l_x1 := B_x1.out.lt
    refine (HI.out _ _ _ _ _ _ _ _ _ O_x0.out.rd O_x1.out.rd).mono ?_
    rintro e w9 ⟨g0, g1, rfl, hoo, hbb⟩
    clear c_x0_0 c_x0_1 c_x0_2 l_x0 c_x1_0 c_x1_1 c_x1_2 l_x1
    obtain ⟨ga, gc, gb, gq, e0, e1⟩ := hoo.rd.shape
    subst e0
    subst e1
    have zw9 : w8.heap.size ≤ w9.heap.size := hbb.size
    replace B_a0 : Hid (Blk w9 w.heap.size #[.int .i64 sd0, .slice ao0 np0 cp0, .slice bo0 nc0 cq0] 44) := B_a0.out.old hbb
    replace B_a1 : Hid (Blk w9 (w.heap.size + 1) #[.int .i64 sd1, .slice ao1 np1 cp1, .slice bo1 nc1 cq1] 44) := B_a1.out.old hbb
    replace B_S : Hid (Blk w9 ks #[.int .i64 (cd), .int .i64 (sdd), .slice sa mp sc, .slice sb mc sq] 61) := B_S.out.old hbb
    replace B_x0 : Hid (Blk w9 w5.heap.size #[.int .i64 sd0, .slice (some ⟨gax0, 0, none⟩) np0 np0, .slice (some ⟨gbx0, 0, none⟩) nc0 nc0] 49) := B_x0.out.old hbb
    replace B_x1 : Hid (Blk w9 w7.heap.size #[.int .i64 sd1, .slice (some ⟨gax1, 0, none⟩) np1 np1, .slice (some ⟨gbx1, 0, none⟩) nc1 nc1] 49) := B_x1.out.old hbb
    replace O_s : Hid (MeO los his w9 (.slice sa mp sc) (.slice sb mc sq) mp PP mc QQ) := O_s.out.keep (keep_below hbb (by omega))
    replace O_x0 : Hid (MeO w4.heap.size w5.heap.size w9 (.slice (some ⟨gax0, 0, none⟩) np0 np0) (.slice (some ⟨gbx0, 0, none⟩) nc0 nc0) np0 ph0 nc0 C0) := O_x0.out.keep (keep_below hbb (by omega))
    replace O_x1 : Hid (MeO w6.heap.size w7.heap.size w9 (.slice (some ⟨gax1, 0, none⟩) np1 np1) (.slice (some ⟨gbx1, 0, none⟩) nc1 nc1) np1 ph1 nc1 C1) := O_x1.out.keep (keep_below hbb (by omega))
    replace D_w : Hid (Below w.heap.size w w9) := D_w.out.trans (hbb.mono (by omega))
    have O_g : Hid (MeO w8.heap.size w9.heap.size w9 (.slice ga mp gc) (.slice gb mc gq) mp PP mc QQ) := hoo
    clear hoo hbb
    have c_S_0 := B_S.out.cell (j := 0) rfl
    have c_S_1 := B_S.out.cell (j := 1) rfl
    have c_S_2 := B_S.out.cell (j := 2) rfl
    have c_S_3 := B_S.out.cell (j := 3) rfl
    have l_S := B_S.out.lt
    go_wp2_with fail
    obtain ⟨w10, hwd⟩ : ∃ W, W = w9.alloc (.cells #[.int .i64 cd, .int .i64 sdd, .slice ga mp gc, .slice gb mc gq] 61) := ⟨_, rfl⟩
    have NB : Hid (Blk w10 w9.heap.size #[.int .i64 cd, .int .i64 sdd, .slice ga mp gc, .slice gb mc gq] 61) := by rw [hwd]; exact Blk.new rfl
    have hbb : Below w9.heap.size w9 w10 := by rw [hwd]; exact (Below.refl _ _).alloc (Nat.le_refl _) _
    have yw10 : w9.heap.size + 1 ≤ w10.heap.size := by rw [hwd]; simp
    rw [← hwd]
    clear hwd
    clear c_S_0 c_S_1 c_S_2 c_S_3 l_S
    have zw10 : w9.heap.size ≤ w10.heap.size := hbb.size
    replace B_a0 : Hid (Blk w10 w.heap.size #[.int .i64 sd0, .slice ao0 np0 cp0, .slice bo0 nc0 cq0] 44) := B_a0.out.old hbb
    replace B_a1 : Hid (Blk w10 (w.heap.size + 1) #[.int .i64 sd1, .slice ao1 np1 cp1, .slice bo1 nc1 cq1] 44) := B_a1.out.old hbb
    replace B_S : Hid (Blk w10 ks #[.int .i64 (cd), .int .i64 (sdd), .slice sa mp sc, .slice sb mc sq] 61) := B_S.out.old hbb
    replace B_x0 : Hid (Blk w10 w5.heap.size #[.int .i64 sd0, .slice (some ⟨gax0, 0, none⟩) np0 np0, .slice (some ⟨gbx0, 0, none⟩) nc0 nc0] 49) := B_x0.out.old hbb
    replace B_x1 : Hid (Blk w10 w7.heap.size #[.int .i64 sd1, .slice (some ⟨gax1, 0, none⟩) np1 np1, .slice (some ⟨gbx1, 0, none⟩) nc1 nc1] 49) := B_x1.out.old hbb
    replace O_s : Hid (MeO los his w10 (.slice sa mp sc) (.slice sb mc sq) mp PP mc QQ) := O_s.out.keep (keep_below hbb (by omega))
    replace O_x0 : Hid (MeO w4.heap.size w5.heap.size w10 (.slice (some ⟨gax0, 0, none⟩) np0 np0) (.slice (some ⟨gbx0, 0, none⟩) nc0 nc0) np0 ph0 nc0 C0) := O_x0.out.keep (keep_below hbb (by omega))
    replace O_x1 : Hid (MeO w6.heap.size w7.heap.size w10 (.slice (some ⟨gax1, 0, none⟩) np1 np1) (.slice (some ⟨gbx1, 0, none⟩) nc1 nc1) np1 ph1 nc1 C1) := O_x1.out.keep (keep_below hbb (by omega))
    replace O_g : Hid (MeO w8.heap.size w9.heap.size w10 (.slice ga mp gc) (.slice gb mc gq) mp PP mc QQ) := O_g.out.keep (keep_below hbb (by omega))
    replace D_w : Hid (Below w.heap.size w w10) := D_w.out.trans (hbb.mono (by omega))
    clear hbb
    have B_G := NB
    clear NB
    refine (eqMR_any O_g.out.rd O_s.out.rd (by omega) (by omega)).mono ?_
    rintro e w11 ⟨rfl, hbb⟩
    have zw11 : w10.heap.size ≤ w11.heap.size := hbb.size
    replace B_a0 : Hid (Blk w11 w.heap.size #[.int .i64 sd0, .slice ao0 np0 cp0, .slice bo0 nc0 cq0] 44) := B_a0.out.old hbb
    replace B_a1 : Hid (Blk w11 (w.heap.size + 1) #[.int .i64 sd1, .slice ao1 np1 cp1, .slice bo1 nc1 cq1] 44) := B_a1.out.old hbb
    replace B_S : Hid (Blk w11 ks #[.int .i64 (cd), .int .i64 (sdd), .slice sa mp sc, .slice sb mc sq] 61) := B_S.out.old hbb
    replace B_x0 : Hid (Blk w11 w5.heap.size #[.int .i64 sd0, .slice (some ⟨gax0, 0, none⟩) np0 np0, .slice (some ⟨gbx0, 0, none⟩) nc0 nc0] 49) := B_x0.out.old hbb
    replace B_x1 : Hid (Blk w11 w7.heap.size #[.int .i64 sd1, .slice (some ⟨gax1, 0, none⟩) np1 np1, .slice (some ⟨gbx1, 0, none⟩) nc1 nc1] 49) := B_x1.out.old hbb
    replace B_G : Hid (Blk w11 w9.heap.size #[.int .i64 cd, .int .i64 sdd, .slice ga mp gc, .slice gb mc gq] 61) := B_G.out.old hbb
    replace O_s : Hid (MeO los his w11 (.slice sa mp sc) (.slice sb mc sq) mp PP mc QQ) := O_s.out.keep (keep_below hbb (by omega))
    replace O_x0 : Hid (MeO w4.heap.size w5.heap.size w11 (.slice (some ⟨gax0, 0, none⟩) np0 np0) (.slice (some ⟨gbx0, 0, none⟩) nc0 nc0) np0 ph0 nc0 C0) := O_x0.out.keep (keep_below hbb (by omega))
    replace O_x1 : Hid (MeO w6.heap.size w7.heap.size w11 (.slice (some ⟨gax1, 0, none⟩) np1 np1) (.slice (some ⟨gbx1, 0, none⟩) nc1 nc1) np1 ph1 nc1 C1) := O_x1.out.keep (keep_below hbb (by omega))
    replace O_g : Hid (MeO w8.heap.size w9.heap.size w11 (.slice ga mp gc) (.slice gb mc gq) mp PP mc QQ) := O_g.out.keep (keep_below hbb (by omega))
    replace D_w : Hid (Below w.heap.size w w11) := D_w.out.trans (hbb.mono (by omega))
    clear hbb
    have q_x0_0 : ∀ W, Below w11.heap.size w11 W → W.cell? ⟨w5.heap.size, 0, none⟩ = some (.int .i64 sd0) := fun W h => (B_x0.out.old h).cell (j := 0) rfl
    have q_x0_1 : ∀ W, Below w11.heap.size w11 W → W.cell? ⟨w5.heap.size, 1, none⟩ = some (.slice (some ⟨gax0, 0, none⟩) np0 np0) := fun W h => (B_x0.out.old h).cell (j := 1) rfl
    have q_x0_2 : ∀ W, Below w11.heap.size w11 W → W.cell? ⟨w5.heap.size, 2, none⟩ = some (.slice (some ⟨gbx0, 0, none⟩) nc0 nc0) := fun W h => (B_x0.out.old h).cell (j := 2) rfl
    have q_a0_0 : ∀ W, Below w11.heap.size w11 W → W.cell? ⟨w.heap.size, 0, none⟩ = some (.int .i64 sd0) := fun W h => (B_a0.out.old h).cell (j := 0) rfl
    have q_a0_1 : ∀ W, Below w11.heap.size w11 W → W.cell? ⟨w.heap.size, 1, none⟩ = some (.slice ao0 np0 cp0) := fun W h => (B_a0.out.old h).cell (j := 1) rfl
    have q_a0_2 : ∀ W, Below w11.heap.size w11 W → W.cell? ⟨w.heap.size, 2, none⟩ = some (.slice bo0 nc0 cq0) := fun W h => (B_a0.out.old h).cell (j := 2) rfl
    have QA : ∀ W, Below w11.heap.size w11 W → Hid (RdRow W (.slice ao0 np0 cp0) np0 ph0 ∧ RdV W (.slice bo0 nc0 cq0) nc0 6 (fun i j => ccell (C0 i) j)) := fun W h => ⟨H0.out.1.later (D_w.out.trans (h.mono (by omega))), H0.out.2.later (D_w.out.trans (h.mono (by omega)))⟩
    have QX : ∀ W, Below w11.heap.size w11 W → Hid (Me W (.slice (some ⟨gax0, 0, none⟩) np0 np0) (.slice (some ⟨gbx0, 0, none⟩) nc0 nc0) np0 ph0 nc0 C0) := fun W h => O_x0.out.rd.later h
    go_wp2_with fail
    go_region_held (fun W => Below w11.heap.size w11 W) (go_grown)
      (first | (go_at_call 32; refine Calls.mono (toMe_any (QA _ (by go_grown)).out.1 (QA _ (by go_grown)).out.2 (by omega) (by omega)) ?_; rintro e w12 ⟨gqa, gqb, rfl, hmo, hb1⟩; have hR1 : Below w11.heap.size w11 w12 := box_step (by go_grown) hb1 (Nat.le_refl _)) | (go_at_call 34; refine Calls.mono (eqMe_any (QX _ (by go_grown)).out hmo.rd (by omega) (by omega)) ?_; rintro e w13 ⟨rfl, hb2⟩; have hR2 : Below w11.heap.size w11 w13 := box_step hR1 hb2 (Nat.le_refl _)))
    have hbb : Below w11.heap.size w11 w13 := hR2
    clear hR1 hR2 hmo hb1 hb2 QA QX q_x0_0 q_x0_1 q_x0_2 q_a0_0 q_a0_1 q_a0_2
    have zw13 : w11.heap.size ≤ w13.heap.size := hbb.size
    replace B_a0 : Hid (Blk w13 w.heap.size #[.int .i64 sd0, .slice ao0 np0 cp0, .slice bo0 nc0 cq0] 44) := B_a0.out.old hbb
    replace B_a1 : Hid (Blk w13 (w.heap.size + 1) #[.int .i64 sd1, .slice ao1 np1 cp1, .slice bo1 nc1 cq1] 44) := B_a1.out.old hbb
    replace B_S : Hid (Blk w13 ks #[.int .i64 (cd), .int .i64 (sdd), .slice sa mp sc, .slice sb mc sq] 61) := B_S.out.old hbb
    replace B_x0 : Hid (Blk w13 w5.heap.size #[.int .i64 sd0, .slice (some ⟨gax0, 0, none⟩) np0 np0, .slice (some ⟨gbx0, 0, none⟩) nc0 nc0] 49) := B_x0.out.old hbb
    replace B_x1 : Hid (Blk w13 w7.heap.size #[.int .i64 sd1, .slice (some ⟨gax1, 0, none⟩) np1 np1, .slice (some ⟨gbx1, 0, none⟩) nc1 nc1] 49) := B_x1.out.old hbb
    replace B_G : Hid (Blk w13 w9.heap.size #[.int .i64 cd, .int .i64 sdd, .slice ga mp gc, .slice gb mc gq] 61) := B_G.out.old hbb
    replace O_s : Hid (MeO los his w13 (.slice sa mp sc) (.slice sb mc sq) mp PP mc QQ) := O_s.out.keep (keep_below hbb (by omega))
    replace O_x0 : Hid (MeO w4.heap.size w5.heap.size w13 (.slice (some ⟨gax0, 0, none⟩) np0 np0) (.slice (some ⟨gbx0, 0, none⟩) nc0 nc0) np0 ph0 nc0 C0) := O_x0.out.keep (keep_below hbb (by omega))
    replace O_x1 : Hid (MeO w6.heap.size w7.heap.size w13 (.slice (some ⟨gax1, 0, none⟩) np1 np1) (.slice (some ⟨gbx1, 0, none⟩) nc1 nc1) np1 ph1 nc1 C1) := O_x1.out.keep (keep_below hbb (by omega))
    replace O_g : Hid (MeO w8.heap.size w9.heap.size w13 (.slice ga mp gc) (.slice gb mc gq) mp PP mc QQ) := O_g.out.keep (keep_below hbb (by omega))
    replace D_w : Hid (Below w.heap.size w w13) := D_w.out.trans (hbb.mono (by omega))
    clear hbb
    have q_x1_0 : ∀ W, Below w13.heap.size w13 W → W.cell? ⟨w7.heap.size, 0, none⟩ = some (.int .i64 sd1) := fun W h => (B_x1.out.old h).cell (j := 0) rfl
    have q_x1_1 : ∀ W, Below w13.heap.size w13 W → W.cell? ⟨w7.heap.size, 1, none⟩ = some (.slice (some ⟨gax1, 0, none⟩) np1 np1) := fun W h => (B_x1.out.old h).cell (j := 1) rfl
    have q_x1_2 : ∀ W, Below w13.heap.size w13 W → W.cell? ⟨w7.heap.size, 2, none⟩ = some (.slice (some ⟨gbx1, 0, none⟩) nc1 nc1) := fun W h => (B_x1.out.old h).cell (j := 2) rfl
    have q_a1_0 : ∀ W, Below w13.heap.size w13 W → W.cell? ⟨(w.heap.size + 1), 0, none⟩ = some (.int .i64 sd1) := fun W h => (B_a1.out.old h).cell (j := 0) rfl
    have q_a1_1 : ∀ W, Below w13.heap.size w13 W → W.cell? ⟨(w.heap.size + 1), 1, none⟩ = some (.slice ao1 np1 cp1) := fun W h => (B_a1.out.old h).cell (j := 1) rfl
    have q_a1_2 : ∀ W, Below w13.heap.size w13 W → W.cell? ⟨(w.heap.size + 1), 2, none⟩ = some (.slice bo1 nc1 cq1) := fun W h => (B_a1.out.old h).cell (j := 2) rfl
    have QA : ∀ W, Below w13.heap.size w13 W → Hid (RdRow W (.slice ao1 np1 cp1) np1 ph1 ∧ RdV W (.slice bo1 nc1 cq1) nc1 6 (fun i j => ccell (C1 i) j)) := fun W h => ⟨H1.out.1.later (D_w.out.trans (h.mono (by omega))), H1.out.2.later (D_w.out.trans (h.mono (by omega)))⟩
    have QX : ∀ W, Below w13.heap.size w13 W → Hid (Me W (.slice (some ⟨gax1, 0, none⟩) np1 np1) (.slice (some ⟨gbx1, 0, none⟩) nc1 nc1) np1 ph1 nc1 C1) := fun W h => O_x1.out.rd.later h
    go_wp2_with fail
    go_region_held (fun W => Below w13.heap.size w13 W) (go_grown)
      (first | (go_at_call 32; refine Calls.mono (toMe_any (QA _ (by go_grown)).out.1 (QA _ (by go_grown)).out.2 (by omega) (by omega)) ?_; rintro e w14 ⟨gqa, gqb, rfl, hmo, hb1⟩; have hR1 : Below w13.heap.size w13 w14 := box_step (by go_grown) hb1 (Nat.le_refl _)) | (go_at_call 34; refine Calls.mono (eqMe_any (QX _ (by go_grown)).out hmo.rd (by omega) (by omega)) ?_; rintro e w15 ⟨rfl, hb2⟩; have hR2 : Below w13.heap.size w13 w15 := box_step hR1 hb2 (Nat.le_refl _)))
    have hbb : Below w13.heap.size w13 w15 := hR2
    clear hR1 hR2 hmo hb1 hb2 QA QX q_x1_0 q_x1_1 q_x1_2 q_a1_0 q_a1_1 q_a1_2
    have zw15 : w13.heap.size ≤ w15.heap.size := hbb.size
    replace B_a0 : Hid (Blk w15 w.heap.size #[.int .i64 sd0, .slice ao0 np0 cp0, .slice bo0 nc0 cq0] 44) := B_a0.out.old hbb
    replace B_a1 : Hid (Blk w15 (w.heap.size + 1) #[.int .i64 sd1, .slice ao1 np1 cp1, .slice bo1 nc1 cq1] 44) := B_a1.out.old hbb
    replace B_S : Hid (Blk w15 ks #[.int .i64 (cd), .int .i64 (sdd), .slice sa mp sc, .slice sb mc sq] 61) := B_S.out.old hbb
    replace B_x0 : Hid (Blk w15 w5.heap.size #[.int .i64 sd0, .slice (some ⟨gax0, 0, none⟩) np0 np0, .slice (some ⟨gbx0, 0, none⟩) nc0 nc0] 49) := B_x0.out.old hbb
    replace B_x1 : Hid (Blk w15 w7.heap.size #[.int .i64 sd1, .slice (some ⟨gax1, 0, none⟩) np1 np1, .slice (some ⟨gbx1, 0, none⟩) nc1 nc1] 49) := B_x1.out.old hbb
    replace B_G : Hid (Blk w15 w9.heap.size #[.int .i64 cd, .int .i64 sdd, .slice ga mp gc, .slice gb mc gq] 61) := B_G.out.old hbb
    replace O_s : Hid (MeO los his w15 (.slice sa mp sc) (.slice sb mc sq) mp PP mc QQ) := O_s.out.keep (keep_below hbb (by omega))
    replace O_x0 : Hid (MeO w4.heap.size w5.heap.size w15 (.slice (some ⟨gax0, 0, none⟩) np0 np0) (.slice (some ⟨gbx0, 0, none⟩) nc0 nc0) np0 ph0 nc0 C0) := O_x0.out.keep (keep_below hbb (by omega))
    replace O_x1 : Hid (MeO w6.heap.size w7.heap.size w15 (.slice (some ⟨gax1, 0, none⟩) np1 np1) (.slice (some ⟨gbx1, 0, none⟩) nc1 nc1) np1 ph1 nc1 C1) := O_x1.out.keep (keep_below hbb (by omega))
    replace O_g : Hid (MeO w8.heap.size w9.heap.size w15 (.slice ga mp gc) (.slice gb mc gq) mp PP mc QQ) := O_g.out.keep (keep_below hbb (by omega))
    replace D_w : Hid (Below w.heap.size w w15) := D_w.out.trans (hbb.mono (by omega))
    clear hbb
    have c_x0_0 := B_x0.out.cell (j := 0) rfl
    have c_x0_1 := B_x0.out.cell (j := 1) rfl
    have c_x0_2 := B_x0.out.cell (j := 2) rfl
    have l_x0 := B_x0.out.lt
    go_wp2_with fail
    refine (markMe_any 1 O_x0.out (by omega) (by omega) (by omega) (by omega) (by omega) (by omega)).mono ?_
    rintro e w16 ⟨rfl, _, hww⟩
    clear c_x0_0 c_x0_1 c_x0_2 l_x0
    have zw16 : w15.heap.size ≤ w16.heap.size := hww.below.size
    replace B_a0 : Hid (Blk w16 w.heap.size #[.int .i64 sd0, .slice ao0 np0 cp0, .slice bo0 nc0 cq0] 44) := B_a0.out.within hww (by omega)
    replace B_a1 : Hid (Blk w16 (w.heap.size + 1) #[.int .i64 sd1, .slice ao1 np1 cp1, .slice bo1 nc1 cq1] 44) := B_a1.out.within hww (by omega)
    replace B_S : Hid (Blk w16 ks #[.int .i64 (cd), .int .i64 (sdd), .slice sa mp sc, .slice sb mc sq] 61) := B_S.out.within hww (by omega)
    replace B_x0 : Hid (Blk w16 w5.heap.size #[.int .i64 sd0, .slice (some ⟨gax0, 0, none⟩) np0 np0, .slice (some ⟨gbx0, 0, none⟩) nc0 nc0] 49) := B_x0.out.within hww (by omega)
    replace B_x1 : Hid (Blk w16 w7.heap.size #[.int .i64 sd1, .slice (some ⟨gax1, 0, none⟩) np1 np1, .slice (some ⟨gbx1, 0, none⟩) nc1 nc1] 49) := B_x1.out.within hww (by omega)
    replace B_G : Hid (Blk w16 w9.heap.size #[.int .i64 cd, .int .i64 sdd, .slice ga mp gc, .slice gb mc gq] 61) := B_G.out.within hww (by omega)
    replace O_s : Hid (MeO los his w16 (.slice sa mp sc) (.slice sb mc sq) mp PP mc QQ) := O_s.out.keep (keep_apart hww (by omega) (by omega))
    replace O_x1 : Hid (MeO w6.heap.size w7.heap.size w16 (.slice (some ⟨gax1, 0, none⟩) np1 np1) (.slice (some ⟨gbx1, 0, none⟩) nc1 nc1) np1 ph1 nc1 C1) := O_x1.out.keep (keep_apart hww (by omega) (by omega))
    replace O_g : Hid (MeO w8.heap.size w9.heap.size w16 (.slice ga mp gc) (.slice gb mc gq) mp PP mc QQ) := O_g.out.keep (keep_apart hww (by omega) (by omega))
    replace D_w : Hid (Below w.heap.size w w16) := D_w.out.trans (hww.below.mono (by omega))
    clear hww O_x0
    obtain ⟨k1, hk⟩ : ∃ k : Int, k = mK (1 + np0) nc0 := ⟨_, rfl⟩
    have hk1a : 0 ≤ k1 := by rw [hk]; unfold mK; omega
    have hk1b : k1 ≤ 1 + 8000000 := by rw [hk]; unfold mK; omega
    rw [← hk]
    clear hk
    have c_x1_0 := B_x1.out.cell (j := 0) rfl
    have c_x1_1 := B_x1.out.cell (j := 1) rfl
    have c_x1_2 := B_x1.out.cell (j := 2) rfl
    have l_x1 := B_x1.out.lt
    go_wp2_with fail
    refine (markMe_any k1 O_x1.out (by omega) (by omega) (by omega) (by omega) (by omega) (by omega)).mono ?_
    rintro e w17 ⟨rfl, _, hww⟩
    clear c_x1_0 c_x1_1 c_x1_2 l_x1
    have zw17 : w16.heap.size ≤ w17.heap.size := hww.below.size
    replace B_a0 : Hid (Blk w17 w.heap.size #[.int .i64 sd0, .slice ao0 np0 cp0, .slice bo0 nc0 cq0] 44) := B_a0.out.within hww (by omega)
    replace B_a1 : Hid (Blk w17 (w.heap.size + 1) #[.int .i64 sd1, .slice ao1 np1 cp1, .slice bo1 nc1 cq1] 44) := B_a1.out.within hww (by omega)
    replace B_S : Hid (Blk w17 ks #[.int .i64 (cd), .int .i64 (sdd), .slice sa mp sc, .slice sb mc sq] 61) := B_S.out.within hww (by omega)
    replace B_x0 : Hid (Blk w17 w5.heap.size #[.int .i64 sd0, .slice (some ⟨gax0, 0, none⟩) np0 np0, .slice (some ⟨gbx0, 0, none⟩) nc0 nc0] 49) := B_x0.out.within hww (by omega)
    replace B_x1 : Hid (Blk w17 w7.heap.size #[.int .i64 sd1, .slice (some ⟨gax1, 0, none⟩) np1 np1, .slice (some ⟨gbx1, 0, none⟩) nc1 nc1] 49) := B_x1.out.within hww (by omega)
    replace B_G : Hid (Blk w17 w9.heap.size #[.int .i64 cd, .int .i64 sdd, .slice ga mp gc, .slice gb mc gq] 61) := B_G.out.within hww (by omega)
    replace O_s : Hid (MeO los his w17 (.slice sa mp sc) (.slice sb mc sq) mp PP mc QQ) := O_s.out.keep (keep_apart hww (by omega) (by omega))
    replace O_g : Hid (MeO w8.heap.size w9.heap.size w17 (.slice ga mp gc) (.slice gb mc gq) mp PP mc QQ) := O_g.out.keep (keep_apart hww (by omega) (by omega))
    replace D_w : Hid (Below w.heap.size w w17) := D_w.out.trans (hww.below.mono (by omega))
    clear hww O_x1
    obtain ⟨k2, hk⟩ : ∃ k : Int, k = mK (k1 + np1) nc1 := ⟨_, rfl⟩
    have hk2a : 0 ≤ k2 := by rw [hk]; unfold mK; omega
    have hk2b : k2 ≤ k1 + 8000000 := by rw [hk]; unfold mK; omega
    rw [← hk]
    clear hk
    have c_G_0 := B_G.out.cell (j := 0) rfl
    have c_G_1 := B_G.out.cell (j := 1) rfl
    have c_G_2 := B_G.out.cell (j := 2) rfl
    have c_G_3 := B_G.out.cell (j := 3) rfl
    have l_G := B_G.out.lt
    have c_S_0 := B_S.out.cell (j := 0) rfl
    have c_S_1 := B_S.out.cell (j := 1) rfl
    have c_S_2 := B_S.out.cell (j := 2) rfl
    have c_S_3 := B_S.out.cell (j := 3) rfl
    have l_S := B_S.out.lt
    go_wp2_with fail
    refine (eqMR_any O_g.out.rd O_s.out.rd (by omega) (by omega)).mono ?_
    rintro e w18 ⟨rfl, hbb⟩
    clear c_G_0 c_G_1 c_G_2 c_G_3 l_G c_S_0 c_S_1 c_S_2 c_S_3 l_S
    have zw18 : w17.heap.size ≤ w18.heap.size := hbb.size
    replace B_a0 : Hid (Blk w18 w.heap.size #[.int .i64 sd0, .slice ao0 np0 cp0, .slice bo0 nc0 cq0] 44) := B_a0.out.old hbb
    replace B_a1 : Hid (Blk w18 (w.heap.size + 1) #[.int .i64 sd1, .slice ao1 np1 cp1, .slice bo1 nc1 cq1] 44) := B_a1.out.old hbb
    replace B_S : Hid (Blk w18 ks #[.int .i64 (cd), .int .i64 (sdd), .slice sa mp sc, .slice sb mc sq] 61) := B_S.out.old hbb
    replace B_x0 : Hid (Blk w18 w5.heap.size #[.int .i64 sd0, .slice (some ⟨gax0, 0, none⟩) np0 np0, .slice (some ⟨gbx0, 0, none⟩) nc0 nc0] 49) := B_x0.out.old hbb
    replace B_x1 : Hid (Blk w18 w7.heap.size #[.int .i64 sd1, .slice (some ⟨gax1, 0, none⟩) np1 np1, .slice (some ⟨gbx1, 0, none⟩) nc1 nc1] 49) := B_x1.out.old hbb
    replace B_G : Hid (Blk w18 w9.heap.size #[.int .i64 cd, .int .i64 sdd, .slice ga mp gc, .slice gb mc gq] 61) := B_G.out.old hbb
    replace O_s : Hid (MeO los his w18 (.slice sa mp sc) (.slice sb mc sq) mp PP mc QQ) := O_s.out.keep (keep_below hbb (by omega))
    replace O_g : Hid (MeO w8.heap.size w9.heap.size w18 (.slice ga mp gc) (.slice gb mc gq) mp PP mc QQ) := O_g.out.keep (keep_below hbb (by omega))
    replace D_w : Hid (Below w.heap.size w w18) := D_w.out.trans (hbb.mono (by omega))
    clear hbb
    have c_G_0 := B_G.out.cell (j := 0) rfl
    have c_G_1 := B_G.out.cell (j := 1) rfl
    have c_G_2 := B_G.out.cell (j := 2) rfl
    have c_G_3 := B_G.out.cell (j := 3) rfl
    have l_G := B_G.out.lt
    go_wp2_with fail
    refine (markMR_any O_g.out (by omega) (by omega) (by omega) (by omega)).mono ?_
    rintro e w19 ⟨rfl, hmk, hww⟩
    clear c_G_0 c_G_1 c_G_2 c_G_3 l_G
    have zw19 : w18.heap.size ≤ w19.heap.size := hww.below.size
    replace B_a0 : Hid (Blk w19 w.heap.size #[.int .i64 sd0, .slice ao0 np0 cp0, .slice bo0 nc0 cq0] 44) := B_a0.out.within hww (by omega)
    replace B_a1 : Hid (Blk w19 (w.heap.size + 1) #[.int .i64 sd1, .slice ao1 np1 cp1, .slice bo1 nc1 cq1] 44) := B_a1.out.within hww (by omega)
    replace B_S : Hid (Blk w19 ks #[.int .i64 (cd), .int .i64 (sdd), .slice sa mp sc, .slice sb mc sq] 61) := B_S.out.within hww (by omega)
    replace B_x0 : Hid (Blk w19 w5.heap.size #[.int .i64 sd0, .slice (some ⟨gax0, 0, none⟩) np0 np0, .slice (some ⟨gbx0, 0, none⟩) nc0 nc0] 49) := B_x0.out.within hww (by omega)
    replace B_x1 : Hid (Blk w19 w7.heap.size #[.int .i64 sd1, .slice (some ⟨gax1, 0, none⟩) np1 np1, .slice (some ⟨gbx1, 0, none⟩) nc1 nc1] 49) := B_x1.out.within hww (by omega)
    replace B_G : Hid (Blk w19 w9.heap.size #[.int .i64 cd, .int .i64 sdd, .slice ga mp gc, .slice gb mc gq] 61) := B_G.out.within hww (by omega)
    replace O_s : Hid (MeO los his w19 (.slice sa mp sc) (.slice sb mc sq) mp PP mc QQ) := O_s.out.keep (keep_apart hww (by omega) (by omega))
    replace D_w : Hid (Below w.heap.size w w19) := D_w.out.trans (hww.below.mono (by omega))
    replace O_g : Hid (MkM w8.heap.size w9.heap.size w19 (.slice ga mp gc) (.slice gb mc gq) mp mc 1) := hmk
    clear hmk hww
    obtain ⟨r, hr⟩ : ∃ r : Int, r = mK (1 + mp) mc := ⟨_, rfl⟩
    have hr0 : 0 ≤ r := by rw [hr]; unfold mK; omega
    have HR : Hid (r = mK (1 + mp) mc) := hr
    rw [← hr]
    clear hr
    have c_G_0 := B_G.out.cell (j := 0) rfl
    have c_G_1 := B_G.out.cell (j := 1) rfl
    have c_G_2 := B_G.out.cell (j := 2) rfl
    have c_G_3 := B_G.out.cell (j := 3) rfl
    have l_G := B_G.out.lt
    go_wp2_with fail
    refine (heldMR_any O_g.out (by omega) (by omega) (by omega)).mono ?_
    rintro e w20 ⟨rfl, hbb⟩
    clear c_G_0 c_G_1 c_G_2 c_G_3 l_G
    have zw20 : w19.heap.size ≤ w20.heap.size := hbb.size
    replace B_a0 : Hid (Blk w20 w.heap.size #[.int .i64 sd0, .slice ao0 np0 cp0, .slice bo0 nc0 cq0] 44) := B_a0.out.old hbb
    replace B_a1 : Hid (Blk w20 (w.heap.size + 1) #[.int .i64 sd1, .slice ao1 np1 cp1, .slice bo1 nc1 cq1] 44) := B_a1.out.old hbb
    replace B_S : Hid (Blk w20 ks #[.int .i64 (cd), .int .i64 (sdd), .slice sa mp sc, .slice sb mc sq] 61) := B_S.out.old hbb
    replace B_x0 : Hid (Blk w20 w5.heap.size #[.int .i64 sd0, .slice (some ⟨gax0, 0, none⟩) np0 np0, .slice (some ⟨gbx0, 0, none⟩) nc0 nc0] 49) := B_x0.out.old hbb
    replace B_x1 : Hid (Blk w20 w7.heap.size #[.int .i64 sd1, .slice (some ⟨gax1, 0, none⟩) np1 np1, .slice (some ⟨gbx1, 0, none⟩) nc1 nc1] 49) := B_x1.out.old hbb
    replace B_G : Hid (Blk w20 w9.heap.size #[.int .i64 cd, .int .i64 sdd, .slice ga mp gc, .slice gb mc gq] 61) := B_G.out.old hbb
    replace O_s : Hid (MeO los his w20 (.slice sa mp sc) (.slice sb mc sq) mp PP mc QQ) := O_s.out.keep (keep_below hbb (by omega))
    replace O_g : Hid (MkM w8.heap.size w9.heap.size w20 (.slice ga mp gc) (.slice gb mc gq) mp mc 1) := MeO.keep O_g.out (keep_below hbb (by omega))
    replace D_w : Hid (Below w.heap.size w w20) := D_w.out.trans (hbb.mono (by omega))
    clear hbb
    rw [← HR.out]
    have q_a0_0 : ∀ W, Below w20.heap.size w20 W → W.cell? ⟨w.heap.size, 0, none⟩ = some (.int .i64 sd0) := fun W h => (B_a0.out.old h).cell (j := 0) rfl
    have q_a0_1 : ∀ W, Below w20.heap.size w20 W → W.cell? ⟨w.heap.size, 1, none⟩ = some (.slice ao0 np0 cp0) := fun W h => (B_a0.out.old h).cell (j := 1) rfl
    have q_a0_2 : ∀ W, Below w20.heap.size w20 W → W.cell? ⟨w.heap.size, 2, none⟩ = some (.slice bo0 nc0 cq0) := fun W h => (B_a0.out.old h).cell (j := 2) rfl
    have q_a1_0 : ∀ W, Below w20.heap.size w20 W → W.cell? ⟨(w.heap.size + 1), 0, none⟩ = some (.int .i64 sd1) := fun W h => (B_a1.out.old h).cell (j := 0) rfl
    have q_a1_1 : ∀ W, Below w20.heap.size w20 W → W.cell? ⟨(w.heap.size + 1), 1, none⟩ = some (.slice ao1 np1 cp1) := fun W h => (B_a1.out.old h).cell (j := 1) rfl
    have q_a1_2 : ∀ W, Below w20.heap.size w20 W → W.cell? ⟨(w.heap.size + 1), 2, none⟩ = some (.slice bo1 nc1 cq1) := fun W h => (B_a1.out.old h).cell (j := 2) rfl
    have QN : ∀ W, Below w20.heap.size w20 W → Hid ((RdRow W (.slice ao0 np0 cp0) np0 ph0 ∧ RdV W (.slice bo0 nc0 cq0) nc0 6 (fun i j => ccell (C0 i) j)) ∧ (RdRow W (.slice ao1 np1 cp1) np1 ph1 ∧ RdV W (.slice bo1 nc1 cq1) nc1 6 (fun i j => ccell (C1 i) j))) := fun W h => ⟨⟨H0.out.1.later (D_w.out.trans (h.mono (by omega))), H0.out.2.later (D_w.out.trans (h.mono (by omega)))⟩, H1.out.1.later (D_w.out.trans (h.mono (by omega))), H1.out.2.later (D_w.out.trans (h.mono (by omega)))⟩
    have hR0 : Below w20.heap.size w20 w20 := Below.refl _ _
    have HSZ : Hid (np0 ≤ 1048576 ∧ nc0 ≤ 1048576 ∧ np1 ≤ 1048576 ∧ nc1 ≤ 1048576) := ⟨by omega, by omega, by omega, by omega⟩
    go_wp2_with fail
    go_cut [13] from 75 to 79 (fun p wx => ∃ (kx : Nat) (v0 v1 : Value) (lo hi : Nat), p = .pointer (some ⟨kx, 0, none⟩) ∧ w20.heap.size ≤ kx ∧ kx < wx.heap.size ∧ w20.heap.size ≤ lo ∧ lo ≤ hi ∧ hi ≤ wx.heap.size ∧ Below w20.heap.size w20 wx ∧ Blk wx kx #[.int .i64 (cd), .int .i64 (sdd), v0, v1] 61 ∧ MeO lo hi wx v0 v1 mp PP mc QQ ∧ (kx < lo ∨ hi ≤ kx))
    case first =>
      go_region_held3 (fun W => Below w20.heap.size w20 W) (go_grown) (first
        | (go_at_call_of 32 (Value.agg #[.int .i64 sd0, .slice ao0 np0 cp0, .slice bo0 nc0 cq0]); refine Calls.mono (toMe_any (QN _ (by first | assumption | go_grown)).out.1.1 (QN _ (by first | assumption | go_grown)).out.1.2 HSZ.out.1 HSZ.out.2.1) ?_; rintro e wa ⟨ga, gc, rfl, ha, ba⟩; have zwa := ba.size; (try simp at zwa); have hRwa : Below w20.heap.size w20 wa := (by refine box_step ?_ ba (by go_size); go_grown); (first | (have hZ := box_step hZ ba (Nat.le_refl _)) | (have hZ := ba)); obtain ⟨ho1, hf1, hz1⟩ := olds hZ; have HA : Hid (Me wa (.slice (some ⟨ga, 0, none⟩) np0 np0) (.slice (some ⟨gc, 0, none⟩) nc0 nc0) np0 ph0 nc0 C0) := ha.rd; have kaa : Below wa.heap.size wa wa := Below.refl _ _; clear ha)
        | (go_at_call_of 32 (Value.agg #[.int .i64 sd1, .slice ao1 np1 cp1, .slice bo1 nc1 cq1]); refine Calls.mono (toMe_any (QN _ (by first | assumption | go_grown)).out.2.1 (QN _ (by first | assumption | go_grown)).out.2.2 HSZ.out.2.2.1 HSZ.out.2.2.2) ?_; rintro e wb ⟨gb, gd, rfl, hb', bb⟩; have zwb := bb.size; (try simp at zwb); have hRwb : Below w20.heap.size w20 wb := (by refine box_step ?_ bb (by go_size); go_grown); (first | (have hZ := box_step hZ bb (Nat.le_refl _)) | (have hZ := bb)); obtain ⟨ho1, hf1, hz1⟩ := olds hZ; have HB2 : Hid (Me wb (.slice (some ⟨gb, 0, none⟩) np1 np1) (.slice (some ⟨gd, 0, none⟩) nc1 nc1) np1 ph1 nc1 C1) := hb'.rd; have kbb : Below wb.heap.size wb wb := Below.refl _ _; have kab : Below wa.heap.size wa wb := (by refine box_step ?_ bb (by go_size); go_grown); clear hb')
        | (go_at_call 53; refine Calls.mono (weakh (HI.out _ _ _ _ _ _ _ _ _ (HA.out.later (by first | assumption | go_grown)) (HB2.out.later (by first | assumption | go_grown)))) ?_; rintro e we ⟨v0, v1, lo, hi, rfl, hlo, hlh, hhi, ov, be⟩; obtain ⟨vo, vc, vu, vy, e8, e9⟩ := ov.rd.shape; subst e8; subst e9; (try simp at hlo); have zwe := be.size; (try simp at zwe); have hRwe : Below w20.heap.size w20 we := (by refine box_step ?_ be (by go_size); go_grown); (first | (have hZ := box_step hZ be (Nat.le_refl _)) | (have hZ := be)); obtain ⟨ho1, hf1, hz1⟩ := olds hZ; have OV : Hid (MeO lo hi we (.slice vo mp vc) (.slice vu mc vy) mp PP mc QQ) := ov; clear ov))
      all_goals
        go_wp2_with fail
        go_meet
        case rel =>
          refine ⟨_, .slice vo mp vc, .slice vu mc vy, lo, hi, rfl, ?_, ?_, ?_, hlh, ?_, ?_, ?_, ?_, ?_⟩
          · omega
          · simp [World.setCell] <;> omega
          · omega
          · simp [World.setCell] <;> omega
          · first | assumption | go_grown
          · first | with_reducible exact Blk.new rfl | with_reducible exact Blk.new (by simp) | (with_reducible refine set_four ?_; first | with_reducible exact (Blk.new rfl).old hZ | with_reducible exact ((Blk.new rfl).drew).old hZ)
          · with_reducible refine MeO.keep OV.out ?_
            first
              | (with_reducible refine keep_set4 ?_; omega)
              | (with_reducible refine keep_below (Below.alloc (Below.refl _ _) (Nat.le_refl _) _) ?_; omega)
          · omega
    case rest =>
      obtain ⟨kh, y0h, y1h, loh, hih, rfl, hk1h, hk2h, hl1h, hl3h, hl2h, hbb, hN, ov, hdh⟩ := hcut
      obtain ⟨ha, hc, hb, hq, e8h, e9h⟩ := ov.rd.shape
      subst e8h
      subst e9h
      clear hR0 QN HSZ q_a0_0 q_a0_1 q_a0_2 q_a1_0 q_a1_1 q_a1_2
      obtain ⟨w21, hv⟩ : ∃ v, v = wc := ⟨_, rfl⟩
      subst hv
      have zw21 : w20.heap.size ≤ w21.heap.size := hbb.size
      replace B_a0 : Hid (Blk w21 w.heap.size #[.int .i64 sd0, .slice ao0 np0 cp0, .slice bo0 nc0 cq0] 44) := B_a0.out.old hbb
      replace B_a1 : Hid (Blk w21 (w.heap.size + 1) #[.int .i64 sd1, .slice ao1 np1 cp1, .slice bo1 nc1 cq1] 44) := B_a1.out.old hbb
      replace B_S : Hid (Blk w21 ks #[.int .i64 (cd), .int .i64 (sdd), .slice sa mp sc, .slice sb mc sq] 61) := B_S.out.old hbb
      replace B_x0 : Hid (Blk w21 w5.heap.size #[.int .i64 sd0, .slice (some ⟨gax0, 0, none⟩) np0 np0, .slice (some ⟨gbx0, 0, none⟩) nc0 nc0] 49) := B_x0.out.old hbb
      replace B_x1 : Hid (Blk w21 w7.heap.size #[.int .i64 sd1, .slice (some ⟨gax1, 0, none⟩) np1 np1, .slice (some ⟨gbx1, 0, none⟩) nc1 nc1] 49) := B_x1.out.old hbb
      replace B_G : Hid (Blk w21 w9.heap.size #[.int .i64 cd, .int .i64 sdd, .slice ga mp gc, .slice gb mc gq] 61) := B_G.out.old hbb
      replace O_s : Hid (MeO los his w21 (.slice sa mp sc) (.slice sb mc sq) mp PP mc QQ) := O_s.out.keep (keep_below hbb (by omega))
      replace O_g : Hid (MkM w8.heap.size w9.heap.size w21 (.slice ga mp gc) (.slice gb mc gq) mp mc 1) := MeO.keep O_g.out (keep_below hbb (by omega))
      replace D_w : Hid (Below w.heap.size w w21) := D_w.out.trans (hbb.mono (by omega))
      clear hbb
      have B_H : Hid (Blk w21 kh #[.int .i64 (cd), .int .i64 (sdd), .slice ha mp hc, .slice hb mc hq] 61) := hN
      clear hN
      have O_h : Hid (MeO loh hih w21 (.slice ha mp hc) (.slice hb mc hq) mp PP mc QQ) := ov
      clear ov
      have c_H_0 := B_H.out.cell (j := 0) rfl
      have c_H_1 := B_H.out.cell (j := 1) rfl
      have c_H_2 := B_H.out.cell (j := 2) rfl
      have c_H_3 := B_H.out.cell (j := 3) rfl
      have l_H := B_H.out.lt
      have c_S_0 := B_S.out.cell (j := 0) rfl
      have c_S_1 := B_S.out.cell (j := 1) rfl
      have c_S_2 := B_S.out.cell (j := 2) rfl
      have c_S_3 := B_S.out.cell (j := 3) rfl
      have l_S := B_S.out.lt
      go_wp2_with fail
      refine (eqMR_any O_h.out.rd O_s.out.rd (by omega) (by omega)).mono ?_
      rintro e w22 ⟨rfl, hbb⟩
      clear c_H_0 c_H_1 c_H_2 c_H_3 l_H c_S_0 c_S_1 c_S_2 c_S_3 l_S
      have zw22 : w21.heap.size ≤ w22.heap.size := hbb.size
      replace B_a0 : Hid (Blk w22 w.heap.size #[.int .i64 sd0, .slice ao0 np0 cp0, .slice bo0 nc0 cq0] 44) := B_a0.out.old hbb
      replace B_a1 : Hid (Blk w22 (w.heap.size + 1) #[.int .i64 sd1, .slice ao1 np1 cp1, .slice bo1 nc1 cq1] 44) := B_a1.out.old hbb
      replace B_S : Hid (Blk w22 ks #[.int .i64 (cd), .int .i64 (sdd), .slice sa mp sc, .slice sb mc sq] 61) := B_S.out.old hbb
      replace B_x0 : Hid (Blk w22 w5.heap.size #[.int .i64 sd0, .slice (some ⟨gax0, 0, none⟩) np0 np0, .slice (some ⟨gbx0, 0, none⟩) nc0 nc0] 49) := B_x0.out.old hbb
      replace B_x1 : Hid (Blk w22 w7.heap.size #[.int .i64 sd1, .slice (some ⟨gax1, 0, none⟩) np1 np1, .slice (some ⟨gbx1, 0, none⟩) nc1 nc1] 49) := B_x1.out.old hbb
      replace B_G : Hid (Blk w22 w9.heap.size #[.int .i64 cd, .int .i64 sdd, .slice ga mp gc, .slice gb mc gq] 61) := B_G.out.old hbb
      replace B_H : Hid (Blk w22 kh #[.int .i64 (cd), .int .i64 (sdd), .slice ha mp hc, .slice hb mc hq] 61) := B_H.out.old hbb
      replace O_s : Hid (MeO los his w22 (.slice sa mp sc) (.slice sb mc sq) mp PP mc QQ) := O_s.out.keep (keep_below hbb (by omega))
      replace O_g : Hid (MkM w8.heap.size w9.heap.size w22 (.slice ga mp gc) (.slice gb mc gq) mp mc 1) := MeO.keep O_g.out (keep_below hbb (by omega))
      replace O_h : Hid (MeO loh hih w22 (.slice ha mp hc) (.slice hb mc hq) mp PP mc QQ) := O_h.out.keep (keep_below hbb (by omega))
      replace D_w : Hid (Below w.heap.size w w22) := D_w.out.trans (hbb.mono (by omega))
      clear hbb
      have c_G_0 := B_G.out.cell (j := 0) rfl
      have c_G_1 := B_G.out.cell (j := 1) rfl
      have c_G_2 := B_G.out.cell (j := 2) rfl
      have c_G_3 := B_G.out.cell (j := 3) rfl
      have l_G := B_G.out.lt
      go_wp2_with fail
      refine (heldMR_any O_g.out (by omega) (by omega) (by omega)).mono ?_
      rintro e w23 ⟨rfl, hbb⟩
      clear c_G_0 c_G_1 c_G_2 c_G_3 l_G
      have zw23 : w22.heap.size ≤ w23.heap.size := hbb.size
      replace B_a0 : Hid (Blk w23 w.heap.size #[.int .i64 sd0, .slice ao0 np0 cp0, .slice bo0 nc0 cq0] 44) := B_a0.out.old hbb
      replace B_a1 : Hid (Blk w23 (w.heap.size + 1) #[.int .i64 sd1, .slice ao1 np1 cp1, .slice bo1 nc1 cq1] 44) := B_a1.out.old hbb
      replace B_S : Hid (Blk w23 ks #[.int .i64 (cd), .int .i64 (sdd), .slice sa mp sc, .slice sb mc sq] 61) := B_S.out.old hbb
      replace B_x0 : Hid (Blk w23 w5.heap.size #[.int .i64 sd0, .slice (some ⟨gax0, 0, none⟩) np0 np0, .slice (some ⟨gbx0, 0, none⟩) nc0 nc0] 49) := B_x0.out.old hbb
      replace B_x1 : Hid (Blk w23 w7.heap.size #[.int .i64 sd1, .slice (some ⟨gax1, 0, none⟩) np1 np1, .slice (some ⟨gbx1, 0, none⟩) nc1 nc1] 49) := B_x1.out.old hbb
      replace B_G : Hid (Blk w23 w9.heap.size #[.int .i64 cd, .int .i64 sdd, .slice ga mp gc, .slice gb mc gq] 61) := B_G.out.old hbb
      replace B_H : Hid (Blk w23 kh #[.int .i64 (cd), .int .i64 (sdd), .slice ha mp hc, .slice hb mc hq] 61) := B_H.out.old hbb
      replace O_s : Hid (MeO los his w23 (.slice sa mp sc) (.slice sb mc sq) mp PP mc QQ) := O_s.out.keep (keep_below hbb (by omega))
      replace O_g : Hid (MkM w8.heap.size w9.heap.size w23 (.slice ga mp gc) (.slice gb mc gq) mp mc 1) := MeO.keep O_g.out (keep_below hbb (by omega))
      replace O_h : Hid (MeO loh hih w23 (.slice ha mp hc) (.slice hb mc hq) mp PP mc QQ) := O_h.out.keep (keep_below hbb (by omega))
      replace D_w : Hid (Below w.heap.size w w23) := D_w.out.trans (hbb.mono (by omega))
      clear hbb
      rw [← HR.out]
      go_wp2
      go_ret
      exact ⟨rfl, D_w.out⟩

set_option maxRecDepth 100000 in
theorem lifted (os : Os) (started : os.Started) (H : Type) (enc : TypeId × Value → H) :
    ReturnsInHanded {} Try.checked os 11 .any (Rows.fnExactCascadeMeshesSpec.pre6 enc Try.prog Try.f11 Rows.fnExactCascadeMeshesRow.domain false) (Rows.fnExactCascadeMeshesSpec.post enc Try.prog Try.f11 false true false false) := by
  refine returnsInHanded_of_change (C := Try.checked) own started (by kernel_rfl) Try.func11
    (ChangeSpec.witness6 (enc := enc) (C := Try.checked) false ⟨#[], #[.agg #[.int .i64 0, .slice none 0 0, .slice none 0 0], .agg #[.int .i64 0, .slice none 0 0, .slice none 0 0]], []⟩ 8 (by kernel_rfl) (by kernel_rfl) (by kernel_rfl) (by kernel_rfl)) ?_
  intro W base args ds gs before hval0 hW hcnd _
  have hval : ∀ (j : Nat) t v, Try.f11.params[j]? = some t → args[j]? = some v → Value.okWide Try.prog W .any base t v := hval0
  have hW' := hW
  obtain ⟨p, q, hA0, hV, rfl, hfz, hnd⟩ := hW
  have hA : DataW.TrodAll enc Try.prog W 0 (fun _ => true) true Try.f11.params.toList args.toList ds p := hA0
  rw [Try.params11] at hA hval
  obtain ⟨v0, vs0, d0, ds0, p0, q0, hargs, rfl, rfl, h0, r0⟩ := trodAll_cons hA
  obtain ⟨v1, vs1, d1, ds1, p1, q1, rfl, rfl, rfl, h1, r1⟩ := trodAll_cons r0
  obtain ⟨rfl, rfl, rfl⟩ := trodAll_nil r1
  obtain rfl : args = #[v0, v1] := by cases args; simp_all
  obtain ⟨rfl, rfl⟩ := trodVars_none hV
  have k0 := h0
  have lt0 : ∀ x ∈ p0, x.block < W.heap.size := by obtain ⟨m, hm⟩ := k0; exact DataW.trod_lt m _ _ _ hm
  obtain ⟨sd0, ao0, bo0, np0, cp0, nc0, cq0, ph0, C0, rfl, ra0, rb0, ba0, bb0⟩ := open_mesh (hval 0 44 v0 rfl rfl) h0
  have k1 := h1
  have lt1 : ∀ x ∈ p1, x.block < W.heap.size := by obtain ⟨m, hm⟩ := k1; exact DataW.trod_lt m _ _ _ hm
  obtain ⟨sd1, ao1, bo1, np1, cp1, nc1, cq1, ph1, C1, rfl, ra1, rb1, ba1, bb1⟩ := open_mesh (hval 1 44 v1 rfl rfl) h1
  clear hA0 hval0
  refine (walk ra0 rb0 ba0 bb0 ra1 rb1 ba1 bb1).mono fun e W' ⟨he, bel⟩ => ?_
  subst he
  exact ⟨_, rfl, _, _, _, [], _, [], hW', trodAll_mk1 (shut_bool Try.underlying4 _), (trodAll_cons_mk (Below.trod laidOut (by kernel_rfl) (of_decide_eq_true (by kernel_rfl)) k0 bel lt0) (trodAll_cons_mk (Below.trod laidOut (by kernel_rfl) (of_decide_eq_true (by kernel_rfl)) k1 bel lt1) trodAll_mk0)), rfl, bel.frame _, fun h => by cases h⟩

theorem over : Rows.fnExactCascadeMeshesRow.holds Try.pinned (OpenSpec.ofChange Rows.fnExactCascadeMeshesSpec) :=
  OpenClaim.holds_of_wide 11 Try.f11 rfl rfl rfl rfl rfl rfl rfl ⟨rfl, rfl, rfl, rfl, rfl⟩ rfl rfl rfl rfl rfl (by kernel_rfl) Try.func11 (by kernel_rfl)
    (of_decide_eq_true (by kernel_rfl)) (by unfold Func.isWrapper; first | (rw [if_pos (by decide +kernel)]; kernel_rfl) | (rw [if_neg (by decide +kernel)]; exact ⟨rfl, rfl⟩))
    (fun os started H enc _ => lifted os started H enc)
end Go.Proofs.Ytboppklcmdfphaa.LawCascadeMeshes
namespace Go.Proofs.Ytboppklcmdfphaa
theorem cascadeMeshes_holds : Rows.FnExactCascadeMeshesSaid := LawCascadeMeshes.over
#print axioms cascadeMeshes_holds
end Go.Proofs.Ytboppklcmdfphaa
