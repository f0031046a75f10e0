/- A film's plate, as the program makes it. -/
import Derived.Test.YtnpcldgacdgplaaPl
import Derived.Test.YtnpcldgacdgplaaIt
import Derived.Deep.DeepCutAuto
namespace Go.Proofs.Ytnpcldgacdgplaa
open Go.RowKit Fl
set_option linter.unusedVariables false
set_option linter.unusedSimpArgs false
/-- The same, and a cell besides. -/
structure Fin3 (B : Nat) (X : World) (r kc xc yc kd xd yd km a : Nat) (W : World) : Prop where
  two : Fin2 B X r kc xc yc kd xd yd W
  m : W.cell? ⟨km, 1, none⟩ = some (.float .f64 a)
  nm : km ≠ r
namespace Fin3
variable {B : Nat} {X W : World} {r kc xc yc kd xd yd km a : Nat}
theorem drew (h : Fin3 B X r kc xc yc kd xd yd km a W) : Fin3 B X r kc xc yc kd xd yd km a W.drew := ⟨h.two.drew, h.m, h.nm⟩
theorem drewN (h : Fin3 B X r kc xc yc kd xd yd km a W) (q : Nat) : Fin3 B X r kc xc yc kd xd yd km a (W.drewN q) := ⟨h.two.drewN q, h.m, h.nm⟩
theorem call (h : Fin3 B X r kc xc yc kd xd yd km a W) {W' : World} (b : Below W.heap.size W W') : Fin3 B X r kc xc yc kd xd yd km a W' := ⟨h.two.call b, old_cell b (World.block_lt_of_cell? _ _ h.m) h.m, h.nm⟩
theorem set (h : Fin3 B X r kc xc yc kd xd yd km a W) (j : Nat) (v : Value) : Fin3 B X r kc xc yc kd xd yd km a (W.setCell ⟨r, j, none⟩ v) :=
  ⟨h.two.set j v, (by simp only [World.cell?]; rw [Below.heap_setCell _ _ _ _ (by simpa using h.nm)] : (W.setCell ⟨r, j, none⟩ v).cell? ⟨km, 1, none⟩ = W.cell? ⟨km, 1, none⟩).trans h.m, h.nm⟩
end Fin3
theorem floor_fc {x P z : Nat} {o : Option Nat} (h : Fc x o) (ho : o = some P) (hP : ∀ w, Calls Try.prog 74 #[.float .f64 P] w fun e w' => e = .returned (.float .f64 z) ∧ w = w') (w : World) : Calls Try.prog 74 #[.float .f64 x] w fun e w' => e = .returned (.float .f64 z) ∧ w = w' := by
  subst ho
  obtain rfl := cl_some h.c
  exact hP w
set_option maxHeartbeats 12800000 in
theorem iPlate_any {g : Fi} {f a : Nat} {FW AD : Option Nat} {P : Nat} {N : Int} (hfw : Fc f FW) (had : Fc a AD) (hg : FiOk g) (nm : Int)
    (hP : phaseC FW (cl (fi g.t)) (cl (fi nm)) = some P) (hp : Pos P 60) (hN : floatToIntVal .f64 P .i64 = some N) (w : World) :
    PV 43 #[Fv g, .int .i64 nm, .agg #[.float .f64 f, .float .f64 a]] w (plateC N (cl g.k) AD) := by
  obtain ⟨z, N', hz, hx, hfl⟩ := floor_any hp
  obtain rfl : N' = N := Option.some.inj (hx.symm.trans hN)
  unfold PV
  have hst := st64
  have hmul := mulD
  have hquo := quoD
  have hadd := addD
  have hcv := conv_run
  have hng := neg_fl
  have htz := toInt_run hz
  have HP : Hid (phaseC FW (cl (fi g.t)) (cl (fi nm)) = some P ∧ ∀ w, Calls Try.prog 74 #[.float .f64 P] w fun e w' => e = .returned (.float .f64 z) ∧ w = w') := ⟨hP, hfl⟩
  have HK : Hid (Fc g.k (cl g.k)) := fc_own hg.hk
  clear hP hN hp hz hx hfl hg
  obtain ⟨X, hX⟩ : ∃ X, X = (w.alloc (.cells #[.float .f64 g.i, .float .f64 g.k, .int .i64 g.t] 60)).alloc (.cells #[.float .f64 f, .float .f64 a] 71) := ⟨_, rfl⟩
  obtain ⟨Y, hY⟩ : ∃ Y, Y = X.alloc (.cells #[.float .f64 0, .float .f64 0, .float .f64 0, .float .f64 0, .float .f64 0, .float .f64 0, .float .f64 0, .float .f64 0] 43) := ⟨_, rfl⟩
  have hOY : Own (w.heap.size + 1 + 1) X (w.heap.size + 1 + 1) 8 43 Y := by
    have := own_made (X := X) (B := w.heap.size + 1 + 1) (t := 43) #[.float .f64 0, .float .f64 0, .float .f64 0, .float .f64 0, .float .f64 0, .float .f64 0, .float .f64 0, .float .f64 0] (by rw [hX]; simp)
    rw [hY]
    rw [show X.heap.size = w.heap.size + 1 + 1 by rw [hX]; simp] at this
    exact this
  have HX : Hid (Below w.heap.size w X) := by
    have h : Below w.heap.size w X := by rw [hX]; exact ((Below.refl _ _).alloc (Nat.le_refl _) _).alloc (by simp <;> omega) _
    exact h
  have cf_0_Y : Y.cell? ⟨w.heap.size, 0, none⟩ = some (.float .f64 g.i) := by rw [hY, hX]; exact cell_alloc_old (cell_alloc_old (cell_alloc_new (by simp) rfl))
  have cf_1_Y : Y.cell? ⟨w.heap.size, 1, none⟩ = some (.float .f64 g.k) := by rw [hY, hX]; exact cell_alloc_old (cell_alloc_old (cell_alloc_new (by simp) rfl))
  have cf_2_Y : Y.cell? ⟨w.heap.size, 2, none⟩ = some (.int .i64 g.t) := by rw [hY, hX]; exact cell_alloc_old (cell_alloc_old (cell_alloc_new (by simp) rfl))
  have cm_0_Y : Y.cell? ⟨w.heap.size + 1, 0, none⟩ = some (.float .f64 f) := by rw [hY, hX]; exact cell_alloc_old (cell_alloc_new (by simp) rfl)
  have cm_1_Y : Y.cell? ⟨w.heap.size + 1, 1, none⟩ = some (.float .f64 a) := by rw [hY, hX]; exact cell_alloc_old (cell_alloc_new (by simp) rfl)
  go_enter Try.func43, Try.ntmps43
  go_upto_region 1 with fail
  rw [← hX, ← hY]
  clear hX hY
  go_wp2_with fail
  refine (floor_fc (fc_op .add (fc_op .mul (fc_op .quo (fc_op .mul hfw (fc_own (fi_lt g.t)) _) (fc_own (fi_lt nm)) _) (fc_own (by omega)) _) (fc_own (by omega)) _) HP.out.1 HP.out.2 _).mono ?_
  rintro e wx ⟨rfl, rfl⟩
  go_wp2_with fail
  refine (iTurn_any _ _).mono ?_
  rintro e w2 ⟨e0, e1, rfl, he, hb⟩
  have hB : Below Y.heap.size Y w2 := box_step (by repeat (first | exact Below.refl _ _ | refine below_drewN ?_ _ | refine Below.alloc ?_ (by simp <;> omega) _ | refine Below.setCell ?_ (by simp <;> omega) _)) hb (Nat.le_refl _)
  have cf_0_w2 : w2.cell? ⟨w.heap.size, 0, none⟩ = some (.float .f64 g.i) := old_cell hB (World.block_lt_of_cell? _ _ cf_0_Y) cf_0_Y
  have cf_1_w2 : w2.cell? ⟨w.heap.size, 1, none⟩ = some (.float .f64 g.k) := old_cell hB (World.block_lt_of_cell? _ _ cf_1_Y) cf_1_Y
  have cf_2_w2 : w2.cell? ⟨w.heap.size, 2, none⟩ = some (.int .i64 g.t) := old_cell hB (World.block_lt_of_cell? _ _ cf_2_Y) cf_2_Y
  have cm_0_w2 : w2.cell? ⟨w.heap.size + 1, 0, none⟩ = some (.float .f64 f) := old_cell hB (World.block_lt_of_cell? _ _ cm_0_Y) cm_0_Y
  have cm_1_w2 : w2.cell? ⟨w.heap.size + 1, 1, none⟩ = some (.float .f64 a) := old_cell hB (World.block_lt_of_cell? _ _ cm_1_Y) cm_1_Y
  have z0 : w.heap.size < w2.heap.size := World.block_lt_of_cell? _ _ cf_0_w2
  have y0 : ¬ w.heap.size = w2.heap.size := by omega
  have x0 : ¬ w.heap.size = w2.heap.size + 1 := by omega
  have z1 : w.heap.size + 1 < w2.heap.size := World.block_lt_of_cell? _ _ cm_0_w2
  have y1 : ¬ w.heap.size + 1 = w2.heap.size := by omega
  have x1 : ¬ w.heap.size + 1 = w2.heap.size + 1 := by omega
  have hOw2 := hOY.call hB
  clear hb hB cf_0_Y cf_1_Y cf_2_Y cm_0_Y cm_1_Y hOY
  clear z0 y0 x0 z1 y1 x1
  obtain ⟨V, hV⟩ : ∃ V, V = w2.alloc (.cells #[.float .f64 e0, .float .f64 e1] 41) := ⟨_, rfl⟩
  have hOV : Own (w.heap.size + 1 + 1) X (w.heap.size + 1 + 1) 8 43 V := by rw [hV]; exact hOw2.alloc _
  have ce_0_V : V.cell? ⟨w2.heap.size, 0, none⟩ = some (.float .f64 e0) := by rw [hV]; exact cell_alloc_new rfl rfl
  have ce_1_V : V.cell? ⟨w2.heap.size, 1, none⟩ = some (.float .f64 e1) := by rw [hV]; exact cell_alloc_new rfl rfl
  have cf_0_V : V.cell? ⟨w.heap.size, 0, none⟩ = some (.float .f64 g.i) := by rw [hV]; exact cell_alloc_old cf_0_w2
  have cf_1_V : V.cell? ⟨w.heap.size, 1, none⟩ = some (.float .f64 g.k) := by rw [hV]; exact cell_alloc_old cf_1_w2
  have cf_2_V : V.cell? ⟨w.heap.size, 2, none⟩ = some (.int .i64 g.t) := by rw [hV]; exact cell_alloc_old cf_2_w2
  have cm_0_V : V.cell? ⟨w.heap.size + 1, 0, none⟩ = some (.float .f64 f) := by rw [hV]; exact cell_alloc_old cm_0_w2
  have cm_1_V : V.cell? ⟨w.heap.size + 1, 1, none⟩ = some (.float .f64 a) := by rw [hV]; exact cell_alloc_old cm_1_w2
  clear hOw2 cf_0_w2 cf_1_w2 cf_2_w2 cm_0_w2 cm_1_w2
  go_upto_region 4 with fail
  rw [← hV]
  clear hV
  have ru0 : ∀ W, Below V.heap.size V W → W.cell? ⟨w.heap.size, 0, none⟩ = some (.float .f64 g.i) := fun W h => old_cell h (World.block_lt_of_cell? _ _ cf_0_V) cf_0_V
  have ru1 : ∀ W, Below V.heap.size V W → W.cell? ⟨w.heap.size, 1, none⟩ = some (.float .f64 g.k) := fun W h => old_cell h (World.block_lt_of_cell? _ _ cf_1_V) cf_1_V
  have ru2 : ∀ W, Below V.heap.size V W → W.cell? ⟨w.heap.size, 2, none⟩ = some (.int .i64 g.t) := fun W h => old_cell h (World.block_lt_of_cell? _ _ cf_2_V) cf_2_V
  have ru3 : ∀ W, Below V.heap.size V W → W.cell? ⟨w2.heap.size, 0, none⟩ = some (.float .f64 e0) := fun W h => old_cell h (World.block_lt_of_cell? _ _ ce_0_V) ce_0_V
  have ru4 : ∀ W, Below V.heap.size V W → W.cell? ⟨w2.heap.size, 1, none⟩ = some (.float .f64 e1) := fun W h => old_cell h (World.block_lt_of_cell? _ _ ce_1_V) ce_1_V
  have hR0 : Below V.heap.size V V := Below.refl _ _
  go_cut [10, 11] (fun p q wx => ∃ r1 r2 u0 u1 n0 n1 : Nat, p = .pointer (some ⟨r1, 0, none⟩) ∧ q = .pointer (some ⟨r2, 0, none⟩) ∧ Pair wx r1 u0 u1 ∧ Pair wx r2 n0 n1 ∧ Below V.heap.size V wx ∧ Zc u0 u1 (timesC (turnC N') (cl g.k)) ∧ Zc n0 n1 (overC ((turnC N').1, (turnC N').2.map (Op.negFloat .f64)) (cl g.k)))
  case first =>
    go_region_held (fun W => Below V.heap.size V W) (go_grown)
      (first | (go_at_call 55; refine (iTimes_any he HK.out _).mono ?_; rintro e wa ⟨u0, u1, rfl, hu, hbwa⟩; have hswa := hbwa.size; (try simp at hswa); have hRwa : Below V.heap.size V wa := (by refine box_step ?_ hbwa (Nat.le_refl _); go_grown); have hLwa : Below V.heap.size V wa := (by refine box_step ?_ hbwa (Nat.le_refl _); go_grown); obtain ⟨howa, hfwa, hzwa⟩ := olds hLwa; obtain ⟨hpwa, hqwa, hrwa⟩ := olds hbwa; have hs1wa := hLwa.size; (try (have hmwaVa : V.heap.size < wa.heap.size := by omega)); (try (have hnwaVa : ¬ V.heap.size = wa.heap.size := by omega)); (try (have hmwaVb : V.heap.size + 1 < wa.heap.size := by omega)); (try (have hnwaVb : ¬ V.heap.size + 1 = wa.heap.size := by omega)); (try (have hcwaV0 : wa.cell? ⟨V.heap.size, 0, none⟩ = some (.float .f64 0) := by first | exact (hbwa.cell (by simp <;> omega)).trans (cell_alloc_old (cell_alloc_new rfl rfl)) | exact (hbwa.cell (by simp <;> omega)).trans (cell_alloc_new rfl rfl))); (try (have hcwaV1 : wa.cell? ⟨V.heap.size, 1, none⟩ = some (.float .f64 0) := by first | exact (hbwa.cell (by simp <;> omega)).trans (cell_alloc_old (cell_alloc_new rfl rfl)) | exact (hbwa.cell (by simp <;> omega)).trans (cell_alloc_new rfl rfl)))) | (go_at_call 76; refine (iOver_any (zc_pair (zc_fst he) (fc_neg (zc_snd he))) HK.out _).mono ?_; rintro e wb ⟨n0, n1, rfl, hn, hbwb⟩; have hswb := hbwb.size; (try simp at hswb); have hRwb : Below V.heap.size V wb := (by refine box_step ?_ hbwb (Nat.le_refl _); go_grown); have hLwb : Below wa.heap.size wa wb := (by refine box_step ?_ hbwb (Nat.le_refl _); go_grown); obtain ⟨howb, hfwb, hzwb⟩ := olds hLwb; obtain ⟨hpwb, hqwb, hrwb⟩ := olds hbwb; have hs1wb := hLwb.size; (try (have hmwbVa : V.heap.size < wb.heap.size := by omega)); (try (have hnwbVa : ¬ V.heap.size = wb.heap.size := by omega)); (try (have hmwbVb : V.heap.size + 1 < wb.heap.size := by omega)); (try (have hnwbVb : ¬ V.heap.size + 1 = wb.heap.size := by omega)); (try (have hmwbwaa : wa.heap.size < wb.heap.size := by omega)); (try (have hnwbwaa : ¬ wa.heap.size = wb.heap.size := by omega)); (try (have hmwbwab : wa.heap.size + 1 < wb.heap.size := by omega)); (try (have hnwbwab : ¬ wa.heap.size + 1 = wb.heap.size := by omega)); (try (have hcwbwa0 : wb.cell? ⟨wa.heap.size, 0, none⟩ = some (.float .f64 0) := by first | exact (hbwb.cell (by simp <;> omega)).trans (cell_alloc_old (cell_alloc_new rfl rfl)) | exact (hbwb.cell (by simp <;> omega)).trans (cell_alloc_new rfl rfl))); (try (have hcwbV0 : wb.cell? ⟨V.heap.size, 0, none⟩ = some (.float .f64 0) := by exact old_cell hLwb (by omega) hcwaV0)); (try (have hcwbwa1 : wb.cell? ⟨wa.heap.size, 1, none⟩ = some (.float .f64 0) := by first | exact (hbwb.cell (by simp <;> omega)).trans (cell_alloc_old (cell_alloc_new rfl rfl)) | exact (hbwb.cell (by simp <;> omega)).trans (cell_alloc_new rfl rfl))); (try (have hcwbV1 : wb.cell? ⟨V.heap.size, 1, none⟩ = some (.float .f64 0) := by exact old_cell hLwb (by omega) hcwaV1))))
    all_goals
      go_wp2_with fail
      go_meet
      case rel =>
        refine ⟨_, _, _, _, _, _, rfl, rfl, ⟨?_, ?_⟩, ⟨?_, ?_⟩, ?_, hu, hn⟩
        · first | (go_simp; done) | (simp [*]; done)
        · first | (go_simp; done) | (simp [*]; done)
        · first | (go_simp; done) | (simp [*]; done)
        · first | (go_simp; done) | (simp [*]; done)
        · go_grown
  case rest =>
    obtain ⟨r1, r2, u0, u1, n0, n1, rfl, rfl, p1, p2, hB, hu, hn⟩ := hcut
    obtain ⟨V2, hV2⟩ : ∃ V2, V2 = wc := ⟨_, rfl⟩
    subst hV2
    have hO2 := hOV.call hB
    have cm2 : V2.cell? ⟨w.heap.size + 1, 1, none⟩ = some (.float .f64 a) := old_cell hB (World.block_lt_of_cell? _ _ cm_1_V) cm_1_V
    clear hOV hB hR0 ru0 ru1 ru2 ru3 ru4 cf_0_V cf_1_V cf_2_V cm_0_V cm_1_V ce_0_V ce_1_V hmul hquo hadd hcv hng htz HP hfw he
    have r0 : ∀ W, Below V2.heap.size V2 W → W.cell? ⟨r1, 0, none⟩ = some (.float .f64 u0) := fun W h => (p1.later h).d0
    have r1' : ∀ W, Below V2.heap.size V2 W → W.cell? ⟨r1, 1, none⟩ = some (.float .f64 u1) := fun W h => (p1.later h).d1
    have r2' : ∀ W, Below V2.heap.size V2 W → W.cell? ⟨r2, 0, none⟩ = some (.float .f64 n0) := fun W h => (p2.later h).d0
    have r3' : ∀ W, Below V2.heap.size V2 W → W.cell? ⟨r2, 1, none⟩ = some (.float .f64 n1) := fun W h => (p2.later h).d1
    have hR0 : Below V2.heap.size V2 V2 := Below.refl _ _
    clear p1 p2
    have HO2 : Hid (Own (w.heap.size + 1 + 1) X (w.heap.size + 1 + 1) 8 43 V2 ∧ V2.cell? ⟨w.heap.size + 1, 1, none⟩ = some (.float .f64 a) ∧ Fc a AD) := ⟨hO2, cm2, had⟩
    clear hO2 cm2 had
    go_upto_region 5 with fail
    go_cut [12, 13] (fun p q wx => ∃ k1 k2 c0 c1 d0 d1 : Nat, p = .pointer (some ⟨k1, 0, none⟩) ∧ q = .pointer (some ⟨k2, 0, none⟩) ∧ Pair wx k1 c0 c1 ∧ Pair wx k2 d0 d1 ∧ Below V2.heap.size V2 wx ∧ V2.heap.size ≤ k1 ∧ V2.heap.size ≤ k2 ∧ Zc c0 c1 (overC (sumC .add (timesC (turnC N') (cl g.k)) (overC ((turnC N').1, (turnC N').2.map (Op.negFloat .f64)) (cl g.k))) (cl 4611686018427387904)) ∧ Zc d0 d1 (overC (sumC .sub (timesC (turnC N') (cl g.k)) (overC ((turnC N').1, (turnC N').2.map (Op.negFloat .f64)) (cl g.k))) (cl 4611686018427387904)))
    case first =>
      go_region_held (fun W => Below V2.heap.size V2 W) (go_grown)
        (first | (go_at_call 56; refine (iAdd_any hu hn _).mono ?_; rintro e wa ⟨a0, a1, rfl, ha, hbwa⟩; have hswa := hbwa.size; (try simp at hswa); have hRwa : Below V2.heap.size V2 wa := (by refine box_step ?_ hbwa (Nat.le_refl _); go_grown); have hLwa : Below V2.heap.size V2 wa := (by refine box_step ?_ hbwa (Nat.le_refl _); go_grown); obtain ⟨howa, hfwa, hzwa⟩ := olds hLwa; obtain ⟨hpwa, hqwa, hrwa⟩ := olds hbwa; have hs1wa := hLwa.size; (try (have hmwaV2a : V2.heap.size < wa.heap.size := by omega)); (try (have hnwaV2a : ¬ V2.heap.size = wa.heap.size := by omega)); (try (have hmwaV2b : V2.heap.size + 1 < wa.heap.size := by omega)); (try (have hnwaV2b : ¬ V2.heap.size + 1 = wa.heap.size := by omega)); (try (have hcwaV20 : wa.cell? ⟨V2.heap.size, 0, none⟩ = some (.float .f64 0) := by first | exact (hbwa.cell (by simp <;> omega)).trans (cell_alloc_old (cell_alloc_new rfl rfl)) | exact (hbwa.cell (by simp <;> omega)).trans (cell_alloc_new rfl rfl))); (try (have hcwaV21 : wa.cell? ⟨V2.heap.size, 1, none⟩ = some (.float .f64 0) := by first | exact (hbwa.cell (by simp <;> omega)).trans (cell_alloc_old (cell_alloc_new rfl rfl)) | exact (hbwa.cell (by simp <;> omega)).trans (cell_alloc_new rfl rfl)))) | (go_at_call_of 76 (Zv a0 a1); refine (iOver_any ha (fc_own (by omega)) _).mono ?_; rintro e wb ⟨c0, c1, rfl, hc, hbwb⟩; have hswb := hbwb.size; (try simp at hswb); have hRwb : Below V2.heap.size V2 wb := (by refine box_step ?_ hbwb (Nat.le_refl _); go_grown); have hLwb : Below wa.heap.size wa wb := (by refine box_step ?_ hbwb (Nat.le_refl _); go_grown); obtain ⟨howb, hfwb, hzwb⟩ := olds hLwb; obtain ⟨hpwb, hqwb, hrwb⟩ := olds hbwb; have hs1wb := hLwb.size; (try (have hmwbV2a : V2.heap.size < wb.heap.size := by omega)); (try (have hnwbV2a : ¬ V2.heap.size = wb.heap.size := by omega)); (try (have hmwbV2b : V2.heap.size + 1 < wb.heap.size := by omega)); (try (have hnwbV2b : ¬ V2.heap.size + 1 = wb.heap.size := by omega)); (try (have hmwbwaa : wa.heap.size < wb.heap.size := by omega)); (try (have hnwbwaa : ¬ wa.heap.size = wb.heap.size := by omega)); (try (have hmwbwab : wa.heap.size + 1 < wb.heap.size := by omega)); (try (have hnwbwab : ¬ wa.heap.size + 1 = wb.heap.size := by omega)); (try (have hcwbwa0 : wb.cell? ⟨wa.heap.size, 0, none⟩ = some (.float .f64 0) := by first | exact (hbwb.cell (by simp <;> omega)).trans (cell_alloc_old (cell_alloc_new rfl rfl)) | exact (hbwb.cell (by simp <;> omega)).trans (cell_alloc_new rfl rfl))); (try (have hcwbV20 : wb.cell? ⟨V2.heap.size, 0, none⟩ = some (.float .f64 0) := by exact old_cell hLwb (by omega) hcwaV20)); (try (have hcwbwa1 : wb.cell? ⟨wa.heap.size, 1, none⟩ = some (.float .f64 0) := by first | exact (hbwb.cell (by simp <;> omega)).trans (cell_alloc_old (cell_alloc_new rfl rfl)) | exact (hbwb.cell (by simp <;> omega)).trans (cell_alloc_new rfl rfl))); (try (have hcwbV21 : wb.cell? ⟨V2.heap.size, 1, none⟩ = some (.float .f64 0) := by exact old_cell hLwb (by omega) hcwaV21))) | (go_at_call 58; refine (iSub_any hu hn _).mono ?_; rintro e wc ⟨s0, s1, rfl, hsb, hbwc⟩; have hswc := hbwc.size; (try simp at hswc); have hRwc : Below V2.heap.size V2 wc := (by refine box_step ?_ hbwc (Nat.le_refl _); go_grown); have hLwc : Below wb.heap.size wb wc := (by refine box_step ?_ hbwc (Nat.le_refl _); go_grown); obtain ⟨howc, hfwc, hzwc⟩ := olds hLwc; obtain ⟨hpwc, hqwc, hrwc⟩ := olds hbwc; have hs1wc := hLwc.size; (try (have hmwcV2a : V2.heap.size < wc.heap.size := by omega)); (try (have hnwcV2a : ¬ V2.heap.size = wc.heap.size := by omega)); (try (have hmwcV2b : V2.heap.size + 1 < wc.heap.size := by omega)); (try (have hnwcV2b : ¬ V2.heap.size + 1 = wc.heap.size := by omega)); (try (have hmwcwaa : wa.heap.size < wc.heap.size := by omega)); (try (have hnwcwaa : ¬ wa.heap.size = wc.heap.size := by omega)); (try (have hmwcwab : wa.heap.size + 1 < wc.heap.size := by omega)); (try (have hnwcwab : ¬ wa.heap.size + 1 = wc.heap.size := by omega)); (try (have hmwcwba : wb.heap.size < wc.heap.size := by omega)); (try (have hnwcwba : ¬ wb.heap.size = wc.heap.size := by omega)); (try (have hmwcwbb : wb.heap.size + 1 < wc.heap.size := by omega)); (try (have hnwcwbb : ¬ wb.heap.size + 1 = wc.heap.size := by omega)); (try (have hcwcwb0 : wc.cell? ⟨wb.heap.size, 0, none⟩ = some (.float .f64 0) := by first | exact (hbwc.cell (by simp <;> omega)).trans (cell_alloc_old (cell_alloc_new rfl rfl)) | exact (hbwc.cell (by simp <;> omega)).trans (cell_alloc_new rfl rfl))); (try (have hcwcV20 : wc.cell? ⟨V2.heap.size, 0, none⟩ = some (.float .f64 0) := by exact old_cell hLwc (by omega) hcwbV20)); (try (have hcwcwa0 : wc.cell? ⟨wa.heap.size, 0, none⟩ = some (.float .f64 0) := by exact old_cell hLwc (by omega) hcwbwa0)); (try (have hcwcwb1 : wc.cell? ⟨wb.heap.size, 1, none⟩ = some (.float .f64 0) := by first | exact (hbwc.cell (by simp <;> omega)).trans (cell_alloc_old (cell_alloc_new rfl rfl)) | exact (hbwc.cell (by simp <;> omega)).trans (cell_alloc_new rfl rfl))); (try (have hcwcV21 : wc.cell? ⟨V2.heap.size, 1, none⟩ = some (.float .f64 0) := by exact old_cell hLwc (by omega) hcwbV21)); (try (have hcwcwa1 : wc.cell? ⟨wa.heap.size, 1, none⟩ = some (.float .f64 0) := by exact old_cell hLwc (by omega) hcwbwa1))) | (go_at_call_of 76 (Zv s0 s1); refine (iOver_any hsb (fc_own (by omega)) _).mono ?_; rintro e wd ⟨d0, d1, rfl, hd, hbwd⟩; have hswd := hbwd.size; (try simp at hswd); have hRwd : Below V2.heap.size V2 wd := (by refine box_step ?_ hbwd (Nat.le_refl _); go_grown); have hLwd : Below wc.heap.size wc wd := (by refine box_step ?_ hbwd (Nat.le_refl _); go_grown); obtain ⟨howd, hfwd, hzwd⟩ := olds hLwd; obtain ⟨hpwd, hqwd, hrwd⟩ := olds hbwd; have hs1wd := hLwd.size; (try (have hmwdV2a : V2.heap.size < wd.heap.size := by omega)); (try (have hnwdV2a : ¬ V2.heap.size = wd.heap.size := by omega)); (try (have hmwdV2b : V2.heap.size + 1 < wd.heap.size := by omega)); (try (have hnwdV2b : ¬ V2.heap.size + 1 = wd.heap.size := by omega)); (try (have hmwdwaa : wa.heap.size < wd.heap.size := by omega)); (try (have hnwdwaa : ¬ wa.heap.size = wd.heap.size := by omega)); (try (have hmwdwab : wa.heap.size + 1 < wd.heap.size := by omega)); (try (have hnwdwab : ¬ wa.heap.size + 1 = wd.heap.size := by omega)); (try (have hmwdwba : wb.heap.size < wd.heap.size := by omega)); (try (have hnwdwba : ¬ wb.heap.size = wd.heap.size := by omega)); (try (have hmwdwbb : wb.heap.size + 1 < wd.heap.size := by omega)); (try (have hnwdwbb : ¬ wb.heap.size + 1 = wd.heap.size := by omega)); (try (have hmwdwca : wc.heap.size < wd.heap.size := by omega)); (try (have hnwdwca : ¬ wc.heap.size = wd.heap.size := by omega)); (try (have hmwdwcb : wc.heap.size + 1 < wd.heap.size := by omega)); (try (have hnwdwcb : ¬ wc.heap.size + 1 = wd.heap.size := by omega)); (try (have hcwdwc0 : wd.cell? ⟨wc.heap.size, 0, none⟩ = some (.float .f64 0) := by first | exact (hbwd.cell (by simp <;> omega)).trans (cell_alloc_old (cell_alloc_new rfl rfl)) | exact (hbwd.cell (by simp <;> omega)).trans (cell_alloc_new rfl rfl))); (try (have hcwdV20 : wd.cell? ⟨V2.heap.size, 0, none⟩ = some (.float .f64 0) := by exact old_cell hLwd (by omega) hcwcV20)); (try (have hcwdwa0 : wd.cell? ⟨wa.heap.size, 0, none⟩ = some (.float .f64 0) := by exact old_cell hLwd (by omega) hcwcwa0)); (try (have hcwdwb0 : wd.cell? ⟨wb.heap.size, 0, none⟩ = some (.float .f64 0) := by exact old_cell hLwd (by omega) hcwcwb0)); (try (have hcwdwc1 : wd.cell? ⟨wc.heap.size, 1, none⟩ = some (.float .f64 0) := by first | exact (hbwd.cell (by simp <;> omega)).trans (cell_alloc_old (cell_alloc_new rfl rfl)) | exact (hbwd.cell (by simp <;> omega)).trans (cell_alloc_new rfl rfl))); (try (have hcwdV21 : wd.cell? ⟨V2.heap.size, 1, none⟩ = some (.float .f64 0) := by exact old_cell hLwd (by omega) hcwcV21)); (try (have hcwdwa1 : wd.cell? ⟨wa.heap.size, 1, none⟩ = some (.float .f64 0) := by exact old_cell hLwd (by omega) hcwcwa1)); (try (have hcwdwb1 : wd.cell? ⟨wb.heap.size, 1, none⟩ = some (.float .f64 0) := by exact old_cell hLwd (by omega) hcwcwb1))))
      all_goals
        go_wp2_with fail
        go_meet
        case rel =>
          refine ⟨_, _, _, _, _, _, rfl, rfl, ⟨?_, ?_⟩, ⟨?_, ?_⟩, ?_, ?_, ?_, hc, hd⟩
          · first | (go_simp; done) | (simp [*]; done)
          · first | (go_simp; done) | (simp [*]; done)
          · first | (go_simp; done) | (simp [*]; done)
          · first | (go_simp; done) | (simp [*]; done)
          · go_grown
          · omega
          · omega
    case rest =>
      obtain ⟨k1, k2, c0, c1, d0, d1, rfl, rfl, p1, p2, hB, hk1, hk2, hc, hd⟩ := hcut
      obtain ⟨Z, hZ⟩ : ∃ Z, Z = wc := ⟨_, rfl⟩
      subst hZ
      have hOZ := HO2.out.1.call hB
      have cmZ : Z.cell? ⟨w.heap.size + 1, 1, none⟩ = some (.float .f64 a) := old_cell hB (World.block_lt_of_cell? _ _ HO2.out.2.1) HO2.out.2.1
      have hy := HO2.out.2.2
      have hlt := HO2.out.1.lt
      have hF : Fin3 (w.heap.size + 1 + 1) X (w.heap.size + 1 + 1) k1 c0 c1 k2 d0 d1 (w.heap.size + 1) a Z := ⟨⟨hOZ, p1, p2, by omega, by omega⟩, cmZ, by omega⟩
      clear hOZ cmZ hB hR0 r0 r1' r2' r3' HO2 p1 p2 hlt
      have k0 : ∀ W, Fin3 (w.heap.size + 1 + 1) X (w.heap.size + 1 + 1) k1 c0 c1 k2 d0 d1 (w.heap.size + 1) a W → W.cell? ⟨k1, 0, none⟩ = some (.float .f64 c0) := fun _ h => h.two.pc.d0
      have k1x : ∀ W, Fin3 (w.heap.size + 1 + 1) X (w.heap.size + 1 + 1) k1 c0 c1 k2 d0 d1 (w.heap.size + 1) a W → W.cell? ⟨k1, 1, none⟩ = some (.float .f64 c1) := fun _ h => h.two.pc.d1
      have k2x : ∀ W, Fin3 (w.heap.size + 1 + 1) X (w.heap.size + 1 + 1) k1 c0 c1 k2 d0 d1 (w.heap.size + 1) a W → W.cell? ⟨k2, 0, none⟩ = some (.float .f64 d0) := fun _ h => h.two.pd.d0
      have k3 : ∀ W, Fin3 (w.heap.size + 1 + 1) X (w.heap.size + 1 + 1) k1 c0 c1 k2 d0 d1 (w.heap.size + 1) a W → W.cell? ⟨k2, 1, none⟩ = some (.float .f64 d1) := fun _ h => h.two.pd.d1
      have k4 : ∀ W, Fin3 (w.heap.size + 1 + 1) X (w.heap.size + 1 + 1) k1 c0 c1 k2 d0 d1 (w.heap.size + 1) a W → W.cell? ⟨w.heap.size + 1, 1, none⟩ = some (.float .f64 a) := fun _ h => h.m
      have g0 : ∀ W, Fin3 (w.heap.size + 1 + 1) X (w.heap.size + 1 + 1) k1 c0 c1 k2 d0 d1 (w.heap.size + 1) a W → W.cell? ⟨w.heap.size + 1 + 1, 0, none⟩ = some (got W (w.heap.size + 1 + 1) 0) := fun _ h => h.two.own.cell (by omega)
      have g1 : ∀ W, Fin3 (w.heap.size + 1 + 1) X (w.heap.size + 1 + 1) k1 c0 c1 k2 d0 d1 (w.heap.size + 1) a W → W.cell? ⟨w.heap.size + 1 + 1, 1, none⟩ = some (got W (w.heap.size + 1 + 1) 1) := fun _ h => h.two.own.cell (by omega)
      have g2 : ∀ W, Fin3 (w.heap.size + 1 + 1) X (w.heap.size + 1 + 1) k1 c0 c1 k2 d0 d1 (w.heap.size + 1) a W → W.cell? ⟨w.heap.size + 1 + 1, 2, none⟩ = some (got W (w.heap.size + 1 + 1) 2) := fun _ h => h.two.own.cell (by omega)
      have g3 : ∀ W, Fin3 (w.heap.size + 1 + 1) X (w.heap.size + 1 + 1) k1 c0 c1 k2 d0 d1 (w.heap.size + 1) a W → W.cell? ⟨w.heap.size + 1 + 1, 3, none⟩ = some (got W (w.heap.size + 1 + 1) 3) := fun _ h => h.two.own.cell (by omega)
      have g4 : ∀ W, Fin3 (w.heap.size + 1 + 1) X (w.heap.size + 1 + 1) k1 c0 c1 k2 d0 d1 (w.heap.size + 1) a W → W.cell? ⟨w.heap.size + 1 + 1, 4, none⟩ = some (got W (w.heap.size + 1 + 1) 4) := fun _ h => h.two.own.cell (by omega)
      have g5 : ∀ W, Fin3 (w.heap.size + 1 + 1) X (w.heap.size + 1 + 1) k1 c0 c1 k2 d0 d1 (w.heap.size + 1) a W → W.cell? ⟨w.heap.size + 1 + 1, 5, none⟩ = some (got W (w.heap.size + 1 + 1) 5) := fun _ h => h.two.own.cell (by omega)
      have g6 : ∀ W, Fin3 (w.heap.size + 1 + 1) X (w.heap.size + 1 + 1) k1 c0 c1 k2 d0 d1 (w.heap.size + 1) a W → W.cell? ⟨w.heap.size + 1 + 1, 6, none⟩ = some (got W (w.heap.size + 1 + 1) 6) := fun _ h => h.two.own.cell (by omega)
      have g7 : ∀ W, Fin3 (w.heap.size + 1 + 1) X (w.heap.size + 1 + 1) k1 c0 c1 k2 d0 d1 (w.heap.size + 1) a W → W.cell? ⟨w.heap.size + 1 + 1, 7, none⟩ = some (got W (w.heap.size + 1 + 1) 7) := fun _ h => h.two.own.cell (by omega)
      have gf : ∀ W j, Fin3 (w.heap.size + 1 + 1) X (w.heap.size + 1 + 1) k1 c0 c1 k2 d0 d1 (w.heap.size + 1) a W → W.frozen? ⟨w.heap.size + 1 + 1, j, none⟩ = false := fun _ j h => h.two.own.frozen j
      go_wp2_with fail
      go_region_held (fun W => Fin3 (w.heap.size + 1 + 1) X (w.heap.size + 1 + 1) k1 c0 c1 k2 d0 d1 (w.heap.size + 1) a W) (first | with_reducible assumption | with_reducible exact Fin3.drew ‹_› | with_reducible exact Fin3.drewN ‹_› _ | with_reducible exact Fin3.set (Fin3.set (Fin3.set (Fin3.set (Fin3.set (Fin3.set (Fin3.set (Fin3.set ‹_› _ _) _ _) _ _) _ _) _ _) _ _) _ _) _ _)
        (first | (go_at_call 76; refine (iOver_any hd hy _).mono ?_; rintro e w9 ⟨b0, b1, rfl, hbb, hb⟩; have hR9 := Fin3.call ‹_› hb) | (go_at_call 55; refine (iTimes_any hd hy _).mono ?_; rintro e wA ⟨t0, t1, rfl, htt, hb⟩; have hRA := Fin3.call ‹_› hb))
      have x0 := g0 _ hRA
      have x1 := g1 _ hRA
      have x2 := g2 _ hRA
      have x3 := g3 _ hRA
      have x4 := g4 _ hRA
      have x5 := g5 _ hRA
      have x6 := g6 _ hRA
      have x7 := g7 _ hRA
      clear k0 k1x k2x k3 k4 gf g0 g1 g2 g3 g4 g5 g6 g7
      go_wp2
      refine bodyPost_ret (v := Pv _ _ _ _ _ _ _ _) (by simp [results, Try.results43, go_sem, x0, x1, x2, x3, x4, x5, x6, x7] <;> exact ⟨rfl, rfl, rfl, rfl, rfl, rfl, rfl, rfl⟩) rfl ⟨_, _, _, _, _, _, _, _, rfl, pc_plate hc hbb htt, ?_⟩
      exact HX.out.trans ((Own.below (Fin2.own (Fin3.two ((Fin3.set (Fin3.set (Fin3.set (Fin3.set (Fin3.set (Fin3.set (Fin3.set (Fin3.set hRA _ _) _ _) _ _) _ _) _ _) _ _) _ _) _ _))))).mono (by omega))
  
end Go.Proofs.Ytnpcldgacdgplaa
