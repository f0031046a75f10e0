/- The plate of one film of a stack, as the program tells it. -/
import Derived.Test.YtnpcldgacdgplaaPr
import Derived.Deep.DeepCutAuto
namespace Go.Proofs.Ytnpcldgacdgplaa
open Go.RowKit Fl
set_option linter.unusedVariables false
set_option linter.unusedSimpArgs false
set_option maxHeartbeats 6400000 in
theorem iFilm_any {a o s : Nat} {v : Value} {n : Nat} {G : Nat → Fi} {w : World} (ha : a < 18446744073709551616) (ho : o < 18446744073709551616) (hs : s < 18446744073709551616) (h : RdV w v n 3 (fun i j => fcell (G i) j)) (ok : ∀ k, k < n → FiOk (G k)) (at' nm pol : Int) :
    RV 18 #[Sv a o v, .int .i64 at', Lv nm s pol] w (fpCode a o n G at' nm s pol) (fpPlate a o n G at' nm s pol) := by
  unfold RV
  have hst := st64
  obtain ⟨X, hX⟩ : ∃ X, X = (w.alloc (.cells #[.float .f64 a, .float .f64 o, v] 30)).alloc (.cells #[.int .i64 nm, .float .f64 s, .int .i64 pol] 37) := ⟨_, rfl⟩
  obtain ⟨Y, hY⟩ : ∃ Y, Y = X.alloc (.cells #[.int .i64 0, .float .f64 0, .float .f64 0, .float .f64 0, .float .f64 0, .float .f64 0, .float .f64 0, .float .f64 0, .float .f64 0] 45) := ⟨_, rfl⟩
  have hOY : Own (w.heap.size + 1 + 1) X (w.heap.size + 1 + 1) 9 45 Y := by
    have := own_made (X := X) (B := w.heap.size + 1 + 1) (t := 45) #[.int .i64 0, .float .f64 0, .float .f64 0, .float .f64 0, .float .f64 0, .float .f64 0, .float .f64 0, .float .f64 0, .float .f64 0] (by rw [hX]; simp)
    rw [hY]
    rw [show X.heap.size = w.heap.size + 1 + 1 by rw [hX]; simp] at this
    exact this
  have HX : Hid (Below w.heap.size w X) := by
    have h : Below w.heap.size w X := by rw [hX]; exact ((Below.refl _ _).alloc (Nat.le_refl _) _).alloc (by simp <;> omega) _
    exact h
  have HR0 : Hid (RdV w v n 3 (fun i j => fcell (G i) j)) := h
  have ks0 : ∀ W, Own (w.heap.size + 1 + 1) X (w.heap.size + 1 + 1) 9 45 W → W.cell? ⟨w.heap.size, 0, none⟩ = some (.float .f64 a) := fun _ h => h.old (by simp <;> omega) (by rw [hX]; exact cell_alloc_old (cell_alloc_new rfl rfl))
  have ks1 : ∀ W, Own (w.heap.size + 1 + 1) X (w.heap.size + 1 + 1) 9 45 W → W.cell? ⟨w.heap.size, 1, none⟩ = some (.float .f64 o) := fun _ h => h.old (by simp <;> omega) (by rw [hX]; exact cell_alloc_old (cell_alloc_new rfl rfl))
  have ks2 : ∀ W, Own (w.heap.size + 1 + 1) X (w.heap.size + 1 + 1) 9 45 W → W.cell? ⟨w.heap.size, 2, none⟩ = some (v) := fun _ h => h.old (by simp <;> omega) (by rw [hX]; exact cell_alloc_old (cell_alloc_new rfl rfl))
  have kl0 : ∀ W, Own (w.heap.size + 1 + 1) X (w.heap.size + 1 + 1) 9 45 W → W.cell? ⟨w.heap.size + 1, 0, none⟩ = some (.int .i64 nm) := fun _ h => h.old (by simp <;> omega) (by rw [hX]; exact cell_alloc_new (by simp) rfl)
  have kl1 : ∀ W, Own (w.heap.size + 1 + 1) X (w.heap.size + 1 + 1) 9 45 W → W.cell? ⟨w.heap.size + 1, 1, none⟩ = some (.float .f64 s) := fun _ h => h.old (by simp <;> omega) (by rw [hX]; exact cell_alloc_new (by simp) rfl)
  have kl2 : ∀ W, Own (w.heap.size + 1 + 1) X (w.heap.size + 1 + 1) 9 45 W → W.cell? ⟨w.heap.size + 1, 2, none⟩ = some (.int .i64 pol) := fun _ h => h.old (by simp <;> omega) (by rw [hX]; exact cell_alloc_new (by simp) rfl)
  have g0 : ∀ W, Own (w.heap.size + 1 + 1) X (w.heap.size + 1 + 1) 9 45 W → W.cell? ⟨w.heap.size + 1 + 1, 0, none⟩ = some (got W (w.heap.size + 1 + 1) 0) := fun _ h => h.cell (by omega)
  have g1 : ∀ W, Own (w.heap.size + 1 + 1) X (w.heap.size + 1 + 1) 9 45 W → W.cell? ⟨w.heap.size + 1 + 1, 1, none⟩ = some (got W (w.heap.size + 1 + 1) 1) := fun _ h => h.cell (by omega)
  have g2 : ∀ W, Own (w.heap.size + 1 + 1) X (w.heap.size + 1 + 1) 9 45 W → W.cell? ⟨w.heap.size + 1 + 1, 2, none⟩ = some (got W (w.heap.size + 1 + 1) 2) := fun _ h => h.cell (by omega)
  have g3 : ∀ W, Own (w.heap.size + 1 + 1) X (w.heap.size + 1 + 1) 9 45 W → W.cell? ⟨w.heap.size + 1 + 1, 3, none⟩ = some (got W (w.heap.size + 1 + 1) 3) := fun _ h => h.cell (by omega)
  have g4 : ∀ W, Own (w.heap.size + 1 + 1) X (w.heap.size + 1 + 1) 9 45 W → W.cell? ⟨w.heap.size + 1 + 1, 4, none⟩ = some (got W (w.heap.size + 1 + 1) 4) := fun _ h => h.cell (by omega)
  have g5 : ∀ W, Own (w.heap.size + 1 + 1) X (w.heap.size + 1 + 1) 9 45 W → W.cell? ⟨w.heap.size + 1 + 1, 5, none⟩ = some (got W (w.heap.size + 1 + 1) 5) := fun _ h => h.cell (by omega)
  have g6 : ∀ W, Own (w.heap.size + 1 + 1) X (w.heap.size + 1 + 1) 9 45 W → W.cell? ⟨w.heap.size + 1 + 1, 6, none⟩ = some (got W (w.heap.size + 1 + 1) 6) := fun _ h => h.cell (by omega)
  have g7 : ∀ W, Own (w.heap.size + 1 + 1) X (w.heap.size + 1 + 1) 9 45 W → W.cell? ⟨w.heap.size + 1 + 1, 7, none⟩ = some (got W (w.heap.size + 1 + 1) 7) := fun _ h => h.cell (by omega)
  have g8 : ∀ W, Own (w.heap.size + 1 + 1) X (w.heap.size + 1 + 1) 9 45 W → W.cell? ⟨w.heap.size + 1 + 1, 8, none⟩ = some (got W (w.heap.size + 1 + 1) 8) := fun _ h => h.cell (by omega)
  have gf : ∀ W j, Own (w.heap.size + 1 + 1) X (w.heap.size + 1 + 1) 9 45 W → W.frozen? ⟨w.heap.size + 1 + 1, j, none⟩ = false := fun _ j h => h.frozen j
  have H1 : Hid (∀ W, Below w.heap.size w W → Calls Try.prog 41 #[Sv a o v, Lv nm s pol] W fun e w' => e = .returned (.int .i64 (ofault a o n G nm s pol)) ∧ Below W.heap.size W w') := fun W hW => iOwn_any (h.later hW) nm s pol
  have H2 : Hid (∀ W, Below w.heap.size w W → ofault a o n G nm s pol = 0 → Calls Try.prog 42 #[Sv a o v, Lv nm s pol] W fun e w' => e = .returned (.bool (togB (lefB a s) a o n G)) ∧ Below W.heap.size W w') := fun W hW h0 => by
    have hn40 := (sf_zero (of_zero h0).1).1
    rw [← tog_ok ha ho hs ok h0]
    exact iTog_any ha ho hs (h.later hW) (by omega) ok nm pol
  have H3 : Hid (ofault a o n G nm s pol = 0 → togB (lefB a s) a o n G = true → ∀ k, k < n → ∃ P, phaseC (fwdC (cl a) (cl s) (cl (G k).i)) (cl (fi (G k).t)) (cl (fi nm)) = some P ∧ Pos P 60 ∧ floatToIntVal .f64 P .i64 = some (phN a s nm (G k))) := fun h0 ht k hk => by
    obtain ⟨q1, q2⟩ := of_zero h0
    obtain ⟨_, m1, _, m3⟩ := sf_zero q1
    unfold togB at ht
    simp only [Bool.and_eq_true] at ht
    exact ph_ok ha hs (ok k hk) m1 q2 (m3 k hk) (allB_of ht.1.1 k hk)
  have HW : Hid (a < 18446744073709551616 ∧ s < 18446744073709551616 ∧ ∀ k, k < n → FiOk (G k)) := ⟨ha, hs, ok⟩
  obtain ⟨c, hc⟩ : ∃ c, fpCode a o n G at' nm s pol = c := ⟨_, rfl⟩
  obtain ⟨p, hp⟩ : ∃ p, fpPlate a o n G at' nm s pol = p := ⟨_, rfl⟩
  rw [hc, hp]
  have HR : Hid ((¬ ofault a o n G nm s pol = 0 → ofault a o n G nm s pol = c ∧ p = P0) ∧ (ofault a o n G nm s pol = 0 → (at' < 0 ∨ (n : Int) ≤ at') → 1 = c ∧ p = P0) ∧ (ofault a o n G nm s pol = 0 → ¬ (at' < 0 ∨ (n : Int) ≤ at') → togB (lefB a s) a o n G = false → 4 = c ∧ p = P0) ∧ (ofault a o n G nm s pol = 0 → ¬ (at' < 0 ∨ (n : Int) ≤ at') → togB (lefB a s) a o n G = true → 0 = c ∧ p = plateF a s nm pol (G at'.toNat))) := by
    unfold fpPlate at hp
    rw [hc] at hp
    unfold fpCode at hc
    refine ⟨fun h1 => ?_, fun h1 h2 => ?_, fun h1 h2 h3 => ?_, fun h1 h2 h3 => ?_⟩
    · rw [if_neg h1] at hc
      rw [if_neg (by omega)] at hp
      exact ⟨hc, hp.symm⟩
    · rw [if_pos h1, if_pos h2] at hc
      rw [if_neg (by omega)] at hp
      exact ⟨hc, hp.symm⟩
    · rw [if_pos h1, if_neg h2, if_neg (by simp [h3])] at hc
      rw [if_neg (by omega)] at hp
      exact ⟨hc, hp.symm⟩
    · rw [if_pos h1, if_neg h2, if_pos h3] at hc
      rw [if_pos (by omega)] at hp
      exact ⟨hc, hp.symm⟩
  clear hc hp ha ho hs ok
  generalize ofault a o n G nm s pol = k at *
  generalize togB (lefB a s) a o n G = t at *
  go_enter Try.func18, Try.ntmps18
  go_upto_region 1 with fail
  rw [← hX, ← hY]
  have BY : Hid (Below w.heap.size w Y) := by
    have h : Below w.heap.size w Y := by rw [hY]; exact HX.out.alloc HX.out.size _
    exact h
  clear hX hY h
  have s0_Y := ks0 _ hOY
  have s1_Y := ks1 _ hOY
  have s2_Y := ks2 _ hOY
  have l0_Y := kl0 _ hOY
  have l1_Y := kl1 _ hOY
  have l2_Y := kl2 _ hOY
  go_wp2_with fail
  refine (H1.out _ BY.out).mono ?_
  rintro e w1 ⟨rfl, hb⟩
  have hOw1 := hOY.call hb
  have A1 : Hid (Below w.heap.size w w1) := box_step BY.out hb (Nat.le_refl _)
  clear hb hOY s0_Y s1_Y s2_Y l0_Y l1_Y l2_Y
  by_cases hk : k = 0
  · subst hk
    have HK0 : Hid ((at' < 0 ∨ (n : Int) ≤ at' → 1 = c ∧ p = P0) ∧ (¬ (at' < 0 ∨ (n : Int) ≤ at') → t = false → 4 = c ∧ p = P0) ∧ (¬ (at' < 0 ∨ (n : Int) ≤ at') → t = true → 0 = c ∧ p = plateF a s nm pol (G at'.toNat))) := ⟨HR.out.2.1 rfl, HR.out.2.2.1 rfl, HR.out.2.2.2 rfl⟩
    have H3' : Hid (t = true → ∀ k, k < n → ∃ P, phaseC (fwdC (cl a) (cl s) (cl (G k).i)) (cl (fi (G k).t)) (cl (fi nm)) = some P ∧ Pos P 60 ∧ floatToIntVal .f64 P .i64 = some (phN a s nm (G k))) := fun ht => H3.out rfl ht
    have H2' : Hid (∀ W, Below w.heap.size w W → Calls Try.prog 42 #[Sv a o v, Lv nm s pol] W fun e w' => e = .returned (.bool t) ∧ Below W.heap.size W w') := fun W hW => H2.out W hW rfl
    clear HR H1 H2 H3
    obtain ⟨ao, cap, rfl⟩ := HR0.out.form
    have s0_w1 := ks0 _ hOw1
    have s1_w1 := ks1 _ hOw1
    have s2_w1 := ks2 _ hOw1
    have l0_w1 := kl0 _ hOw1
    have l1_w1 := kl1 _ hOw1
    have l2_w1 := kl2 _ hOw1
    by_cases h1 : at' < 0
    · obtain ⟨rfl, rfl⟩ := HK0.out.1 (Or.inl h1)
      have x0 := g0 _ hOw1
      have x1 := g1 _ hOw1
      have x2 := g2 _ hOw1
      have x3 := g3 _ hOw1
      have x4 := g4 _ hOw1
      have x5 := g5 _ hOw1
      have x6 := g6 _ hOw1
      have x7 := g7 _ hOw1
      have x8 := g8 _ hOw1
      have xf : ∀ j, w1.frozen? ⟨w.heap.size + 1 + 1, j, none⟩ = false := fun j => gf _ j hOw1
      clear ks0 ks1 ks2 kl0 kl1 kl2 g0 g1 g2 g3 g4 g5 g6 g7 g8 gf
      go_wp2
      refine bodyPost_ret (v := Rv9 1 0 0 0 0 0 0 0 0) (by simp [results, Try.results18, go_sem, x0, x1, x2, x3, x4, x5, x6, x7, x8] ) rfl ⟨_, _, _, _, _, _, _, _, rfl, pc_zero, ?_⟩
      exact HX.out.trans ((Own.below (Own.set (Own.set (Own.set (Own.set (Own.set (Own.set (Own.set (Own.set (Own.set hOw1 _ _) _ _) _ _) _ _) _ _) _ _) _ _) _ _) _ _)).mono (by omega))
    by_cases h2 : (n : Int) ≤ at'
    · obtain ⟨rfl, rfl⟩ := HK0.out.1 (Or.inr h2)
      have x0 := g0 _ hOw1
      have x1 := g1 _ hOw1
      have x2 := g2 _ hOw1
      have x3 := g3 _ hOw1
      have x4 := g4 _ hOw1
      have x5 := g5 _ hOw1
      have x6 := g6 _ hOw1
      have x7 := g7 _ hOw1
      have x8 := g8 _ hOw1
      have xf : ∀ j, w1.frozen? ⟨w.heap.size + 1 + 1, j, none⟩ = false := fun j => gf _ j hOw1
      clear ks0 ks1 ks2 kl0 kl1 kl2 g0 g1 g2 g3 g4 g5 g6 g7 g8 gf
      go_wp2
      refine bodyPost_ret (v := Rv9 1 0 0 0 0 0 0 0 0) (by simp [results, Try.results18, go_sem, x0, x1, x2, x3, x4, x5, x6, x7, x8] ) rfl ⟨_, _, _, _, _, _, _, _, rfl, pc_zero, ?_⟩
      exact HX.out.trans ((Own.below (Own.set (Own.set (Own.set (Own.set (Own.set (Own.set (Own.set (Own.set (Own.set hOw1 _ _) _ _) _ _) _ _) _ _) _ _) _ _) _ _) _ _)).mono (by omega))
    have h3 : ¬ (at' < 0 ∨ (n : Int) ≤ at') := by omega
    obtain ⟨m, rfl⟩ : ∃ m : Nat, at' = m := ⟨at'.toNat, by omega⟩
    have hmn : m < n := by omega
    have h2' : (m : Int) < n := by omega
    have HK1 : Hid ((t = false → 4 = c ∧ p = P0) ∧ (t = true → 0 = c ∧ p = plateF a s nm pol (G m))) := ⟨HK0.out.2.1 h3, HK0.out.2.2 h3⟩
    clear HK0 h3
    go_wp2_with fail
    refine (H2'.out _ A1.out).mono ?_
    rintro e w2 ⟨rfl, hb⟩
    have hOw2 := hOw1.call hb
    have A2 : Hid (Below w.heap.size w w2) := box_step A1.out hb (Nat.le_refl _)
    clear hb hOw1 s0_w1 s1_w1 s2_w1 l0_w1 l1_w1 l2_w1 A1
    cases t
    · obtain ⟨rfl, rfl⟩ := HK1.out.1 rfl
      have x0 := g0 _ hOw2
      have x1 := g1 _ hOw2
      have x2 := g2 _ hOw2
      have x3 := g3 _ hOw2
      have x4 := g4 _ hOw2
      have x5 := g5 _ hOw2
      have x6 := g6 _ hOw2
      have x7 := g7 _ hOw2
      have x8 := g8 _ hOw2
      have xf : ∀ j, w2.frozen? ⟨w.heap.size + 1 + 1, j, none⟩ = false := fun j => gf _ j hOw2
      clear ks0 ks1 ks2 kl0 kl1 kl2 g0 g1 g2 g3 g4 g5 g6 g7 g8 gf
      go_wp2
      refine bodyPost_ret (v := Rv9 4 0 0 0 0 0 0 0 0) (by simp [results, Try.results18, go_sem, x0, x1, x2, x3, x4, x5, x6, x7, x8] ) rfl ⟨_, _, _, _, _, _, _, _, rfl, pc_zero, ?_⟩
      exact HX.out.trans ((Own.below (Own.set (Own.set (Own.set (Own.set (Own.set (Own.set (Own.set (Own.set (Own.set hOw2 _ _) _ _) _ _) _ _) _ _) _ _) _ _) _ _) _ _)).mono (by omega))
    · obtain ⟨rfl, hpp⟩ := HK1.out.2 rfl
      have HPP : Hid (p = plateC (phN a s nm (G m)) (cl (G m).k) (admC pol (cl (G m).i) (fwdC (cl a) (cl s) (cl (G m).i)))) := hpp
      obtain ⟨P, hP, hp, hN⟩ := H3'.out rfl m hmn
      rcases HR0.out with ⟨_, _, _, e0⟩ | ⟨b, off, cap', e0, hcl⟩
      · omega
      simp only [Value.slice.injEq] at e0
      obtain ⟨rfl, _, rfl⟩ := e0
      have hblt : b < w.heap.size := World.block_lt_of_cell? _ _ (hcl m hmn 0 (by omega))
      have c0 : X.cell? ⟨b, off + m * 3, none⟩ = some (.float .f64 (G m).i) := (HX.out.cell hblt).trans (hcl m hmn 0 (by omega))
      have c1 : X.cell? ⟨b, off + m * 3 + 1, none⟩ = some (.float .f64 (G m).k) := (HX.out.cell hblt).trans (hcl m hmn 1 (by omega))
      have c2 : X.cell? ⟨b, off + m * 3 + 2, none⟩ = some (.int .i64 (G m).t) := (HX.out.cell hblt).trans (hcl m hmn 2 (by omega))
      have f0 : ∀ W, Own (w.heap.size + 1 + 1) X (w.heap.size + 1 + 1) 9 45 W → W.cell? ⟨b, off + m * 3, none⟩ = some (.float .f64 (G m).i) := fun _ h => h.old (by show b < _; omega) c0
      have f1 : ∀ W, Own (w.heap.size + 1 + 1) X (w.heap.size + 1 + 1) 9 45 W → W.cell? ⟨b, off + m * 3 + 1, none⟩ = some (.float .f64 (G m).k) := fun _ h => h.old (by show b < _; omega) c1
      have f2 : ∀ W, Own (w.heap.size + 1 + 1) X (w.heap.size + 1 + 1) 9 45 W → W.cell? ⟨b, off + m * 3 + 2, none⟩ = some (.int .i64 (G m).t) := fun _ h => h.old (by show b < _; omega) c2
      have HH : Hid (phaseC (fwdC (cl a) (cl s) (cl (G m).i)) (cl (fi (G m).t)) (cl (fi nm)) = some P ∧ Pos P 60 ∧ floatToIntVal .f64 P .i64 = some (phN a s nm (G m)) ∧ a < 18446744073709551616 ∧ s < 18446744073709551616 ∧ FiOk (G m)) := ⟨hP, hp, hN, HW.out.1, HW.out.2.1, HW.out.2.2 m hmn⟩
      clear hpp hP hp hN hcl c0 c1 c2 H3' HK1 HW H2' hblt
      generalize phN a s nm (G m) = N at *
      generalize G m = g at *
      have q0 := f0 _ hOw2
      have q1 := f1 _ hOw2
      have q2 := f2 _ hOw2
      have s0_w2 := ks0 _ hOw2
      have s1_w2 := ks1 _ hOw2
      have s2_w2 := ks2 _ hOw2
      have l0_w2 := kl0 _ hOw2
      have l1_w2 := kl1 _ hOw2
      have l2_w2 := kl2 _ hOw2
      obtain ⟨Z, hZ⟩ : ∃ Z, Z = w2.alloc (.cells #[.float .f64 g.i, .float .f64 g.k, .int .i64 g.t] 60) := ⟨_, rfl⟩
      have hF : OwnF (w.heap.size + 1 + 1) X (w.heap.size + 1 + 1) 9 45 w2.heap.size g Z := by
        have n1 := hOw2.lt
        refine ⟨?_, ?_, ?_, ?_, by omega⟩
        · rw [hZ]; exact hOw2.alloc _
        · rw [hZ]; exact cell_alloc_new rfl rfl
        · rw [hZ]; exact cell_alloc_new rfl rfl
        · rw [hZ]; exact cell_alloc_new rfl rfl
      have ms0 : ∀ W, OwnF (w.heap.size + 1 + 1) X (w.heap.size + 1 + 1) 9 45 w2.heap.size g W → _ := fun W h => ks0 W h.own
      have ms1 : ∀ W, OwnF (w.heap.size + 1 + 1) X (w.heap.size + 1 + 1) 9 45 w2.heap.size g W → _ := fun W h => ks1 W h.own
      have ms2 : ∀ W, OwnF (w.heap.size + 1 + 1) X (w.heap.size + 1 + 1) 9 45 w2.heap.size g W → _ := fun W h => ks2 W h.own
      have ml0 : ∀ W, OwnF (w.heap.size + 1 + 1) X (w.heap.size + 1 + 1) 9 45 w2.heap.size g W → _ := fun W h => kl0 W h.own
      have ml1 : ∀ W, OwnF (w.heap.size + 1 + 1) X (w.heap.size + 1 + 1) 9 45 w2.heap.size g W → _ := fun W h => kl1 W h.own
      have ml2 : ∀ W, OwnF (w.heap.size + 1 + 1) X (w.heap.size + 1 + 1) 9 45 w2.heap.size g W → _ := fun W h => kl2 W h.own
      have gg0 : ∀ W, OwnF (w.heap.size + 1 + 1) X (w.heap.size + 1 + 1) 9 45 w2.heap.size g W → _ := fun W h => g0 W h.own
      have gg1 : ∀ W, OwnF (w.heap.size + 1 + 1) X (w.heap.size + 1 + 1) 9 45 w2.heap.size g W → _ := fun W h => g1 W h.own
      have gg2 : ∀ W, OwnF (w.heap.size + 1 + 1) X (w.heap.size + 1 + 1) 9 45 w2.heap.size g W → _ := fun W h => g2 W h.own
      have gg3 : ∀ W, OwnF (w.heap.size + 1 + 1) X (w.heap.size + 1 + 1) 9 45 w2.heap.size g W → _ := fun W h => g3 W h.own
      have gg4 : ∀ W, OwnF (w.heap.size + 1 + 1) X (w.heap.size + 1 + 1) 9 45 w2.heap.size g W → _ := fun W h => g4 W h.own
      have gg5 : ∀ W, OwnF (w.heap.size + 1 + 1) X (w.heap.size + 1 + 1) 9 45 w2.heap.size g W → _ := fun W h => g5 W h.own
      have gg6 : ∀ W, OwnF (w.heap.size + 1 + 1) X (w.heap.size + 1 + 1) 9 45 w2.heap.size g W → _ := fun W h => g6 W h.own
      have gg7 : ∀ W, OwnF (w.heap.size + 1 + 1) X (w.heap.size + 1 + 1) 9 45 w2.heap.size g W → _ := fun W h => g7 W h.own
      have gg8 : ∀ W, OwnF (w.heap.size + 1 + 1) X (w.heap.size + 1 + 1) 9 45 w2.heap.size g W → _ := fun W h => g8 W h.own
      have ggf : ∀ W j, OwnF (w.heap.size + 1 + 1) X (w.heap.size + 1 + 1) 9 45 w2.heap.size g W → _ := fun W j h => gf W j h.own
      have v0 : ∀ W, OwnF (w.heap.size + 1 + 1) X (w.heap.size + 1 + 1) 9 45 w2.heap.size g W → W.cell? ⟨w2.heap.size, 0, none⟩ = some (.float .f64 g.i) := fun _ h => h.d0
      have v1 : ∀ W, OwnF (w.heap.size + 1 + 1) X (w.heap.size + 1 + 1) 9 45 w2.heap.size g W → W.cell? ⟨w2.heap.size, 1, none⟩ = some (.float .f64 g.k) := fun _ h => h.d1
      have v2 : ∀ W, OwnF (w.heap.size + 1 + 1) X (w.heap.size + 1 + 1) 9 45 w2.heap.size g W → W.cell? ⟨w2.heap.size, 2, none⟩ = some (.int .i64 g.t) := fun _ h => h.d2
      clear ks0 ks1 ks2 kl0 kl1 kl2 g0 g1 g2 g3 g4 g5 g6 g7 g8 gf f0 f1 f2
      go_upto_region 9 with fail
      rw [← hZ]
      clear hZ hOw2 q0 q1 q2 s0_w2 s1_w2 s2_w2 l0_w2 l1_w2 l2_w2
      go_region_held (fun W => OwnF (w.heap.size + 1 + 1) X (w.heap.size + 1 + 1) 9 45 w2.heap.size g W) (first | with_reducible assumption | with_reducible exact OwnF.drew ‹_› | with_reducible exact OwnF.drewN ‹_› _ | with_reducible exact OwnF.set (OwnF.set (OwnF.set (OwnF.set (OwnF.set (OwnF.set (OwnF.set (OwnF.set (OwnF.set ‹_› _ _) _ _) _ _) _ _) _ _) _ _) _ _) _ _) _ _)
        (first | (go_at_call 44; refine (media_any (fc_own HH.out.2.2.2.1) (fc_own HH.out.2.2.2.2.1) o _ nm pol _).mono ?_; rintro e w3 ⟨bq, kq, rfl, hM, hb⟩; have hR3 := OwnF.call ‹_› hb) | (go_at_call 77; refine (medium_any (fc_own HH.out.2.2.2.2.2.hi) (by first | exact hM | exact hM.later ((Below.refl _ _).drew))).mono ?_; rintro e w4 ⟨fq, aq, rfl, hfq, haq, hb⟩; have hR4 := OwnF.call ‹_› hb) | (go_at_call 43; refine (iPlate_any hfq haq HH.out.2.2.2.2.2 nm HH.out.1 HH.out.2.1 HH.out.2.2.1 _).mono ?_; rintro e w5 ⟨p0, p1, p2, p3, p4, p5, p6, p7, rfl, hpc, hb⟩; have hR5 := OwnF.call ‹_› hb))
      have x0 := gg0 _ hR5
      have x1 := gg1 _ hR5
      have x2 := gg2 _ hR5
      have x3 := gg3 _ hR5
      have x4 := gg4 _ hR5
      have x5 := gg5 _ hR5
      have x6 := gg6 _ hR5
      have x7 := gg7 _ hR5
      have x8 := gg8 _ hR5
      clear ms0 ms1 ms2 ml0 ml1 ml2 gg0 gg1 gg2 gg3 gg4 gg5 gg6 gg7 gg8 ggf v0 v1 v2
      go_wp2
      refine bodyPost_ret (v := Rv9 0 p0 p1 p2 p3 p4 p5 p6 p7) (by simp [results, Try.results18, go_sem, x0, x1, x2, x3, x4, x5, x6, x7, x8]) rfl ⟨_, _, _, _, _, _, _, _, rfl, (by rw [HPP.out]; exact hpc), ?_⟩
      exact HX.out.trans ((Own.below (OwnF.own (OwnF.set (OwnF.set (OwnF.set (OwnF.set (OwnF.set (OwnF.set (OwnF.set (OwnF.set (OwnF.set hR5 _ _) _ _) _ _) _ _) _ _) _ _) _ _) _ _) _ _))).mono (by omega))
  · have hk' : (k != 0) = true := by simpa using hk
    obtain ⟨rfl, rfl⟩ := HR.out.1 hk
    have x0 := g0 _ hOw1
    have x1 := g1 _ hOw1
    have x2 := g2 _ hOw1
    have x3 := g3 _ hOw1
    have x4 := g4 _ hOw1
    have x5 := g5 _ hOw1
    have x6 := g6 _ hOw1
    have x7 := g7 _ hOw1
    have x8 := g8 _ hOw1
    have xf : ∀ j, w1.frozen? ⟨w.heap.size + 1 + 1, j, none⟩ = false := fun j => gf _ j hOw1
    clear ks0 ks1 ks2 kl0 kl1 kl2 g0 g1 g2 g3 g4 g5 g6 g7 g8 gf
    go_wp2
    refine bodyPost_ret (v := Rv9 k 0 0 0 0 0 0 0 0) (by simp [results, Try.results18, go_sem, x0, x1, x2, x3, x4, x5, x6, x7, x8] ) rfl ⟨_, _, _, _, _, _, _, _, rfl, pc_zero, ?_⟩
    exact HX.out.trans ((Own.below (Own.set (Own.set (Own.set (Own.set (Own.set (Own.set (Own.set (Own.set (Own.set hOw1 _ _) _ _) _ _) _ _) _ _) _ _) _ _) _ _) _ _)).mono (by omega))
end Go.Proofs.Ytnpcldgacdgplaa
