/- A stack's plate, as the specification tells it. -/
import Derived.Test.YtnpcldgacdgplaaSk
import Derived.Deep.DeepCutAuto
namespace Go.Proofs.Ytnpcldgacdgplaa
open Go.RowKit Fl
set_option linter.unusedVariables false
set_option linter.unusedSimpArgs false
/-- What StackPlate tells. -/
def spPlate (a o n : Nat) (G : Nat → Fi) (nm : Int) (s : Nat) (pol : Int) : P4 := if pfault a o n G nm s pol = 0 then chainP (fun k => plateF a s nm pol (G k)) n else P0
set_option maxHeartbeats 6400000 in
theorem sStackP_any {a o s : Nat} {v : Value} {n : Nat} {G : Nat → Fi} {w : World} (ha : a < 18446744073709551616) (ho : o < 18446744073709551616) (hs : s < 18446744073709551616) (h : RdV w v n 3 (fun i j => fcell (G i) j)) (ok : ∀ k, k < n → FiOk (G k)) (nm pol : Int) :
    RV 20 #[Sv a o v, Lv nm s pol] w (pfault a o n G nm s pol) (spPlate a o n G nm s pol) := by
  unfold RV
  have hst := st64
  obtain ⟨X, hX⟩ : ∃ X, X = (w.alloc (.cells #[.float .f64 a, .float .f64 o, v] 30)).alloc (.cells #[.int .i64 nm, .float .f64 s, .int .i64 pol] 37) := ⟨_, rfl⟩
  obtain ⟨Y, hY⟩ : ∃ Y, Y = X.alloc (.cells #[.int .i64 0, .float .f64 0, .float .f64 0, .float .f64 0, .float .f64 0, .float .f64 0, .float .f64 0, .float .f64 0, .float .f64 0] 45) := ⟨_, rfl⟩
  have hOY : Own (w.heap.size + 1 + 1) X (w.heap.size + 1 + 1) 9 45 Y := by
    have := own_made (X := X) (B := w.heap.size + 1 + 1) (t := 45) #[.int .i64 0, .float .f64 0, .float .f64 0, .float .f64 0, .float .f64 0, .float .f64 0, .float .f64 0, .float .f64 0, .float .f64 0] (by rw [hX]; simp)
    rw [hY]
    rw [show X.heap.size = w.heap.size + 1 + 1 by rw [hX]; simp] at this
    exact this
  have HX : Hid (Below w.heap.size w X) := by
    have h : Below w.heap.size w X := by rw [hX]; exact ((Below.refl _ _).alloc (Nat.le_refl _) _).alloc (by simp <;> omega) _
    exact h
  have HR0 : Hid (RdV w v n 3 (fun i j => fcell (G i) j)) := h
  have ks0 : ∀ W, Own (w.heap.size + 1 + 1) X (w.heap.size + 1 + 1) 9 45 W → W.cell? ⟨w.heap.size, 0, none⟩ = some (.float .f64 a) := fun _ h => h.old (by simp <;> omega) (by rw [hX]; exact cell_alloc_old (cell_alloc_new rfl rfl))
  have ks1 : ∀ W, Own (w.heap.size + 1 + 1) X (w.heap.size + 1 + 1) 9 45 W → W.cell? ⟨w.heap.size, 1, none⟩ = some (.float .f64 o) := fun _ h => h.old (by simp <;> omega) (by rw [hX]; exact cell_alloc_old (cell_alloc_new rfl rfl))
  have ks2 : ∀ W, Own (w.heap.size + 1 + 1) X (w.heap.size + 1 + 1) 9 45 W → W.cell? ⟨w.heap.size, 2, none⟩ = some (v) := fun _ h => h.old (by simp <;> omega) (by rw [hX]; exact cell_alloc_old (cell_alloc_new rfl rfl))
  have kl0 : ∀ W, Own (w.heap.size + 1 + 1) X (w.heap.size + 1 + 1) 9 45 W → W.cell? ⟨w.heap.size + 1, 0, none⟩ = some (.int .i64 nm) := fun _ h => h.old (by simp <;> omega) (by rw [hX]; exact cell_alloc_new (by simp) rfl)
  have kl1 : ∀ W, Own (w.heap.size + 1 + 1) X (w.heap.size + 1 + 1) 9 45 W → W.cell? ⟨w.heap.size + 1, 1, none⟩ = some (.float .f64 s) := fun _ h => h.old (by simp <;> omega) (by rw [hX]; exact cell_alloc_new (by simp) rfl)
  have kl2 : ∀ W, Own (w.heap.size + 1 + 1) X (w.heap.size + 1 + 1) 9 45 W → W.cell? ⟨w.heap.size + 1, 2, none⟩ = some (.int .i64 pol) := fun _ h => h.old (by simp <;> omega) (by rw [hX]; exact cell_alloc_new (by simp) rfl)
  have g0 : ∀ W, Own (w.heap.size + 1 + 1) X (w.heap.size + 1 + 1) 9 45 W → W.cell? ⟨w.heap.size + 1 + 1, 0, none⟩ = some (got W (w.heap.size + 1 + 1) 0) := fun _ h => h.cell (by omega)
  have g1 : ∀ W, Own (w.heap.size + 1 + 1) X (w.heap.size + 1 + 1) 9 45 W → W.cell? ⟨w.heap.size + 1 + 1, 1, none⟩ = some (got W (w.heap.size + 1 + 1) 1) := fun _ h => h.cell (by omega)
  have g2 : ∀ W, Own (w.heap.size + 1 + 1) X (w.heap.size + 1 + 1) 9 45 W → W.cell? ⟨w.heap.size + 1 + 1, 2, none⟩ = some (got W (w.heap.size + 1 + 1) 2) := fun _ h => h.cell (by omega)
  have g3 : ∀ W, Own (w.heap.size + 1 + 1) X (w.heap.size + 1 + 1) 9 45 W → W.cell? ⟨w.heap.size + 1 + 1, 3, none⟩ = some (got W (w.heap.size + 1 + 1) 3) := fun _ h => h.cell (by omega)
  have g4 : ∀ W, Own (w.heap.size + 1 + 1) X (w.heap.size + 1 + 1) 9 45 W → W.cell? ⟨w.heap.size + 1 + 1, 4, none⟩ = some (got W (w.heap.size + 1 + 1) 4) := fun _ h => h.cell (by omega)
  have g5 : ∀ W, Own (w.heap.size + 1 + 1) X (w.heap.size + 1 + 1) 9 45 W → W.cell? ⟨w.heap.size + 1 + 1, 5, none⟩ = some (got W (w.heap.size + 1 + 1) 5) := fun _ h => h.cell (by omega)
  have g6 : ∀ W, Own (w.heap.size + 1 + 1) X (w.heap.size + 1 + 1) 9 45 W → W.cell? ⟨w.heap.size + 1 + 1, 6, none⟩ = some (got W (w.heap.size + 1 + 1) 6) := fun _ h => h.cell (by omega)
  have g7 : ∀ W, Own (w.heap.size + 1 + 1) X (w.heap.size + 1 + 1) 9 45 W → W.cell? ⟨w.heap.size + 1 + 1, 7, none⟩ = some (got W (w.heap.size + 1 + 1) 7) := fun _ h => h.cell (by omega)
  have g8 : ∀ W, Own (w.heap.size + 1 + 1) X (w.heap.size + 1 + 1) 9 45 W → W.cell? ⟨w.heap.size + 1 + 1, 8, none⟩ = some (got W (w.heap.size + 1 + 1) 8) := fun _ h => h.cell (by omega)
  have gf : ∀ W j, Own (w.heap.size + 1 + 1) X (w.heap.size + 1 + 1) 9 45 W → W.frozen? ⟨w.heap.size + 1 + 1, j, none⟩ = false := fun _ j h => h.frozen j
  have H1 : Hid (∀ W, Below w.heap.size w W → Calls Try.prog 38 #[Sv a o v, Lv nm s pol] W fun e w' => e = .returned (.int .i64 (ofault a o n G nm s pol)) ∧ Below W.heap.size W w') := fun W hW => sOwn_any (h.later hW) nm s pol
  have H2 : Hid (∀ W, Below w.heap.size w W → ofault a o n G nm s pol = 0 → Calls Try.prog 39 #[Sv a o v, Lv nm s pol] W fun e w' => e = .returned (.bool (togB (lefB a s) a o n G)) ∧ Below W.heap.size W w') := fun W hW h0 => by
    have hn40 := (sf_zero (of_zero h0).1).1
    exact sTog_any ha ho hs (h.later hW) (by omega) ok nm pol
  have H3 : Hid (ofault a o n G nm s pol = 0 → togB (lefB a s) a o n G = true → n ≤ 40 ∧ ∀ k, k < n → ∃ P, phaseC (fwdC (cl a) (cl s) (cl (G k).i)) (cl (fi (G k).t)) (cl (fi nm)) = some P ∧ Pos P 60 ∧ floatToIntVal .f64 P .i64 = some (phN a s nm (G k))) := fun h0 ht => by
    obtain ⟨q1, q2⟩ := of_zero h0
    obtain ⟨m0, m1, _, m3⟩ := sf_zero q1
    refine ⟨m0, fun k hk => ?_⟩
    unfold togB at ht
    simp only [Bool.and_eq_true] at ht
    exact ph_ok ha hs (ok k hk) m1 q2 (m3 k hk) (allB_of ht.1.1 k hk)
  have HW : Hid (a < 18446744073709551616 ∧ s < 18446744073709551616 ∧ ∀ k, k < n → FiOk (G k)) := ⟨ha, hs, ok⟩
  obtain ⟨c, hc⟩ : ∃ c, pfault a o n G nm s pol = c := ⟨_, rfl⟩
  obtain ⟨p, hp⟩ : ∃ p, spPlate a o n G nm s pol = p := ⟨_, rfl⟩
  rw [hc, hp]
  have HR : Hid ((¬ ofault a o n G nm s pol = 0 → ofault a o n G nm s pol = c ∧ p = P0) ∧ (ofault a o n G nm s pol = 0 → togB (lefB a s) a o n G = false → 4 = c ∧ p = P0) ∧ (ofault a o n G nm s pol = 0 → togB (lefB a s) a o n G = true → 0 = c ∧ p = chainP (fun k => plateF a s nm pol (G k)) n)) := by
    unfold spPlate at hp
    rw [hc] at hp
    unfold pfault at hc
    refine ⟨fun h1 => ?_, fun h1 h3 => ?_, fun h1 h3 => ?_⟩
    · rw [if_neg h1] at hc
      rw [if_neg (by omega)] at hp
      exact ⟨hc, hp.symm⟩
    · rw [if_pos h1, if_neg (by simp [h3])] at hc
      rw [if_neg (by omega)] at hp
      exact ⟨hc, hp.symm⟩
    · rw [if_pos h1, if_pos h3] at hc
      rw [if_pos (by omega)] at hp
      exact ⟨hc, hp.symm⟩
  clear hc hp ha ho hs ok
  generalize ofault a o n G nm s pol = k at *
  generalize togB (lefB a s) a o n G = t at *
  go_enter Try.func20, Try.ntmps20
  go_upto_region 1 with fail
  rw [← hX, ← hY]
  have BY : Hid (Below w.heap.size w Y) := by
    have h : Below w.heap.size w Y := by rw [hY]; exact HX.out.alloc HX.out.size _
    exact h
  clear hX hY h
  have s0_Y := ks0 _ hOY
  have s1_Y := ks1 _ hOY
  have s2_Y := ks2 _ hOY
  have l0_Y := kl0 _ hOY
  have l1_Y := kl1 _ hOY
  have l2_Y := kl2 _ hOY
  go_wp2_with fail
  refine (H1.out _ BY.out).mono ?_
  rintro e w1 ⟨rfl, hb⟩
  have hOw1 := hOY.call hb
  have A1 : Hid (Below w.heap.size w w1) := box_step BY.out hb (Nat.le_refl _)
  clear hb hOY s0_Y s1_Y s2_Y l0_Y l1_Y l2_Y
  by_cases hk : k = 0
  · subst hk
    have H3' : Hid (t = true → n ≤ 40 ∧ ∀ k, k < n → ∃ P, phaseC (fwdC (cl a) (cl s) (cl (G k).i)) (cl (fi (G k).t)) (cl (fi nm)) = some P ∧ Pos P 60 ∧ floatToIntVal .f64 P .i64 = some (phN a s nm (G k))) := fun ht => H3.out rfl ht
    have H2' : Hid (∀ W, Below w.heap.size w W → Calls Try.prog 39 #[Sv a o v, Lv nm s pol] W fun e w' => e = .returned (.bool t) ∧ Below W.heap.size W w') := fun W hW => H2.out W hW rfl
    have HK1 : Hid ((t = false → 4 = c ∧ p = P0) ∧ (t = true → 0 = c ∧ p = chainP (fun k => plateF a s nm pol (G k)) n)) := ⟨HR.out.2.1 rfl, HR.out.2.2 rfl⟩
    clear HR H1 H2 H3
    have s0_w1 := ks0 _ hOw1
    have s1_w1 := ks1 _ hOw1
    have s2_w1 := ks2 _ hOw1
    have l0_w1 := kl0 _ hOw1
    have l1_w1 := kl1 _ hOw1
    have l2_w1 := kl2 _ hOw1
    go_wp2_with fail
    refine (H2'.out _ A1.out).mono ?_
    rintro e w2 ⟨rfl, hb⟩
    have hOw2 := hOw1.call hb
    have A2 : Hid (Below w.heap.size w w2) := box_step A1.out hb (Nat.le_refl _)
    clear hb hOw1 s0_w1 s1_w1 s2_w1 l0_w1 l1_w1 l2_w1 A1
    cases t
    · obtain ⟨rfl, rfl⟩ := HK1.out.1 rfl
      have x0 := g0 _ hOw2
      have x1 := g1 _ hOw2
      have x2 := g2 _ hOw2
      have x3 := g3 _ hOw2
      have x4 := g4 _ hOw2
      have x5 := g5 _ hOw2
      have x6 := g6 _ hOw2
      have x7 := g7 _ hOw2
      have x8 := g8 _ hOw2
      have xf : ∀ j, w2.frozen? ⟨w.heap.size + 1 + 1, j, none⟩ = false := fun j => gf _ j hOw2
      clear ks0 ks1 ks2 kl0 kl1 kl2 g0 g1 g2 g3 g4 g5 g6 g7 g8 gf
      go_wp2
      refine bodyPost_ret (v := Rv9 4 0 0 0 0 0 0 0 0) (by simp [results, Try.results20, go_sem, x0, x1, x2, x3, x4, x5, x6, x7, x8] ) rfl ⟨_, _, _, _, _, _, _, _, rfl, pc_zero, ?_⟩
      exact HX.out.trans ((Own.below (Own.set (Own.set (Own.set (Own.set (Own.set (Own.set (Own.set (Own.set (Own.set hOw2 _ _) _ _) _ _) _ _) _ _) _ _) _ _) _ _) _ _)).mono (by omega))
    · obtain ⟨rfl, hpp⟩ := HK1.out.2 rfl
      have HPP : Hid (p = chainP (fun k => plateF a s nm pol (G k)) n) := hpp
      have H4 := H3'.out rfl
      have H4' : Hid (n ≤ 40 ∧ ∀ k, k < n → ∃ P, phaseC (fwdC (cl a) (cl s) (cl (G k).i)) (cl (fi (G k).t)) (cl (fi nm)) = some P ∧ Pos P 60 ∧ floatToIntVal .f64 P .i64 = some (phN a s nm (G k))) := H4
      have hn40 : (n : Int) ≤ 40 := by have := H4.1; omega
      clear hpp H4 H3' HK1 H2'
      obtain ⟨ao, cap, rfl⟩ := HR0.out.form
      have HR1 : Hid (RdV X (.slice ao n cap) n 3 (fun i j => fcell (G i) j) ∧ ∀ b off cap', Value.slice ao n cap = .slice (some ⟨b, off, none⟩) n cap' → n ≠ 0 → b < w.heap.size) := by
        refine ⟨HR0.out.later HX.out, fun b off cap' e h0 => ?_⟩
        rcases HR0.out with ⟨_, _, _, e0⟩ | ⟨b', off', cap'', e0, hcl⟩
        · exact absurd e0 h0
        · rw [e] at e0
          simp only [Value.slice.injEq, Option.some.injEq, Addr.mk.injEq] at e0
          obtain ⟨⟨rfl, _, _⟩, _, _⟩ := e0
          exact World.block_lt_of_cell? _ _ (hcl 0 (by omega) 0 (by omega))
      go_wp2_with fail
      go_loopw [6, 7] (fun v i wr => ∃ (k : Nat) (f : Nat → Nat → Nat), k ≤ n ∧ i = .int .i64 k ∧ Hid (v ≠ .slice none 0 0 ∧ wr.ownsRow w2.heap.size 43 8 v k (rowP f k) ∧ (∀ i, i < k → Pc (f i 0) (f i 1) (f i 2) (f i 3) (f i 4) (f i 5) (f i 6) (f i 7) (plateF a s nm pol (G i))) ∧ Own (w.heap.size + 1 + 1) X (w.heap.size + 1 + 1) 9 45 wr ∧ w2.heap.size ≤ wr.heap.size)) (fun _ i _ => n - (intOf i).toNat)
      case atStart =>
        refine ⟨0, fun _ _ => 0, Nat.zero_le _, rfl, ?_⟩
        exact ⟨by simp, owns_empty w2 43 8, fun i hi => by omega, hOw2.alloc _, by simp⟩
      case round =>
        obtain ⟨k, f, hk, rfl, HT⟩ := hrel
        have hOr := HT.out.2.2.2.1
        have hlt2 := hOw2.lt
        have s0 := ks0 _ hOr
        have s1 := ks1 _ hOr
        have s2 := ks2 _ hOr
        have l0 := kl0 _ hOr
        have l1 := kl1 _ hOr
        have l2 := kl2 _ hOr
        by_cases hkn : k < n
        · obtain ⟨P, hP, hp, hN⟩ := H4'.out.2 k hkn
          rcases HR1.out.1 with ⟨_, _, _, e0⟩ | ⟨b, off, cap', e0, hcl⟩
          · omega
          have hblt := HR1.out.2 b off cap' e0 (by omega)
          simp only [Value.slice.injEq] at e0
          obtain ⟨rfl, _, rfl⟩ := e0
          have c0 : wr.cell? ⟨b, off + k * 3, none⟩ = some (.float .f64 (G k).i) := hOr.old (by show b < _; omega) (hcl k hkn 0 (by omega))
          have c1 : wr.cell? ⟨b, off + k * 3 + 1, none⟩ = some (.float .f64 (G k).k) := hOr.old (by show b < _; omega) (hcl k hkn 1 (by omega))
          have c2 : wr.cell? ⟨b, off + k * 3 + 2, none⟩ = some (.int .i64 (G k).t) := hOr.old (by show b < _; omega) (hcl k hkn 2 (by omega))
          obtain ⟨L, hL⟩ : ∃ L, L = u6 := ⟨_, rfl⟩
          have HT' : Hid (u6 ≠ .slice none 0 0 ∧ wr.ownsRow w2.heap.size 43 8 u6 k (rowP f k) ∧ (∀ i, i < k → Pc (f i 0) (f i 1) (f i 2) (f i 3) (f i 4) (f i 5) (f i 6) (f i 7) (plateF a s nm pol (G i))) ∧ Own (w.heap.size + 1 + 1) X (w.heap.size + 1 + 1) 9 45 wr ∧ w2.heap.size ≤ wr.heap.size) := HT.out
          have ne : ∀ q, q < w2.heap.size → some q ≠ u6.ownBlock := fun q hq e => by have := (HT'.out.2.1.lt q e.symm).1; omega
          have rs0 : ∀ W, wr.grownBy W u6.ownBlock → W.cell? ⟨w.heap.size, 0, none⟩ = some (.float .f64 a) := fun W h => h.cell s0 (ne _ (by show w.heap.size < _; omega))
          have rs1 : ∀ W, wr.grownBy W u6.ownBlock → W.cell? ⟨w.heap.size, 1, none⟩ = some (.float .f64 o) := fun W h => h.cell s1 (ne _ (by show w.heap.size < _; omega))
          have rs2 : ∀ W, wr.grownBy W u6.ownBlock → W.cell? ⟨w.heap.size, 2, none⟩ = some (.slice (some ⟨b, off, none⟩) n cap) := fun W h => h.cell s2 (ne _ (by show w.heap.size < _; omega))
          have rl0 : ∀ W, wr.grownBy W u6.ownBlock → W.cell? ⟨w.heap.size + 1, 0, none⟩ = some (.int .i64 nm) := fun W h => h.cell l0 (ne _ (by show w.heap.size + 1 < _; omega))
          have rl1 : ∀ W, wr.grownBy W u6.ownBlock → W.cell? ⟨w.heap.size + 1, 1, none⟩ = some (.float .f64 s) := fun W h => h.cell l1 (ne _ (by show w.heap.size + 1 < _; omega))
          have rl2 : ∀ W, wr.grownBy W u6.ownBlock → W.cell? ⟨w.heap.size + 1, 2, none⟩ = some (.int .i64 pol) := fun W h => h.cell l2 (ne _ (by show w.heap.size + 1 < _; omega))
          have rc0 : ∀ W, wr.grownBy W u6.ownBlock → W.cell? ⟨b, off + k * 3, none⟩ = some (.float .f64 (G k).i) := fun W h => h.cell c0 (ne _ (by show b < _; omega))
          have rc1 : ∀ W, wr.grownBy W u6.ownBlock → W.cell? ⟨b, off + k * 3 + 1, none⟩ = some (.float .f64 (G k).k) := fun W h => h.cell c1 (ne _ (by show b < _; omega))
          have rc2 : ∀ W, wr.grownBy W u6.ownBlock → W.cell? ⟨b, off + k * 3 + 2, none⟩ = some (.int .i64 (G k).t) := fun W h => h.cell c2 (ne _ (by show b < _; omega))
          have HH : Hid (phaseC (fwdC (cl a) (cl s) (cl (G k).i)) (cl (fi (G k).t)) (cl (fi nm)) = some P ∧ Pos P 60 ∧ floatToIntVal .f64 P .i64 = some (phN a s nm (G k)) ∧ a < 18446744073709551616 ∧ s < 18446744073709551616 ∧ FiOk (G k)) := ⟨hP, hp, hN, HW.out.1, HW.out.2.1, HW.out.2.2 k hkn⟩
          have hR0 : wr.grownBy wr u6.ownBlock := grown_refl _ _
          have hkI : (k : Int) < n := by omega
          have HOB : Hid (∀ q, u6.ownBlock = some q → w2.heap.size ≤ q) := fun q hq => (HT'.out.2.1.lt q hq).1
          clear HT hP hp hN hcl hblt ks0 ks1 ks2 kl0 kl1 kl2 g0 g1 g2 g3 g4 g5 g6 g7 g8 gf s0 s1 l0 l1 l2 c0 c1 c2 ne hL
          go_wp2_with fail
          go_region_held_law (fun W => wr.grownBy W u6.ownBlock) (first | with_reducible assumption | with_reducible exact grown_drew ‹_› | with_reducible exact grown_alloc ‹_› _ | with_reducible exact grown_alloc (grown_drew ‹_›) _)
            (first | (go_simp; go_at_call 40; refine (sPlate_any HH.out.2.2.2.1 HH.out.2.2.2.2.1 HH.out.2.2.2.2.2 o _ nm pol HH.out.1 HH.out.2.2.1 _).mono ?_; rintro e w4 ⟨p0, p1, p2, p3, p4, p5, p6, p7, rfl, hpc, hb⟩; have hR4 := grown_call (by first | with_reducible assumption | with_reducible exact grown_drew ‹_›) hb; have hb4 : Below wr.heap.size wr w4 := (by first | exact hb | exact ((Below.refl _ _).drew).trans hb)) | (refine step_pushP rfl (.tmp 28) (.tmp 37) rfl w4 p0 p1 p2 p3 p4 p5 p6 p7 rfl w2.heap.size u6 k (rowP f k) (by simp [Act.eval]) (owns_later HT'.out.2.1 hb4) 1 (by simp [Act.eval]) (by omega) (Nat.le_trans HT'.out.2.2.2.2 hb4.size) ?_; intro v5 w5 hown5 hgrow5 hnn5; have hR5 := grown_trans (grown_alloc hR4 _) hgrow5))
          all_goals
            have HN : Hid (v5 ≠ .slice none 0 0 ∧ w5.ownsRow w2.heap.size 43 8 v5 (k + 1) (rowP (addP f k p0 p1 p2 p3 p4 p5 p6 p7) (k + 1)) ∧ (∀ i, i < k + 1 → Pc (addP f k p0 p1 p2 p3 p4 p5 p6 p7 i 0) (addP f k p0 p1 p2 p3 p4 p5 p6 p7 i 1) (addP f k p0 p1 p2 p3 p4 p5 p6 p7 i 2) (addP f k p0 p1 p2 p3 p4 p5 p6 p7 i 3) (addP f k p0 p1 p2 p3 p4 p5 p6 p7 i 4) (addP f k p0 p1 p2 p3 p4 p5 p6 p7 i 5) (addP f k p0 p1 p2 p3 p4 p5 p6 p7 i 6) (addP f k p0 p1 p2 p3 p4 p5 p6 p7 i 7) (plateF a s nm pol (G i))) ∧ Own (w.heap.size + 1 + 1) X (w.heap.size + 1 + 1) 9 45 w5 ∧ w2.heap.size ≤ w5.heap.size) := by
              refine ⟨hnn5, ?_, pc_add HT'.out.2.2.1 (show Pc p0 p1 p2 p3 p4 p5 p6 p7 (plateF a s nm pol (G k)) from hpc), own_grown HT'.out.2.2.2.1 hR5 (base := w2.heap.size) (by omega) HOB.out, Nat.le_trans HT'.out.2.2.2.2 hR5.size⟩
              rw [← rowP_add]
              exact hown5
            clear hown5 hgrow5 hnn5 hR5 hR4 hb4 hpc HT' hOr rs0 rs1 rs2 rl0 rl1 rl2 rc0 rc1 rc2 hR0
            go_wp2
            go_roundw
            case rel => exact ⟨k + 1, _, by omega, by simp, HN⟩
            case measure => simp [intOf]; omega
        · obtain rfl : k = n := by omega
          obtain ⟨g, cp, rfl, sg⟩ := owned_segM HT.out.2.1 HT.out.1
          have HG : Hid (SegM wr g 43 k 8 f ∧ ∀ i, i < k → Pc (f i 0) (f i 1) (f i 2) (f i 3) (f i 4) (f i 5) (f i 6) (f i 7) (plateF a s nm pol (G i))) := ⟨sg, HT.out.2.2.1⟩
          clear sg HT
          go_wp2_with fail
          refine (sChainP (Q := fun i => plateF a s nm pol (G i)) (by omega) HG.out.1 HG.out.2).mono ?_
          rintro e w6 ⟨p0, p1, p2, p3, p4, p5, p6, p7, rfl, hpc, hb⟩
          have hOw6 := hOr.call hb
          clear hb hOr s0 s1 s2 l0 l1 l2
          have x0 := g0 _ hOw6
          have x1 := g1 _ hOw6
          have x2 := g2 _ hOw6
          have x3 := g3 _ hOw6
          have x4 := g4 _ hOw6
          have x5 := g5 _ hOw6
          have x6 := g6 _ hOw6
          have x7 := g7 _ hOw6
          have x8 := g8 _ hOw6
          have xf : ∀ j, w6.frozen? ⟨w.heap.size + 1 + 1, j, none⟩ = false := fun j => gf _ j hOw6
          clear ks0 ks1 ks2 kl0 kl1 kl2 g0 g1 g2 g3 g4 g5 g6 g7 g8 gf
          go_wp2
          refine bodyPost_ret (v := Rv9 0 p0 p1 p2 p3 p4 p5 p6 p7) (by simp [results, Try.results20, go_sem, x0, x1, x2, x3, x4, x5, x6, x7, x8] ) rfl ⟨_, _, _, _, _, _, _, _, rfl, (by rw [HPP.out]; exact hpc), ?_⟩
          exact HX.out.trans ((Own.below (Own.set (Own.set (Own.set (Own.set (Own.set (Own.set (Own.set (Own.set (Own.set hOw6 _ _) _ _) _ _) _ _) _ _) _ _) _ _) _ _) _ _)).mono (by omega))
  · have hk' : (k != 0) = true := by simpa using hk
    obtain ⟨rfl, rfl⟩ := HR.out.1 hk
    have x0 := g0 _ hOw1
    have x1 := g1 _ hOw1
    have x2 := g2 _ hOw1
    have x3 := g3 _ hOw1
    have x4 := g4 _ hOw1
    have x5 := g5 _ hOw1
    have x6 := g6 _ hOw1
    have x7 := g7 _ hOw1
    have x8 := g8 _ hOw1
    have xf : ∀ j, w1.frozen? ⟨w.heap.size + 1 + 1, j, none⟩ = false := fun j => gf _ j hOw1
    clear ks0 ks1 ks2 kl0 kl1 kl2 g0 g1 g2 g3 g4 g5 g6 g7 g8 gf
    go_wp2
    refine bodyPost_ret (v := Rv9 k 0 0 0 0 0 0 0 0) (by simp [results, Try.results20, go_sem, x0, x1, x2, x3, x4, x5, x6, x7, x8] ) rfl ⟨_, _, _, _, _, _, _, _, rfl, pc_zero, ?_⟩
    exact HX.out.trans ((Own.below (Own.set (Own.set (Own.set (Own.set (Own.set (Own.set (Own.set (Own.set (Own.set hOw1 _ _) _ _) _ _) _ _) _ _) _ _) _ _) _ _) _ _)).mono (by omega))
end Go.Proofs.Ytnpcldgacdgplaa
