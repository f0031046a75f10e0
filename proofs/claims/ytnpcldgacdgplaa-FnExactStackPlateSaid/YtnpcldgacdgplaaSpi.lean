/- A stack's plate, as the program makes it. -/
import Derived.Test.YtnpcldgacdgplaaSps
import Derived.Deep.DeepCutAuto
namespace Go.Proofs.Ytnpcldgacdgplaa
open Go.RowKit Fl
set_option linter.unusedVariables false
set_option linter.unusedSimpArgs false
theorem make75 (n : Nat) (hn : n ≤ 1000000) (w : World) : (Instr.makeSlice 75 (.int .i64 0) (.int .i64 (n : Int))).run Try.prog w = .ok (.slice (some ⟨w.heap.size, 0, none⟩) 0 n) (w.alloc (.cells (madeCells #[.float .f64 0, .float .f64 0, .float .f64 0, .float .f64 0, .float .f64 0, .float .f64 0, .float .f64 0, .float .f64 0] (n * 8)) 43)) := by
  obtain ⟨i, hi, hzz⟩ := Option.map_eq_some_iff.1 info54
  simp only [Prod.mk.injEq] at hzz
  obtain ⟨hz, hs, hb⟩ := hzz
  have hr := run_make (P := Try.prog) w 75 43 i _ Try.underlying75 hi hz .i64 .i64 0 n (by omega) (by omega) (by rw [hb]; omega) (by omega)
  rw [hs] at hr
  simpa [Value.cells] using hr
theorem owns_made (n : Nat) (hn : n ≤ 1000000) (w : World) : (w.alloc (.cells (madeCells #[.float .f64 0, .float .f64 0, .float .f64 0, .float .f64 0, .float .f64 0, .float .f64 0, .float .f64 0, .float .f64 0] (n * 8)) 43)).ownsRow w.heap.size 43 8 (.slice (some ⟨w.heap.size, 0, none⟩) 0 n) 0 [] :=
  ⟨by simp, Or.inr ⟨w.heap.size, n, madeCells #[.float .f64 0, .float .f64 0, .float .f64 0, .float .f64 0, .float .f64 0, .float .f64 0, .float .f64 0, .float .f64 0] (n * 8), rfl, Nat.le_refl _, by show (w.heap.push _)[w.heap.size]? = _; simp, Nat.zero_le _, by unfold maxLen; omega, by simp [madeCells], by simp⟩⟩
theorem med_grown {Z W : World} {b k : Nat} {c : Option Nat} {pol : Int} {ob : Option Nat} (h : Med Z b k c pol) (g : Z.grownBy W ob) (hb : some b ≠ ob) (hk : some k ≠ ob) : Med W b k c pol := by
  obtain ⟨⟨x, hx, hc⟩, po⟩ := h
  exact ⟨⟨x, g.cell hx hb, hc⟩, g.cell po hk⟩
set_option maxHeartbeats 6400000 in
theorem iStackQ_any {a o s : Nat} {v : Value} {n : Nat} {G : Nat → Fi} {w : World} (ha : a < 18446744073709551616) (hs : s < 18446744073709551616) (h : RdV w v n 3 (fun i j => fcell (G i) j)) (ok : ∀ k, k < n → FiOk (G k)) (nm pol : Int) (hn : n ≤ 40)
    (H3 : ∀ k, k < n → ∃ P, phaseC (fwdC (cl a) (cl s) (cl (G k).i)) (cl (fi (G k).t)) (cl (fi nm)) = some P ∧ Pos P 60 ∧ floatToIntVal .f64 P .i64 = some (phN a s nm (G k))) :
    PV 48 #[Sv a o v, Lv nm s pol] w (chainP (fun k => plateF a s nm pol (G k)) n) := by
  unfold PV
  have hst := st64
  have hmk := make75 n (by omega)
  obtain ⟨p, hpp⟩ : ∃ p, p = chainP (fun k => plateF a s nm pol (G k)) n := ⟨_, rfl⟩
  rw [← hpp]
  have HPP : Hid (p = chainP (fun k => plateF a s nm pol (G k)) n) := hpp
  obtain ⟨X, hX⟩ : ∃ X, X = (w.alloc (.cells #[.float .f64 a, .float .f64 o, v] 30)).alloc (.cells #[.int .i64 nm, .float .f64 s, .int .i64 pol] 37) := ⟨_, rfl⟩
  obtain ⟨Y, hY⟩ : ∃ Y, Y = X.alloc (.cells #[.float .f64 0, .float .f64 0, .float .f64 0, .float .f64 0, .float .f64 0, .float .f64 0, .float .f64 0, .float .f64 0] 43) := ⟨_, rfl⟩
  have hOY : Own (w.heap.size + 1 + 1) X (w.heap.size + 1 + 1) 8 43 Y := by
    have := own_made (X := X) (B := w.heap.size + 1 + 1) (t := 43) #[.float .f64 0, .float .f64 0, .float .f64 0, .float .f64 0, .float .f64 0, .float .f64 0, .float .f64 0, .float .f64 0] (by rw [hX]; simp)
    rw [hY]
    rw [show X.heap.size = w.heap.size + 1 + 1 by rw [hX]; simp] at this
    exact this
  have HX : Hid (Below w.heap.size w X) := by
    have h : Below w.heap.size w X := by rw [hX]; exact ((Below.refl _ _).alloc (Nat.le_refl _) _).alloc (by simp <;> omega) _
    exact h
  have ks0 : ∀ W, Own (w.heap.size + 1 + 1) X (w.heap.size + 1 + 1) 8 43 W → W.cell? ⟨w.heap.size, 0, none⟩ = some (.float .f64 a) := fun _ h => h.old (by simp <;> omega) (by rw [hX]; exact cell_alloc_old (cell_alloc_new rfl rfl))
  have ks1 : ∀ W, Own (w.heap.size + 1 + 1) X (w.heap.size + 1 + 1) 8 43 W → W.cell? ⟨w.heap.size, 1, none⟩ = some (.float .f64 o) := fun _ h => h.old (by simp <;> omega) (by rw [hX]; exact cell_alloc_old (cell_alloc_new rfl rfl))
  have ks2 : ∀ W, Own (w.heap.size + 1 + 1) X (w.heap.size + 1 + 1) 8 43 W → W.cell? ⟨w.heap.size, 2, none⟩ = some (v) := fun _ h => h.old (by simp <;> omega) (by rw [hX]; exact cell_alloc_old (cell_alloc_new rfl rfl))
  have kl0 : ∀ W, Own (w.heap.size + 1 + 1) X (w.heap.size + 1 + 1) 8 43 W → W.cell? ⟨w.heap.size + 1, 0, none⟩ = some (.int .i64 nm) := fun _ h => h.old (by simp <;> omega) (by rw [hX]; exact cell_alloc_new (by simp) rfl)
  have kl1 : ∀ W, Own (w.heap.size + 1 + 1) X (w.heap.size + 1 + 1) 8 43 W → W.cell? ⟨w.heap.size + 1, 1, none⟩ = some (.float .f64 s) := fun _ h => h.old (by simp <;> omega) (by rw [hX]; exact cell_alloc_new (by simp) rfl)
  have kl2 : ∀ W, Own (w.heap.size + 1 + 1) X (w.heap.size + 1 + 1) 8 43 W → W.cell? ⟨w.heap.size + 1, 2, none⟩ = some (.int .i64 pol) := fun _ h => h.old (by simp <;> omega) (by rw [hX]; exact cell_alloc_new (by simp) rfl)
  have g0 : ∀ W, Own (w.heap.size + 1 + 1) X (w.heap.size + 1 + 1) 8 43 W → W.cell? ⟨w.heap.size + 1 + 1, 0, none⟩ = some (got W (w.heap.size + 1 + 1) 0) := fun _ h => h.cell (by omega)
  have g1 : ∀ W, Own (w.heap.size + 1 + 1) X (w.heap.size + 1 + 1) 8 43 W → W.cell? ⟨w.heap.size + 1 + 1, 1, none⟩ = some (got W (w.heap.size + 1 + 1) 1) := fun _ h => h.cell (by omega)
  have g2 : ∀ W, Own (w.heap.size + 1 + 1) X (w.heap.size + 1 + 1) 8 43 W → W.cell? ⟨w.heap.size + 1 + 1, 2, none⟩ = some (got W (w.heap.size + 1 + 1) 2) := fun _ h => h.cell (by omega)
  have g3 : ∀ W, Own (w.heap.size + 1 + 1) X (w.heap.size + 1 + 1) 8 43 W → W.cell? ⟨w.heap.size + 1 + 1, 3, none⟩ = some (got W (w.heap.size + 1 + 1) 3) := fun _ h => h.cell (by omega)
  have g4 : ∀ W, Own (w.heap.size + 1 + 1) X (w.heap.size + 1 + 1) 8 43 W → W.cell? ⟨w.heap.size + 1 + 1, 4, none⟩ = some (got W (w.heap.size + 1 + 1) 4) := fun _ h => h.cell (by omega)
  have g5 : ∀ W, Own (w.heap.size + 1 + 1) X (w.heap.size + 1 + 1) 8 43 W → W.cell? ⟨w.heap.size + 1 + 1, 5, none⟩ = some (got W (w.heap.size + 1 + 1) 5) := fun _ h => h.cell (by omega)
  have g6 : ∀ W, Own (w.heap.size + 1 + 1) X (w.heap.size + 1 + 1) 8 43 W → W.cell? ⟨w.heap.size + 1 + 1, 6, none⟩ = some (got W (w.heap.size + 1 + 1) 6) := fun _ h => h.cell (by omega)
  have g7 : ∀ W, Own (w.heap.size + 1 + 1) X (w.heap.size + 1 + 1) 8 43 W → W.cell? ⟨w.heap.size + 1 + 1, 7, none⟩ = some (got W (w.heap.size + 1 + 1) 7) := fun _ h => h.cell (by omega)
  have gf : ∀ W j, Own (w.heap.size + 1 + 1) X (w.heap.size + 1 + 1) 8 43 W → W.frozen? ⟨w.heap.size + 1 + 1, j, none⟩ = false := fun _ j h => h.frozen j
  have HA : Hid (Below w.heap.size w X ∧ (∀ k, k < n → FiOk (G k)) ∧ n ≤ 40 ∧ (∀ k, k < n → ∃ P, phaseC (fwdC (cl a) (cl s) (cl (G k).i)) (cl (fi (G k).t)) (cl (fi nm)) = some P ∧ Pos P 60 ∧ floatToIntVal .f64 P .i64 = some (phN a s nm (G k)))) := ⟨HX.out, ok, hn, H3⟩
  have HR0 : Hid (RdV w v n 3 (fun i j => fcell (G i) j)) := h
  have H0 : Hid (∀ w, Calls Try.prog 44 #[Sv a o v, Lv nm s pol] w fun e w' => ∃ b k, e = .returned (Cl b k) ∧ Med w' b k (sideC (cl a) (cl s)) pol ∧ Below w.heap.size w w') := media_any (fc_own ha) (fc_own hs) o v nm pol
  clear hpp ha hs ok H3 h
  obtain ⟨ao, cap, rfl⟩ := HR0.out.form
  have HR1 : Hid (RdV X (.slice ao n cap) n 3 (fun i j => fcell (G i) j) ∧ ∀ b off cap', Value.slice ao n cap = .slice (some ⟨b, off, none⟩) n cap' → n ≠ 0 → b < w.heap.size) := by
    refine ⟨HR0.out.later HX.out, fun b off cap' e h0 => ?_⟩
    rcases HR0.out with ⟨_, _, _, e0⟩ | ⟨b', off', cap'', e0, hcl⟩
    · exact absurd e0 h0
    · rw [e] at e0
      simp only [Value.slice.injEq, Option.some.injEq, Addr.mk.injEq] at e0
      obtain ⟨⟨rfl, _, _⟩, _, _⟩ := e0
      exact World.block_lt_of_cell? _ _ (hcl 0 (by omega) 0 (by omega))
  go_enter Try.func48, Try.ntmps48
  go_upto_region 1 with fail
  rw [← hX, ← hY]
  clear hX hY
  have s0_Y := ks0 _ hOY
  have s1_Y := ks1 _ hOY
  have s2_Y := ks2 _ hOY
  have l0_Y := kl0 _ hOY
  have l1_Y := kl1 _ hOY
  have l2_Y := kl2 _ hOY
  go_wp2_with fail
  refine (H0.out _).mono ?_
  rintro e w1 ⟨B, K, rfl, hM, hb⟩
  have hOw1 := hOY.call hb
  have HM : Hid (Med w1 B K (sideC (cl a) (cl s)) pol ∧ B < w1.heap.size ∧ K < w1.heap.size) := ⟨hM, by obtain ⟨x, hx, _⟩ := hM.sq; exact World.block_lt_of_cell? _ _ hx, World.block_lt_of_cell? _ _ hM.po⟩
  clear hb hOY hM H0 s0_Y s1_Y s2_Y l0_Y l1_Y l2_Y
  have s0_w := ks0 _ hOw1
  have s1_w := ks1 _ hOw1
  have s2_w := ks2 _ hOw1
  have s2a : ∀ ob, (w1.alloc ob).cell? ⟨w.heap.size, 2, none⟩ = some (.slice ao n cap) := fun ob => cell_alloc_old s2_w
  have hn40 : (n : Int) ≤ 40 := by omega
  go_wp2_with fail
  clear s0_w s1_w s2_w s2a hmk
  go_loopw [6, 8, 19] (fun v _ i wr => ∃ (k : Nat) (f : Nat → Nat → Nat), k ≤ n ∧ i = .int .i64 k ∧ Hid (v ≠ .slice none 0 0 ∧ wr.ownsRow w1.heap.size 43 8 v k (rowP f k) ∧ (∀ i, i < k → Pc (f i 0) (f i 1) (f i 2) (f i 3) (f i 4) (f i 5) (f i 6) (f i 7) (plateF a s nm pol (G i))) ∧ Own (w.heap.size + 1 + 1) X (w.heap.size + 1 + 1) 8 43 wr ∧ w1.heap.size ≤ wr.heap.size ∧ Med wr B K (sideC (cl a) (cl s)) pol)) (fun _ _ i _ => n - (intOf i).toNat)
  case atStart =>
    refine ⟨0, fun _ _ => 0, Nat.zero_le _, rfl, ?_⟩
    exact ⟨by simp, owns_made n (by omega) w1, fun i hi => by omega, hOw1.alloc _, by simp, HM.out.1.later ((Below.refl _ _).alloc (Nat.le_refl _) _)⟩
  case round =>
    obtain ⟨k, f, hk, rfl, HT⟩ := hrel
    have hOr := HT.out.2.2.2.1
    have hlt2 := hOw1.lt
    by_cases hkn : k < n
    · obtain ⟨P, hP, hp, hN⟩ := HA.out.2.2.2 k hkn
      rcases HR1.out.1 with ⟨_, _, _, e0⟩ | ⟨b, off, cap', e0, hcl⟩
      · omega
      have hblt := HR1.out.2 b off cap' e0 (by omega)
      simp only [Value.slice.injEq] at e0
      obtain ⟨rfl, _, rfl⟩ := e0
      have c0 : wr.cell? ⟨b, off + k * 3, none⟩ = some (.float .f64 (G k).i) := hOr.old (by show b < _; omega) (hcl k hkn 0 (by omega))
      have c1 : wr.cell? ⟨b, off + k * 3 + 1, none⟩ = some (.float .f64 (G k).k) := hOr.old (by show b < _; omega) (hcl k hkn 1 (by omega))
      have c2 : wr.cell? ⟨b, off + k * 3 + 2, none⟩ = some (.int .i64 (G k).t) := hOr.old (by show b < _; omega) (hcl k hkn 2 (by omega))
      have l0 := kl0 _ hOr
      obtain ⟨Z, hZ⟩ : ∃ Z, Z = wr.alloc (.cells #[.float .f64 (G k).i, .float .f64 (G k).k, .int .i64 (G k).t] 60) := ⟨_, rfl⟩
      have gZ : Below wr.heap.size wr Z := by rw [hZ]; exact (Below.refl _ _).alloc (Nat.le_refl _) _
      have HT' : Hid (u6 ≠ .slice none 0 0 ∧ Z.ownsRow w1.heap.size 43 8 u6 k (rowP f k) ∧ (∀ i, i < k → Pc (f i 0) (f i 1) (f i 2) (f i 3) (f i 4) (f i 5) (f i 6) (f i 7) (plateF a s nm pol (G i))) ∧ Own (w.heap.size + 1 + 1) X (w.heap.size + 1 + 1) 8 43 Z ∧ w1.heap.size ≤ Z.heap.size ∧ Med Z B K (sideC (cl a) (cl s)) pol) :=
        ⟨HT.out.1, owns_later HT.out.2.1 gZ, HT.out.2.2.1, hOr.call gZ, Nat.le_trans HT.out.2.2.2.2.1 gZ.size, HT.out.2.2.2.2.2.later gZ⟩
      have neq : ∀ q, q < w1.heap.size → some q ≠ u6.ownBlock := fun q hq e => by have := (HT'.out.2.1.lt q e.symm).1; omega
      have nef : some wr.heap.size ≠ u6.ownBlock := fun e => by have := (HT.out.2.1.lt _ e.symm).2; omega
      have z0 : Z.cell? ⟨wr.heap.size, 0, none⟩ = some (.float .f64 (G k).i) := by rw [hZ]; exact cell_alloc_new rfl rfl
      have z1 : Z.cell? ⟨wr.heap.size, 1, none⟩ = some (.float .f64 (G k).k) := by rw [hZ]; exact cell_alloc_new rfl rfl
      have z2 : Z.cell? ⟨wr.heap.size, 2, none⟩ = some (.int .i64 (G k).t) := by rw [hZ]; exact cell_alloc_new rfl rfl
      have zl : Z.cell? ⟨w.heap.size + 1, 0, none⟩ = some (.int .i64 nm) := by rw [hZ]; exact cell_alloc_old l0
      have r0 : ∀ W, Z.grownBy W u6.ownBlock → W.cell? ⟨wr.heap.size, 0, none⟩ = some (.float .f64 (G k).i) := fun W h => h.cell z0 nef
      have r1 : ∀ W, Z.grownBy W u6.ownBlock → W.cell? ⟨wr.heap.size, 1, none⟩ = some (.float .f64 (G k).k) := fun W h => h.cell z1 nef
      have r2 : ∀ W, Z.grownBy W u6.ownBlock → W.cell? ⟨wr.heap.size, 2, none⟩ = some (.int .i64 (G k).t) := fun W h => h.cell z2 nef
      have rl : ∀ W, Z.grownBy W u6.ownBlock → W.cell? ⟨w.heap.size + 1, 0, none⟩ = some (.int .i64 nm) := fun W h => h.cell zl (neq _ (by show w.heap.size + 1 < _; omega))
      have HMG : Hid (∀ W, Z.grownBy W u6.ownBlock → Med W B K (sideC (cl a) (cl s)) pol) := fun W h => med_grown HT'.out.2.2.2.2.2 h (neq _ HM.out.2.1) (neq _ HM.out.2.2)
      have HH : Hid (phaseC (fwdC (cl a) (cl s) (cl (G k).i)) (cl (fi (G k).t)) (cl (fi nm)) = some P ∧ Pos P 60 ∧ floatToIntVal .f64 P .i64 = some (phN a s nm (G k)) ∧ FiOk (G k)) := ⟨hP, hp, hN, HA.out.2.1 k hkn⟩
      have hR0 : Z.grownBy Z u6.ownBlock := grown_refl _ _
      have hkI : (k : Int) < n := by omega
      have HOB : Hid (∀ q, u6.ownBlock = some q → w1.heap.size ≤ q) := fun q hq => (HT'.out.2.1.lt q hq).1
      clear HT hP hp hN hcl hblt ks0 ks1 ks2 kl0 kl1 kl2 g0 g1 g2 g3 g4 g5 g6 g7 gf l0 z0 z1 z2 zl neq nef gZ hOr
      go_upto_region 6 with fail
      rw [← hZ]
      clear hZ c0 c1 c2
      go_region_held_law (fun W => Z.grownBy W u6.ownBlock) (first | with_reducible assumption | with_reducible exact grown_drew ‹_› | with_reducible exact grown_alloc ‹_› _ | with_reducible exact grown_alloc (grown_drew ‹_›) _)
        (first | (go_simp; go_at_call 77; refine (medium_any (fc_own HH.out.2.2.2.hi) (HMG.out _ (by first | with_reducible assumption | with_reducible exact grown_drew ‹_›))).mono ?_; rintro e w4 ⟨fq, aq, rfl, hfq, haq, hb⟩; have hR4 := grown_call (by first | with_reducible assumption | with_reducible exact grown_drew ‹_›) hb; have hb4 : Below Z.heap.size Z w4 := (by first | exact hb | exact ((Below.refl _ _).drew).trans hb)) | (go_simp; go_at_call 43; refine (iPlate_any hfq haq HH.out.2.2.2 nm HH.out.1 HH.out.2.1 HH.out.2.2.1 _).mono ?_; rintro e w5 ⟨p0, p1, p2, p3, p4, p5, p6, p7, rfl, hpc, hb5⟩; have hR5 := grown_call (by first | with_reducible exact hR4 | with_reducible exact grown_drew hR4) hb5; have hB5 : Below Z.heap.size Z w5 := (by first | exact box_step hb4 hb5 (Nat.le_refl _) | exact box_step hb4.drew hb5 (Nat.le_refl _))) | (refine step_pushP rfl (.tmp 23) (.tmp 32) rfl w5 p0 p1 p2 p3 p4 p5 p6 p7 rfl w1.heap.size u6 k (rowP f k) (by simp [Act.eval]) (owns_later HT'.out.2.1 hB5) 1 (by simp [Act.eval]) (by omega) (Nat.le_trans HT'.out.2.2.2.2.1 hB5.size) ?_; intro v6 w6 hown6 hgrow6 hnn6; have hR6 := grown_trans (grown_alloc hR5 _) hgrow6))
      all_goals
        have HN : Hid (v6 ≠ .slice none 0 0 ∧ w6.ownsRow w1.heap.size 43 8 v6 (k + 1) (rowP (addP f k p0 p1 p2 p3 p4 p5 p6 p7) (k + 1)) ∧ (∀ i, i < k + 1 → Pc (addP f k p0 p1 p2 p3 p4 p5 p6 p7 i 0) (addP f k p0 p1 p2 p3 p4 p5 p6 p7 i 1) (addP f k p0 p1 p2 p3 p4 p5 p6 p7 i 2) (addP f k p0 p1 p2 p3 p4 p5 p6 p7 i 3) (addP f k p0 p1 p2 p3 p4 p5 p6 p7 i 4) (addP f k p0 p1 p2 p3 p4 p5 p6 p7 i 5) (addP f k p0 p1 p2 p3 p4 p5 p6 p7 i 6) (addP f k p0 p1 p2 p3 p4 p5 p6 p7 i 7) (plateF a s nm pol (G i))) ∧ Own (w.heap.size + 1 + 1) X (w.heap.size + 1 + 1) 8 43 w6 ∧ w1.heap.size ≤ w6.heap.size ∧ Med w6 B K (sideC (cl a) (cl s)) pol) := by
          refine ⟨hnn6, ?_, pc_add HT'.out.2.2.1 (show Pc p0 p1 p2 p3 p4 p5 p6 p7 (plateF a s nm pol (G k)) from hpc), own_grown HT'.out.2.2.2.1 hR6 (base := w1.heap.size) (by omega) HOB.out, Nat.le_trans HT'.out.2.2.2.2.1 hR6.size, HMG.out _ hR6⟩
          rw [← rowP_add]
          exact hown6
        clear hown6 hgrow6 hnn6 hR6 hR5 hR4 hb4 hB5 hb5 hpc HT' r0 r1 r2 rl hR0 HMG
        go_wp2
        go_roundw
        case rel => exact ⟨k + 1, _, by omega, by simp, HN⟩
        case measure => simp [intOf]; omega
    · obtain rfl : k = n := by omega
      obtain ⟨g, cp, rfl, sg⟩ := owned_segM HT.out.2.1 HT.out.1
      have HG : Hid (SegM wr g 43 k 8 f ∧ ∀ i, i < k → Pc (f i 0) (f i 1) (f i 2) (f i 3) (f i 4) (f i 5) (f i 6) (f i 7) (plateF a s nm pol (G i))) := ⟨sg, HT.out.2.2.1⟩
      clear sg HT
      go_wp2_with fail
      refine (iChainP (Q := fun i => plateF a s nm pol (G i)) (by omega) HG.out.1 HG.out.2).mono ?_
      rintro e w6 ⟨p0, p1, p2, p3, p4, p5, p6, p7, rfl, hpc, hb⟩
      have hOw6 := hOr.call hb
      have x0 := g0 _ hOw6
      have x1 := g1 _ hOw6
      have x2 := g2 _ hOw6
      have x3 := g3 _ hOw6
      have x4 := g4 _ hOw6
      have x5 := g5 _ hOw6
      have x6 := g6 _ hOw6
      have x7 := g7 _ hOw6
      have xf : ∀ j, w6.frozen? ⟨w.heap.size + 1 + 1, j, none⟩ = false := fun j => gf _ j hOw6
      clear hb hOr ks0 ks1 ks2 kl0 kl1 kl2 g0 g1 g2 g3 g4 g5 g6 g7 gf
      go_wp2
      refine bodyPost_ret (v := Pv p0 p1 p2 p3 p4 p5 p6 p7) (by simp [results, Try.results48, go_sem, x0, x1, x2, x3, x4, x5, x6, x7]) rfl ⟨_, _, _, _, _, _, _, _, rfl, (by rw [HPP.out]; exact hpc), ?_⟩
      exact HX.out.trans ((Own.below (Own.set (Own.set (Own.set (Own.set (Own.set (Own.set (Own.set (Own.set hOw6 _ _) _ _) _ _) _ _) _ _) _ _) _ _) _ _)).mono (by omega))
set_option maxHeartbeats 6400000 in
theorem iStackP_any {a o s : Nat} {v : Value} {n : Nat} {G : Nat → Fi} {w : World} (ha : a < 18446744073709551616) (ho : o < 18446744073709551616) (hs : s < 18446744073709551616) (h : RdV w v n 3 (fun i j => fcell (G i) j)) (ok : ∀ k, k < n → FiOk (G k)) (nm pol : Int) :
    RV 21 #[Sv a o v, Lv nm s pol] w (pfault a o n G nm s pol) (spPlate a o n G nm s pol) := by
  unfold RV
  have hst := st64
  obtain ⟨X, hX⟩ : ∃ X, X = (w.alloc (.cells #[.float .f64 a, .float .f64 o, v] 30)).alloc (.cells #[.int .i64 nm, .float .f64 s, .int .i64 pol] 37) := ⟨_, rfl⟩
  obtain ⟨Y, hY⟩ : ∃ Y, Y = X.alloc (.cells #[.int .i64 0, .float .f64 0, .float .f64 0, .float .f64 0, .float .f64 0, .float .f64 0, .float .f64 0, .float .f64 0, .float .f64 0] 45) := ⟨_, rfl⟩
  have hOY : Own (w.heap.size + 1 + 1) X (w.heap.size + 1 + 1) 9 45 Y := by
    have := own_made (X := X) (B := w.heap.size + 1 + 1) (t := 45) #[.int .i64 0, .float .f64 0, .float .f64 0, .float .f64 0, .float .f64 0, .float .f64 0, .float .f64 0, .float .f64 0, .float .f64 0] (by rw [hX]; simp)
    rw [hY]
    rw [show X.heap.size = w.heap.size + 1 + 1 by rw [hX]; simp] at this
    exact this
  have HX : Hid (Below w.heap.size w X) := by
    have h : Below w.heap.size w X := by rw [hX]; exact ((Below.refl _ _).alloc (Nat.le_refl _) _).alloc (by simp <;> omega) _
    exact h
  have HR0 : Hid (RdV w v n 3 (fun i j => fcell (G i) j)) := h
  have ks0 : ∀ W, Own (w.heap.size + 1 + 1) X (w.heap.size + 1 + 1) 9 45 W → W.cell? ⟨w.heap.size, 0, none⟩ = some (.float .f64 a) := fun _ h => h.old (by simp <;> omega) (by rw [hX]; exact cell_alloc_old (cell_alloc_new rfl rfl))
  have ks1 : ∀ W, Own (w.heap.size + 1 + 1) X (w.heap.size + 1 + 1) 9 45 W → W.cell? ⟨w.heap.size, 1, none⟩ = some (.float .f64 o) := fun _ h => h.old (by simp <;> omega) (by rw [hX]; exact cell_alloc_old (cell_alloc_new rfl rfl))
  have ks2 : ∀ W, Own (w.heap.size + 1 + 1) X (w.heap.size + 1 + 1) 9 45 W → W.cell? ⟨w.heap.size, 2, none⟩ = some (v) := fun _ h => h.old (by simp <;> omega) (by rw [hX]; exact cell_alloc_old (cell_alloc_new rfl rfl))
  have kl0 : ∀ W, Own (w.heap.size + 1 + 1) X (w.heap.size + 1 + 1) 9 45 W → W.cell? ⟨w.heap.size + 1, 0, none⟩ = some (.int .i64 nm) := fun _ h => h.old (by simp <;> omega) (by rw [hX]; exact cell_alloc_new (by simp) rfl)
  have kl1 : ∀ W, Own (w.heap.size + 1 + 1) X (w.heap.size + 1 + 1) 9 45 W → W.cell? ⟨w.heap.size + 1, 1, none⟩ = some (.float .f64 s) := fun _ h => h.old (by simp <;> omega) (by rw [hX]; exact cell_alloc_new (by simp) rfl)
  have kl2 : ∀ W, Own (w.heap.size + 1 + 1) X (w.heap.size + 1 + 1) 9 45 W → W.cell? ⟨w.heap.size + 1, 2, none⟩ = some (.int .i64 pol) := fun _ h => h.old (by simp <;> omega) (by rw [hX]; exact cell_alloc_new (by simp) rfl)
  have g0 : ∀ W, Own (w.heap.size + 1 + 1) X (w.heap.size + 1 + 1) 9 45 W → W.cell? ⟨w.heap.size + 1 + 1, 0, none⟩ = some (got W (w.heap.size + 1 + 1) 0) := fun _ h => h.cell (by omega)
  have g1 : ∀ W, Own (w.heap.size + 1 + 1) X (w.heap.size + 1 + 1) 9 45 W → W.cell? ⟨w.heap.size + 1 + 1, 1, none⟩ = some (got W (w.heap.size + 1 + 1) 1) := fun _ h => h.cell (by omega)
  have g2 : ∀ W, Own (w.heap.size + 1 + 1) X (w.heap.size + 1 + 1) 9 45 W → W.cell? ⟨w.heap.size + 1 + 1, 2, none⟩ = some (got W (w.heap.size + 1 + 1) 2) := fun _ h => h.cell (by omega)
  have g3 : ∀ W, Own (w.heap.size + 1 + 1) X (w.heap.size + 1 + 1) 9 45 W → W.cell? ⟨w.heap.size + 1 + 1, 3, none⟩ = some (got W (w.heap.size + 1 + 1) 3) := fun _ h => h.cell (by omega)
  have g4 : ∀ W, Own (w.heap.size + 1 + 1) X (w.heap.size + 1 + 1) 9 45 W → W.cell? ⟨w.heap.size + 1 + 1, 4, none⟩ = some (got W (w.heap.size + 1 + 1) 4) := fun _ h => h.cell (by omega)
  have g5 : ∀ W, Own (w.heap.size + 1 + 1) X (w.heap.size + 1 + 1) 9 45 W → W.cell? ⟨w.heap.size + 1 + 1, 5, none⟩ = some (got W (w.heap.size + 1 + 1) 5) := fun _ h => h.cell (by omega)
  have g6 : ∀ W, Own (w.heap.size + 1 + 1) X (w.heap.size + 1 + 1) 9 45 W → W.cell? ⟨w.heap.size + 1 + 1, 6, none⟩ = some (got W (w.heap.size + 1 + 1) 6) := fun _ h => h.cell (by omega)
  have g7 : ∀ W, Own (w.heap.size + 1 + 1) X (w.heap.size + 1 + 1) 9 45 W → W.cell? ⟨w.heap.size + 1 + 1, 7, none⟩ = some (got W (w.heap.size + 1 + 1) 7) := fun _ h => h.cell (by omega)
  have g8 : ∀ W, Own (w.heap.size + 1 + 1) X (w.heap.size + 1 + 1) 9 45 W → W.cell? ⟨w.heap.size + 1 + 1, 8, none⟩ = some (got W (w.heap.size + 1 + 1) 8) := fun _ h => h.cell (by omega)
  have gf : ∀ W j, Own (w.heap.size + 1 + 1) X (w.heap.size + 1 + 1) 9 45 W → W.frozen? ⟨w.heap.size + 1 + 1, j, none⟩ = false := fun _ j h => h.frozen j
  have H1 : Hid (∀ W, Below w.heap.size w W → Calls Try.prog 47 #[Sv a o v, Lv nm s pol] W fun e w' => e = .returned (.int .i64 (pfault a o n G nm s pol)) ∧ Below W.heap.size W w') := fun W hW => iPass_any ha ho hs (h.later hW) ok nm pol
  have H2 : Hid (pfault a o n G nm s pol = 0 → ∀ W, Below w.heap.size w W → PV 48 #[Sv a o v, Lv nm s pol] W (spPlate a o n G nm s pol)) := fun h0 W hW => by
    unfold spPlate
    rw [if_pos h0]
    unfold pfault at h0
    by_cases q : ofault a o n G nm s pol = 0
    · rw [if_pos q] at h0
      have ht : togB (lefB a s) a o n G = true := by
        cases hq : togB (lefB a s) a o n G
        · rw [hq] at h0; simp at h0
        · rfl
      obtain ⟨q1, q2⟩ := of_zero q
      obtain ⟨m0, m1, _, m3⟩ := sf_zero q1
      refine iStackQ_any ha hs (h.later hW) ok nm pol m0 fun k hk => ?_
      unfold togB at ht
      simp only [Bool.and_eq_true] at ht
      exact ph_ok ha hs (ok k hk) m1 q2 (m3 k hk) (allB_of ht.1.1 k hk)
    · rw [if_neg q] at h0
      exact absurd h0 q
  have H3 : Hid (¬ pfault a o n G nm s pol = 0 → spPlate a o n G nm s pol = P0) := fun h0 => by unfold spPlate; rw [if_neg h0]
  clear ha ho hs ok
  generalize spPlate a o n G nm s pol = p at *
  generalize pfault a o n G nm s pol = k at *
  go_enter Try.func21, Try.ntmps21
  go_upto_region 1 with fail
  rw [← hX, ← hY]
  have BY : Hid (Below w.heap.size w Y) := by
    have h : Below w.heap.size w Y := by rw [hY]; exact HX.out.alloc HX.out.size _
    exact h
  clear hX hY h
  have s0_Y := ks0 _ hOY
  have s1_Y := ks1 _ hOY
  have s2_Y := ks2 _ hOY
  have l0_Y := kl0 _ hOY
  have l1_Y := kl1 _ hOY
  have l2_Y := kl2 _ hOY
  go_wp2_with fail
  refine (H1.out _ BY.out).mono ?_
  rintro e w1 ⟨rfl, hb⟩
  have hOw1 := hOY.call hb
  have A1 : Hid (Below w.heap.size w w1) := box_step BY.out hb (Nat.le_refl _)
  clear hb hOY s0_Y s1_Y s2_Y l0_Y l1_Y l2_Y
  by_cases hk : k = 0
  · subst hk
    have H2' : Hid (∀ W, Below w.heap.size w W → PV 48 #[Sv a o v, Lv nm s pol] W p) := H2.out rfl
    clear H1 H2 H3
    have s0_w1 := ks0 _ hOw1
    have s1_w1 := ks1 _ hOw1
    have s2_w1 := ks2 _ hOw1
    have l0_w1 := kl0 _ hOw1
    have l1_w1 := kl1 _ hOw1
    have l2_w1 := kl2 _ hOw1
    go_wp2_with fail
    refine (H2'.out _ A1.out).mono ?_
    rintro e w2 ⟨p0, p1, p2, p3, p4, p5, p6, p7, rfl, hpc, hb⟩
    have hOw2 := hOw1.call hb
    clear hb hOw1 s0_w1 s1_w1 s2_w1 l0_w1 l1_w1 l2_w1 A1
    have x0 := g0 _ hOw2
    have x1 := g1 _ hOw2
    have x2 := g2 _ hOw2
    have x3 := g3 _ hOw2
    have x4 := g4 _ hOw2
    have x5 := g5 _ hOw2
    have x6 := g6 _ hOw2
    have x7 := g7 _ hOw2
    have x8 := g8 _ hOw2
    have xf : ∀ j, w2.frozen? ⟨w.heap.size + 1 + 1, j, none⟩ = false := fun j => gf _ j hOw2
    clear ks0 ks1 ks2 kl0 kl1 kl2 g0 g1 g2 g3 g4 g5 g6 g7 g8 gf
    go_wp2
    refine bodyPost_ret (v := Rv9 0 p0 p1 p2 p3 p4 p5 p6 p7) (by simp [results, Try.results21, go_sem, x0, x1, x2, x3, x4, x5, x6, x7, x8] ) rfl ⟨_, _, _, _, _, _, _, _, rfl, hpc, ?_⟩
    exact HX.out.trans ((Own.below (Own.set (Own.set (Own.set (Own.set (Own.set (Own.set (Own.set (Own.set (Own.set hOw2 _ _) _ _) _ _) _ _) _ _) _ _) _ _) _ _) _ _)).mono (by omega))
  · have hk' : (k != 0) = true := by simpa using hk
    obtain rfl := H3.out hk
    have x0 := g0 _ hOw1
    have x1 := g1 _ hOw1
    have x2 := g2 _ hOw1
    have x3 := g3 _ hOw1
    have x4 := g4 _ hOw1
    have x5 := g5 _ hOw1
    have x6 := g6 _ hOw1
    have x7 := g7 _ hOw1
    have x8 := g8 _ hOw1
    have xf : ∀ j, w1.frozen? ⟨w.heap.size + 1 + 1, j, none⟩ = false := fun j => gf _ j hOw1
    clear ks0 ks1 ks2 kl0 kl1 kl2 g0 g1 g2 g3 g4 g5 g6 g7 g8 gf
    go_wp2
    refine bodyPost_ret (v := Rv9 k 0 0 0 0 0 0 0 0) (by simp [results, Try.results21, go_sem, x0, x1, x2, x3, x4, x5, x6, x7, x8] ) rfl ⟨_, _, _, _, _, _, _, _, rfl, pc_zero, ?_⟩
    exact HX.out.trans ((Own.below (Own.set (Own.set (Own.set (Own.set (Own.set (Own.set (Own.set (Own.set (Own.set hOw1 _ _) _ _) _ _) _ _) _ _) _ _) _ _) _ _) _ _)).mono (by omega))
end Go.Proofs.Ytnpcldgacdgplaa
