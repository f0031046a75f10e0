/- At every stack and light the program answers the code and the stack's plate that the specification tells, part by part, all NaNs being one, where the law's own bound on the films does not answer first; nothing that was there is changed. -/
import Derived.Test.YtnpcldgacdgplaaSpi
import Derived.Test.YtnpcldgacdgplaaEqr
import Derived.Handy
import Derived.Deep.RegionHeld3
import Derived.Deep.DeepCutAuto
namespace Go.Proofs.Ytnpcldgacdgplaa.LawStackPlate
open Go.ChangeShapes Go.WideShapes Go.ChangeAt Go.RowKit Go.Joins Fl
set_option linter.unusedVariables false

set_option maxHeartbeats 12800000 in
theorem walk {a o : Nat} {v : Value} {n : Nat} {G : Nat → Fi} {w : World} (ha : a < 18446744073709551616) (ho : o < 18446744073709551616) (h : RdV w v n 3 (fun i j => fcell (G i) j)) (hn : n ≤ 9223372036854775807) (ok : ∀ k, k < n → FiOk (G k)) (nm : Int) {s : Nat} (pol : Int) (hs : s < 18446744073709551616) :
    Calls Try.prog 6 #[Sv a o v, Lv nm s pol] w fun e w' => e = .returned (.bool true) ∧ Below w.heap.size w w' := by
  obtain ⟨ao, cap, rfl⟩ := h.form
  have H : Hid (RdV w (.slice ao n cap) n 3 (fun i j => fcell (G i) j) ∧ a < 18446744073709551616 ∧ o < 18446744073709551616 ∧ (∀ k, k < n → FiOk (G k)) ∧ s < 18446744073709551616) := ⟨h, ha, ho, ok, hs⟩
  clear h ha ho ok hs
  have hst := st64
  obtain ⟨C, hC⟩ : ∃ C, C = pfault a o n G nm s pol := ⟨_, rfl⟩
  obtain ⟨PP, hPP⟩ : ∃ PP, PP = spPlate a o n G nm s pol := ⟨_, rfl⟩
  have HS : Hid (∀ {W : World} {v : Value}, RdV W v n 3 (fun i j => fcell (G i) j) → RV 20 #[Sv a o v, Lv nm s pol] W C PP) := fun h => by rw [hC, hPP]; exact sStackP_any H.out.2.1 H.out.2.2.1 H.out.2.2.2.2 h H.out.2.2.2.1 nm pol
  have HI : Hid (∀ {W : World} {v : Value}, RdV W v n 3 (fun i j => fcell (G i) j) → RV 21 #[Sv a o v, Lv nm s pol] W C PP) := fun h => by rw [hC, hPP]; exact iStackP_any H.out.2.1 H.out.2.2.1 H.out.2.2.2.2 h H.out.2.2.2.1 nm pol
  clear hC hPP
  obtain ⟨X, hX⟩ : ∃ X, X = (w.alloc (.cells #[.float .f64 a, .float .f64 o, .slice ao n cap] 25)).alloc (.cells #[.int .i64 nm, .float .f64 s, .int .i64 pol] 35) := ⟨_, rfl⟩
  have BX : Hid (Below w.heap.size w X) := by
    have h : Below w.heap.size w X := by rw [hX]; exact ((Below.refl _ _).alloc (Nat.le_refl _) _).alloc (by simp) _
    exact h
  have c0_X : X.cell? ⟨w.heap.size, 0, none⟩ = some (.float .f64 a) := by rw [hX]; exact cell_alloc_old (cell_alloc_new rfl rfl)
  have c1_X : X.cell? ⟨w.heap.size, 1, none⟩ = some (.float .f64 o) := by rw [hX]; exact cell_alloc_old (cell_alloc_new rfl rfl)
  have c2_X : X.cell? ⟨w.heap.size, 2, none⟩ = some (.slice ao n cap) := by rw [hX]; exact cell_alloc_old (cell_alloc_new rfl rfl)
  have l0_X : X.cell? ⟨w.heap.size + 1, 0, none⟩ = some (.int .i64 nm) := by rw [hX]; exact cell_alloc_new (by simp) rfl
  have l1_X : X.cell? ⟨w.heap.size + 1, 1, none⟩ = some (.float .f64 s) := by rw [hX]; exact cell_alloc_new (by simp) rfl
  have l2_X : X.cell? ⟨w.heap.size + 1, 2, none⟩ = some (.int .i64 pol) := by rw [hX]; exact cell_alloc_new (by simp) rfl
  go_enter Try.func6, Try.ntmps6
  go_upto_region 1 with fail
  rw [← hX]
  clear hX
  go_wp2_with fail
  refine (szSt_any a o ao n cap _ hn).mono ?_
  rintro e w0 ⟨rfl, b0⟩
  have c0_w0 : w0.cell? ⟨w.heap.size, 0, none⟩ = some (.float .f64 a) := old_cell b0 (World.block_lt_of_cell? _ _ c0_X) c0_X
  have c1_w0 : w0.cell? ⟨w.heap.size, 1, none⟩ = some (.float .f64 o) := old_cell b0 (World.block_lt_of_cell? _ _ c1_X) c1_X
  have c2_w0 : w0.cell? ⟨w.heap.size, 2, none⟩ = some (.slice ao n cap) := old_cell b0 (World.block_lt_of_cell? _ _ c2_X) c2_X
  have l0_w0 : w0.cell? ⟨w.heap.size + 1, 0, none⟩ = some (.int .i64 nm) := old_cell b0 (World.block_lt_of_cell? _ _ l0_X) l0_X
  have l1_w0 : w0.cell? ⟨w.heap.size + 1, 1, none⟩ = some (.float .f64 s) := old_cell b0 (World.block_lt_of_cell? _ _ l1_X) l1_X
  have l2_w0 : w0.cell? ⟨w.heap.size + 1, 2, none⟩ = some (.int .i64 pol) := old_cell b0 (World.block_lt_of_cell? _ _ l2_X) l2_X
  clear c0_X c1_X c2_X l0_X l1_X l2_X
  have A0 : Hid (Below w.heap.size w w0) := box_step BX.out b0 (Nat.le_refl _)
  clear b0 BX
  unfold szOf
  by_cases hb : 1048576 < n
  · rw [if_pos hb]
    go_wp2
    go_ret
    exact ⟨rfl, A0.out⟩
  rw [if_neg hb]
  have hn2 : n ≤ 1000000000000 := by omega
  have hn3 : ¬ ((1048576 : Int) - n < 0) := by omega
  go_wp2_with fail
  clear hb
  have rc0 : ∀ W, Below w0.heap.size w0 W → W.cell? ⟨w.heap.size, 0, none⟩ = some (.float .f64 a) := fun W h => old_cell h (World.block_lt_of_cell? _ _ c0_w0) c0_w0
  have rc1 : ∀ W, Below w0.heap.size w0 W → W.cell? ⟨w.heap.size, 1, none⟩ = some (.float .f64 o) := fun W h => old_cell h (World.block_lt_of_cell? _ _ c1_w0) c1_w0
  have rc2 : ∀ W, Below w0.heap.size w0 W → W.cell? ⟨w.heap.size, 2, none⟩ = some (.slice ao n cap) := fun W h => old_cell h (World.block_lt_of_cell? _ _ c2_w0) c2_w0
  have rl0 : ∀ W, Below w0.heap.size w0 W → W.cell? ⟨w.heap.size + 1, 0, none⟩ = some (.int .i64 nm) := fun W h => old_cell h (World.block_lt_of_cell? _ _ l0_w0) l0_w0
  have rl1 : ∀ W, Below w0.heap.size w0 W → W.cell? ⟨w.heap.size + 1, 1, none⟩ = some (.float .f64 s) := fun W h => old_cell h (World.block_lt_of_cell? _ _ l1_w0) l1_w0
  have rl2 : ∀ W, Below w0.heap.size w0 W → W.cell? ⟨w.heap.size + 1, 2, none⟩ = some (.int .i64 pol) := fun W h => old_cell h (World.block_lt_of_cell? _ _ l2_w0) l2_w0
  have T1 : Hid (∀ W, Below w0.heap.size w0 W → Calls Try.prog 11 #[Sv a o (.slice ao n cap)] W fun e w' => ∃ b, e = .returned (Sv a o (.slice (some ⟨b, 0, none⟩) n n)) ∧ SegV w' b 60 n 3 (fun i j => fcell (G i) j) ∧ Below W.heap.size W w') :=
    fun W hW => (toSt_any (H.out.1.later (box_step A0.out hW (Nat.le_refl _))) hn2).mono fun e w' ⟨b, h1, h2, _, _, h3⟩ => ⟨b, h1, h2, h3⟩
  have hR0 : Below w0.heap.size w0 w0 := Below.refl _ _
  go_cut [6] (fun pt wx => ∃ (K : Nat) (a0 a1 a2 a3 a4 a5 a6 a7 : Nat), pt = .pointer (some ⟨K, 0, none⟩) ∧ (wx.cell? ⟨K, 0, none⟩ = some (.int .i64 C) ∧ wx.cell? ⟨K, 1, none⟩ = some (.float .f64 a0) ∧ wx.cell? ⟨K, 2, none⟩ = some (.float .f64 a1) ∧ wx.cell? ⟨K, 3, none⟩ = some (.float .f64 a2) ∧ wx.cell? ⟨K, 4, none⟩ = some (.float .f64 a3) ∧ wx.cell? ⟨K, 5, none⟩ = some (.float .f64 a4) ∧ wx.cell? ⟨K, 6, none⟩ = some (.float .f64 a5) ∧ wx.cell? ⟨K, 7, none⟩ = some (.float .f64 a6) ∧ wx.cell? ⟨K, 8, none⟩ = some (.float .f64 a7)) ∧ Below w0.heap.size w0 wx ∧ Pc a0 a1 a2 a3 a4 a5 a6 a7 PP)
  case first =>
    go_region_held (fun W => Below w0.heap.size w0 W) (go_grown)
      (first | (go_at_call 11; refine (T1.out _ (by go_grown)).mono ?_; rintro e wa ⟨ba, rfl, sa, hbwa⟩; have hswa := hbwa.size; (try simp at hswa); have hRwa : Below w0.heap.size w0 wa := (by refine box_step ?_ hbwa (Nat.le_refl _); go_grown); have hLwa : Below w0.heap.size w0 wa := (by refine box_step ?_ hbwa (Nat.le_refl _); go_grown); obtain ⟨howa, hfwa, hzwa⟩ := olds hLwa; obtain ⟨hpwa, hqwa, hrwa⟩ := olds hbwa; have hs1wa := hLwa.size; (try (have hmwaw0 : w0.heap.size < wa.heap.size := by omega)); (try (have hnwaw0 : ¬ w0.heap.size = wa.heap.size := by omega))) | (go_at_call 15; refine (toL_any _ _ _ _).mono ?_; rintro e wb ⟨rfl, hbwb⟩; have hswb := hbwb.size; (try simp at hswb); have hRwb : Below w0.heap.size w0 wb := (by refine box_step ?_ hbwb (Nat.le_refl _); go_grown); have hLwb : Below wa.heap.size wa wb := (by refine box_step ?_ hbwb (Nat.le_refl _); go_grown); obtain ⟨howb, hfwb, hzwb⟩ := olds hLwb; obtain ⟨hpwb, hqwb, hrwb⟩ := olds hbwb; have hs1wb := hLwb.size; (try (have hmwbw0 : w0.heap.size < wb.heap.size := by omega)); (try (have hnwbw0 : ¬ w0.heap.size = wb.heap.size := by omega)); (try (have hmwbwa : wa.heap.size < wb.heap.size := by omega)); (try (have hnwbwa : ¬ wa.heap.size = wb.heap.size := by omega)); have sb := sa.below hLwb) | (go_at_call 20; refine (HS.out (by first | exact sb.rd | exact (SegV.below sb (by go_grown)).rd)).mono ?_; rintro e wd ⟨a0, a1, a2, a3, a4, a5, a6, a7, rfl, hpc, hbwd⟩; have hswd := hbwd.size; (try simp at hswd); have hRwd : Below w0.heap.size w0 wd := (by refine box_step ?_ hbwd (Nat.le_refl _); go_grown); have hLwd : Below wb.heap.size wb wd := (by refine box_step ?_ hbwd (Nat.le_refl _); go_grown); obtain ⟨howd, hfwd, hzwd⟩ := olds hLwd; obtain ⟨hpwd, hqwd, hrwd⟩ := olds hbwd; have hs1wd := hLwd.size; (try (have hmwdw0 : w0.heap.size < wd.heap.size := by omega)); (try (have hnwdw0 : ¬ w0.heap.size = wd.heap.size := by omega)); (try (have hmwdwa : wa.heap.size < wd.heap.size := by omega)); (try (have hnwdwa : ¬ wa.heap.size = wd.heap.size := by omega)); (try (have hmwdwb : wb.heap.size < wd.heap.size := by omega)); (try (have hnwdwb : ¬ wb.heap.size = wd.heap.size := by omega))))
    all_goals
      go_wp2_with fail
      go_meet
      case rel =>
        refine ⟨_, _, _, _, _, _, _, _, _, rfl, ⟨?_, ?_, ?_, ?_, ?_, ?_, ?_, ?_, ?_⟩, ?_, hpc⟩
        · first | (go_simp; done) | (simp [*]; done)
        · first | (go_simp; done) | (simp [*]; done)
        · first | (go_simp; done) | (simp [*]; done)
        · first | (go_simp; done) | (simp [*]; done)
        · first | (go_simp; done) | (simp [*]; done)
        · first | (go_simp; done) | (simp [*]; done)
        · first | (go_simp; done) | (simp [*]; done)
        · first | (go_simp; done) | (simp [*]; done)
        · first | (go_simp; done) | (simp [*]; done)
        · go_grown
  case rest =>
    obtain ⟨K, a0, a1, a2, a3, a4, a5, a6, a7, rfl, ⟨cr0, cr1, cr2, cr3, cr4, cr5, cr6, cr7, cr8⟩, hB, hpc⟩ := hcut
    obtain ⟨V, hV⟩ : ∃ V, V = wc := ⟨_, rfl⟩
    subst hV
    have c0_V : V.cell? ⟨w.heap.size, 0, none⟩ = some (.float .f64 a) := old_cell hB (World.block_lt_of_cell? _ _ c0_w0) c0_w0
    have c1_V : V.cell? ⟨w.heap.size, 1, none⟩ = some (.float .f64 o) := old_cell hB (World.block_lt_of_cell? _ _ c1_w0) c1_w0
    have c2_V : V.cell? ⟨w.heap.size, 2, none⟩ = some (.slice ao n cap) := old_cell hB (World.block_lt_of_cell? _ _ c2_w0) c2_w0
    have l0_V : V.cell? ⟨w.heap.size + 1, 0, none⟩ = some (.int .i64 nm) := old_cell hB (World.block_lt_of_cell? _ _ l0_w0) l0_w0
    have l1_V : V.cell? ⟨w.heap.size + 1, 1, none⟩ = some (.float .f64 s) := old_cell hB (World.block_lt_of_cell? _ _ l1_w0) l1_w0
    have l2_V : V.cell? ⟨w.heap.size + 1, 2, none⟩ = some (.int .i64 pol) := old_cell hB (World.block_lt_of_cell? _ _ l2_w0) l2_w0
    have p0_V : V.cell? ⟨K, 0, none⟩ = some (.int .i64 C) := cr0
    have p1_V : V.cell? ⟨K, 1, none⟩ = some (.float .f64 a0) := cr1
    have p2_V : V.cell? ⟨K, 2, none⟩ = some (.float .f64 a1) := cr2
    have p3_V : V.cell? ⟨K, 3, none⟩ = some (.float .f64 a2) := cr3
    have p4_V : V.cell? ⟨K, 4, none⟩ = some (.float .f64 a3) := cr4
    have p5_V : V.cell? ⟨K, 5, none⟩ = some (.float .f64 a4) := cr5
    have p6_V : V.cell? ⟨K, 6, none⟩ = some (.float .f64 a5) := cr6
    have p7_V : V.cell? ⟨K, 7, none⟩ = some (.float .f64 a6) := cr7
    have p8_V : V.cell? ⟨K, 8, none⟩ = some (.float .f64 a7) := cr8
    have A1 : Hid (Below w.heap.size w V ∧ Pc a0 a1 a2 a3 a4 a5 a6 a7 PP) := ⟨box_step A0.out hB (Nat.le_refl _), hpc⟩
    clear cr0 cr1 cr2 cr3 cr4 cr5 cr6 cr7 cr8 hB hpc hR0 A0 T1 rc0 rc1 rc2 rl0 rl1 rl2 c0_w0 c1_w0 c2_w0 l0_w0 l1_w0 l2_w0
    go_wp2_with fail
    refine (toSt_any (H.out.1.later A1.out.1) hn2).mono ?_
    rintro e w3 ⟨b', rfl, s3, l3, l3', b3⟩
    have c0_w3 : w3.cell? ⟨w.heap.size, 0, none⟩ = some (.float .f64 a) := old_cell b3 (World.block_lt_of_cell? _ _ c0_V) c0_V
    have c1_w3 : w3.cell? ⟨w.heap.size, 1, none⟩ = some (.float .f64 o) := old_cell b3 (World.block_lt_of_cell? _ _ c1_V) c1_V
    have c2_w3 : w3.cell? ⟨w.heap.size, 2, none⟩ = some (.slice ao n cap) := old_cell b3 (World.block_lt_of_cell? _ _ c2_V) c2_V
    have l0_w3 : w3.cell? ⟨w.heap.size + 1, 0, none⟩ = some (.int .i64 nm) := old_cell b3 (World.block_lt_of_cell? _ _ l0_V) l0_V
    have l1_w3 : w3.cell? ⟨w.heap.size + 1, 1, none⟩ = some (.float .f64 s) := old_cell b3 (World.block_lt_of_cell? _ _ l1_V) l1_V
    have l2_w3 : w3.cell? ⟨w.heap.size + 1, 2, none⟩ = some (.int .i64 pol) := old_cell b3 (World.block_lt_of_cell? _ _ l2_V) l2_V
    have p0_w3 : w3.cell? ⟨K, 0, none⟩ = some (.int .i64 C) := old_cell b3 (World.block_lt_of_cell? _ _ p0_V) p0_V
    have p1_w3 : w3.cell? ⟨K, 1, none⟩ = some (.float .f64 a0) := old_cell b3 (World.block_lt_of_cell? _ _ p1_V) p1_V
    have p2_w3 : w3.cell? ⟨K, 2, none⟩ = some (.float .f64 a1) := old_cell b3 (World.block_lt_of_cell? _ _ p2_V) p2_V
    have p3_w3 : w3.cell? ⟨K, 3, none⟩ = some (.float .f64 a2) := old_cell b3 (World.block_lt_of_cell? _ _ p3_V) p3_V
    have p4_w3 : w3.cell? ⟨K, 4, none⟩ = some (.float .f64 a3) := old_cell b3 (World.block_lt_of_cell? _ _ p4_V) p4_V
    have p5_w3 : w3.cell? ⟨K, 5, none⟩ = some (.float .f64 a4) := old_cell b3 (World.block_lt_of_cell? _ _ p5_V) p5_V
    have p6_w3 : w3.cell? ⟨K, 6, none⟩ = some (.float .f64 a5) := old_cell b3 (World.block_lt_of_cell? _ _ p6_V) p6_V
    have p7_w3 : w3.cell? ⟨K, 7, none⟩ = some (.float .f64 a6) := old_cell b3 (World.block_lt_of_cell? _ _ p7_V) p7_V
    have p8_w3 : w3.cell? ⟨K, 8, none⟩ = some (.float .f64 a7) := old_cell b3 (World.block_lt_of_cell? _ _ p8_V) p8_V
    clear c0_V c1_V c2_V l0_V l1_V l2_V p0_V p1_V p2_V p3_V p4_V p5_V p6_V p7_V p8_V
    have A2 : Hid (SegV w3 b' 60 n 3 (fun i j => fcell (G i) j) ∧ Below w.heap.size w w3) := ⟨s3, box_step A1.out.1 b3 (Nat.le_refl _)⟩
    clear s3 l3 l3' b3
    obtain ⟨U, hU⟩ : ∃ V, V = w3.alloc (.cells #[.float .f64 a, .float .f64 o, .slice (some ⟨b', 0, none⟩) n n] 30) := ⟨_, rfl⟩
    have gU : Below w3.heap.size w3 U := by rw [hU]; exact (Below.refl _ _).alloc (Nat.le_refl _) _
    have zU : U.heap.size = w3.heap.size + 1 := by rw [hU]; simp
    have c0_U : U.cell? ⟨w.heap.size, 0, none⟩ = some (.float .f64 a) := old_cell gU (World.block_lt_of_cell? _ _ c0_w3) c0_w3
    have c1_U : U.cell? ⟨w.heap.size, 1, none⟩ = some (.float .f64 o) := old_cell gU (World.block_lt_of_cell? _ _ c1_w3) c1_w3
    have c2_U : U.cell? ⟨w.heap.size, 2, none⟩ = some (.slice ao n cap) := old_cell gU (World.block_lt_of_cell? _ _ c2_w3) c2_w3
    have l0_U : U.cell? ⟨w.heap.size + 1, 0, none⟩ = some (.int .i64 nm) := old_cell gU (World.block_lt_of_cell? _ _ l0_w3) l0_w3
    have l1_U : U.cell? ⟨w.heap.size + 1, 1, none⟩ = some (.float .f64 s) := old_cell gU (World.block_lt_of_cell? _ _ l1_w3) l1_w3
    have l2_U : U.cell? ⟨w.heap.size + 1, 2, none⟩ = some (.int .i64 pol) := old_cell gU (World.block_lt_of_cell? _ _ l2_w3) l2_w3
    have p0_U : U.cell? ⟨K, 0, none⟩ = some (.int .i64 C) := old_cell gU (World.block_lt_of_cell? _ _ p0_w3) p0_w3
    have p1_U : U.cell? ⟨K, 1, none⟩ = some (.float .f64 a0) := old_cell gU (World.block_lt_of_cell? _ _ p1_w3) p1_w3
    have p2_U : U.cell? ⟨K, 2, none⟩ = some (.float .f64 a1) := old_cell gU (World.block_lt_of_cell? _ _ p2_w3) p2_w3
    have p3_U : U.cell? ⟨K, 3, none⟩ = some (.float .f64 a2) := old_cell gU (World.block_lt_of_cell? _ _ p3_w3) p3_w3
    have p4_U : U.cell? ⟨K, 4, none⟩ = some (.float .f64 a3) := old_cell gU (World.block_lt_of_cell? _ _ p4_w3) p4_w3
    have p5_U : U.cell? ⟨K, 5, none⟩ = some (.float .f64 a4) := old_cell gU (World.block_lt_of_cell? _ _ p5_w3) p5_w3
    have p6_U : U.cell? ⟨K, 6, none⟩ = some (.float .f64 a5) := old_cell gU (World.block_lt_of_cell? _ _ p6_w3) p6_w3
    have p7_U : U.cell? ⟨K, 7, none⟩ = some (.float .f64 a6) := old_cell gU (World.block_lt_of_cell? _ _ p7_w3) p7_w3
    have p8_U : U.cell? ⟨K, 8, none⟩ = some (.float .f64 a7) := old_cell gU (World.block_lt_of_cell? _ _ p8_w3) p8_w3
    clear c0_w3 c1_w3 c2_w3 l0_w3 l1_w3 l2_w3 p0_w3 p1_w3 p2_w3 p3_w3 p4_w3 p5_w3 p6_w3 p7_w3 p8_w3
    have f0_U : U.cell? ⟨w3.heap.size, 0, none⟩ = some (.float .f64 a) := by rw [hU]; exact cell_alloc_new rfl rfl
    have f1_U : U.cell? ⟨w3.heap.size, 1, none⟩ = some (.float .f64 o) := by rw [hU]; exact cell_alloc_new rfl rfl
    have f2_U : U.cell? ⟨w3.heap.size, 2, none⟩ = some (.slice (some ⟨b', 0, none⟩) n n) := by rw [hU]; exact cell_alloc_new rfl rfl
    have A3 : Hid (SegV U b' 60 n 3 (fun i j => fcell (G i) j) ∧ Below w.heap.size w U ∧ Pc a0 a1 a2 a3 a4 a5 a6 a7 PP) := ⟨A2.out.1.below gU, box_step A2.out.2 gU (Nat.le_refl _), A1.out.2⟩
    clear A1 A2
    go_upto_region 7 with fail
    rw [← hU]
    clear hU gU zU
    have rl0 : ∀ W, Below U.heap.size U W → W.cell? ⟨w.heap.size + 1, 0, none⟩ = some (.int .i64 nm) := fun W h => old_cell h (World.block_lt_of_cell? _ _ l0_U) l0_U
    have rl1 : ∀ W, Below U.heap.size U W → W.cell? ⟨w.heap.size + 1, 1, none⟩ = some (.float .f64 s) := fun W h => old_cell h (World.block_lt_of_cell? _ _ l1_U) l1_U
    have rl2 : ∀ W, Below U.heap.size U W → W.cell? ⟨w.heap.size + 1, 2, none⟩ = some (.int .i64 pol) := fun W h => old_cell h (World.block_lt_of_cell? _ _ l2_U) l2_U
    have rf0 : ∀ W, Below U.heap.size U W → W.cell? ⟨w3.heap.size, 0, none⟩ = some (.float .f64 a) := fun W h => old_cell h (World.block_lt_of_cell? _ _ f0_U) f0_U
    have rf1 : ∀ W, Below U.heap.size U W → W.cell? ⟨w3.heap.size, 1, none⟩ = some (.float .f64 o) := fun W h => old_cell h (World.block_lt_of_cell? _ _ f1_U) f1_U
    have rf2 : ∀ W, Below U.heap.size U W → W.cell? ⟨w3.heap.size, 2, none⟩ = some (.slice (some ⟨b', 0, none⟩) n n) := fun W h => old_cell h (World.block_lt_of_cell? _ _ f2_U) f2_U
    have sU := A3.out.1
    have hR0 : Below U.heap.size U U := Below.refl _ _
    go_cut [8] (fun pt wx => ∃ (K : Nat) (a0 a1 a2 a3 a4 a5 a6 a7 : Nat), pt = .pointer (some ⟨K, 0, none⟩) ∧ (wx.cell? ⟨K, 0, none⟩ = some (.int .i64 C) ∧ wx.cell? ⟨K, 1, none⟩ = some (.float .f64 a0) ∧ wx.cell? ⟨K, 2, none⟩ = some (.float .f64 a1) ∧ wx.cell? ⟨K, 3, none⟩ = some (.float .f64 a2) ∧ wx.cell? ⟨K, 4, none⟩ = some (.float .f64 a3) ∧ wx.cell? ⟨K, 5, none⟩ = some (.float .f64 a4) ∧ wx.cell? ⟨K, 6, none⟩ = some (.float .f64 a5) ∧ wx.cell? ⟨K, 7, none⟩ = some (.float .f64 a6) ∧ wx.cell? ⟨K, 8, none⟩ = some (.float .f64 a7)) ∧ Below U.heap.size U wx ∧ Pc a0 a1 a2 a3 a4 a5 a6 a7 PP)
    case first =>
      go_region_held (fun W => Below U.heap.size U W) (go_grown)
        (first | (go_at_call 15; refine (toL_any _ _ _ _).mono ?_; rintro e wb ⟨rfl, hbwb⟩; have hswb := hbwb.size; (try simp at hswb); have hRwb : Below U.heap.size U wb := (by refine box_step ?_ hbwb (Nat.le_refl _); go_grown); have hLwb : Below U.heap.size U wb := (by refine box_step ?_ hbwb (Nat.le_refl _); go_grown); obtain ⟨howb, hfwb, hzwb⟩ := olds hLwb; obtain ⟨hpwb, hqwb, hrwb⟩ := olds hbwb; have hs1wb := hLwb.size; (try (have hmwbU : U.heap.size < wb.heap.size := by omega)); (try (have hnwbU : ¬ U.heap.size = wb.heap.size := by omega)); have sb := sU.below hLwb) | (go_at_call 21; refine (HI.out (by first | exact sb.rd | exact (SegV.below sb (by go_grown)).rd)).mono ?_; rintro e wd ⟨a0, a1, a2, a3, a4, a5, a6, a7, rfl, hpc, hbwd⟩; have hswd := hbwd.size; (try simp at hswd); have hRwd : Below U.heap.size U wd := (by refine box_step ?_ hbwd (Nat.le_refl _); go_grown); have hLwd : Below wb.heap.size wb wd := (by refine box_step ?_ hbwd (Nat.le_refl _); go_grown); obtain ⟨howd, hfwd, hzwd⟩ := olds hLwd; obtain ⟨hpwd, hqwd, hrwd⟩ := olds hbwd; have hs1wd := hLwd.size; (try (have hmwdU : U.heap.size < wd.heap.size := by omega)); (try (have hnwdU : ¬ U.heap.size = wd.heap.size := by omega)); (try (have hmwdwb : wb.heap.size < wd.heap.size := by omega)); (try (have hnwdwb : ¬ wb.heap.size = wd.heap.size := by omega))))
      all_goals
        go_wp2_with fail
        go_meet
        case rel =>
          refine ⟨_, _, _, _, _, _, _, _, _, rfl, ⟨?_, ?_, ?_, ?_, ?_, ?_, ?_, ?_, ?_⟩, ?_, hpc⟩
          · first | (go_simp; done) | (simp [*]; done)
          · first | (go_simp; done) | (simp [*]; done)
          · first | (go_simp; done) | (simp [*]; done)
          · first | (go_simp; done) | (simp [*]; done)
          · first | (go_simp; done) | (simp [*]; done)
          · first | (go_simp; done) | (simp [*]; done)
          · first | (go_simp; done) | (simp [*]; done)
          · first | (go_simp; done) | (simp [*]; done)
          · first | (go_simp; done) | (simp [*]; done)
          · go_grown
    case rest =>
      obtain ⟨K2, a0', a1', a2', a3', a4', a5', a6', a7', rfl, ⟨cr0, cr1, cr2, cr3, cr4, cr5, cr6, cr7, cr8⟩, hB, hpc⟩ := hcut
      obtain ⟨Y, hY⟩ : ∃ Y, Y = wc := ⟨_, rfl⟩
      subst hY
      have c0_Y : Y.cell? ⟨w.heap.size, 0, none⟩ = some (.float .f64 a) := old_cell hB (World.block_lt_of_cell? _ _ c0_U) c0_U
      have c1_Y : Y.cell? ⟨w.heap.size, 1, none⟩ = some (.float .f64 o) := old_cell hB (World.block_lt_of_cell? _ _ c1_U) c1_U
      have c2_Y : Y.cell? ⟨w.heap.size, 2, none⟩ = some (.slice ao n cap) := old_cell hB (World.block_lt_of_cell? _ _ c2_U) c2_U
      have l0_Y : Y.cell? ⟨w.heap.size + 1, 0, none⟩ = some (.int .i64 nm) := old_cell hB (World.block_lt_of_cell? _ _ l0_U) l0_U
      have l1_Y : Y.cell? ⟨w.heap.size + 1, 1, none⟩ = some (.float .f64 s) := old_cell hB (World.block_lt_of_cell? _ _ l1_U) l1_U
      have l2_Y : Y.cell? ⟨w.heap.size + 1, 2, none⟩ = some (.int .i64 pol) := old_cell hB (World.block_lt_of_cell? _ _ l2_U) l2_U
      have p0_Y : Y.cell? ⟨K, 0, none⟩ = some (.int .i64 C) := old_cell hB (World.block_lt_of_cell? _ _ p0_U) p0_U
      have p1_Y : Y.cell? ⟨K, 1, none⟩ = some (.float .f64 a0) := old_cell hB (World.block_lt_of_cell? _ _ p1_U) p1_U
      have p2_Y : Y.cell? ⟨K, 2, none⟩ = some (.float .f64 a1) := old_cell hB (World.block_lt_of_cell? _ _ p2_U) p2_U
      have p3_Y : Y.cell? ⟨K, 3, none⟩ = some (.float .f64 a2) := old_cell hB (World.block_lt_of_cell? _ _ p3_U) p3_U
      have p4_Y : Y.cell? ⟨K, 4, none⟩ = some (.float .f64 a3) := old_cell hB (World.block_lt_of_cell? _ _ p4_U) p4_U
      have p5_Y : Y.cell? ⟨K, 5, none⟩ = some (.float .f64 a4) := old_cell hB (World.block_lt_of_cell? _ _ p5_U) p5_U
      have p6_Y : Y.cell? ⟨K, 6, none⟩ = some (.float .f64 a5) := old_cell hB (World.block_lt_of_cell? _ _ p6_U) p6_U
      have p7_Y : Y.cell? ⟨K, 7, none⟩ = some (.float .f64 a6) := old_cell hB (World.block_lt_of_cell? _ _ p7_U) p7_U
      have p8_Y : Y.cell? ⟨K, 8, none⟩ = some (.float .f64 a7) := old_cell hB (World.block_lt_of_cell? _ _ p8_U) p8_U
      have f0_Y : Y.cell? ⟨w3.heap.size, 0, none⟩ = some (.float .f64 a) := old_cell hB (World.block_lt_of_cell? _ _ f0_U) f0_U
      have f1_Y : Y.cell? ⟨w3.heap.size, 1, none⟩ = some (.float .f64 o) := old_cell hB (World.block_lt_of_cell? _ _ f1_U) f1_U
      have f2_Y : Y.cell? ⟨w3.heap.size, 2, none⟩ = some (.slice (some ⟨b', 0, none⟩) n n) := old_cell hB (World.block_lt_of_cell? _ _ f2_U) f2_U
      have q0_Y : Y.cell? ⟨K2, 0, none⟩ = some (.int .i64 C) := cr0
      have q1_Y : Y.cell? ⟨K2, 1, none⟩ = some (.float .f64 a0') := cr1
      have q2_Y : Y.cell? ⟨K2, 2, none⟩ = some (.float .f64 a1') := cr2
      have q3_Y : Y.cell? ⟨K2, 3, none⟩ = some (.float .f64 a2') := cr3
      have q4_Y : Y.cell? ⟨K2, 4, none⟩ = some (.float .f64 a3') := cr4
      have q5_Y : Y.cell? ⟨K2, 5, none⟩ = some (.float .f64 a4') := cr5
      have q6_Y : Y.cell? ⟨K2, 6, none⟩ = some (.float .f64 a5') := cr6
      have q7_Y : Y.cell? ⟨K2, 7, none⟩ = some (.float .f64 a6') := cr7
      have q8_Y : Y.cell? ⟨K2, 8, none⟩ = some (.float .f64 a7') := cr8
      have A4 : Hid (SegV Y b' 60 n 3 (fun i j => fcell (G i) j) ∧ Below w.heap.size w Y ∧ Pc a0 a1 a2 a3 a4 a5 a6 a7 PP ∧ Pc a0' a1' a2' a3' a4' a5' a6' a7' PP) := ⟨A3.out.1.below hB, box_step A3.out.2.1 hB (Nat.le_refl _), A3.out.2.2, hpc⟩
      clear cr0 cr1 cr2 cr3 cr4 cr5 cr6 cr7 cr8 hB hpc hR0 sU A3 rl0 rl1 rl2 rf0 rf1 rf2 c0_U c1_U c2_U l0_U l1_U l2_U p0_U p1_U p2_U p3_U p4_U p5_U p6_U p7_U p8_U f0_U f1_U f2_U
      go_wp2_with fail
      refine (eqR_same A4.out.2.2.2 A4.out.2.2.1 _).mono ?_
      rintro e w4 ⟨rfl, b4⟩
      clear l0_Y l1_Y l2_Y p0_Y p1_Y p2_Y p3_Y p4_Y p5_Y p6_Y p7_Y p8_Y q0_Y q1_Y q2_Y q3_Y q4_Y q5_Y q6_Y q7_Y q8_Y
      have c0_w4 : w4.cell? ⟨w.heap.size, 0, none⟩ = some (.float .f64 a) := old_cell b4 (World.block_lt_of_cell? _ _ c0_Y) c0_Y
      have c1_w4 : w4.cell? ⟨w.heap.size, 1, none⟩ = some (.float .f64 o) := old_cell b4 (World.block_lt_of_cell? _ _ c1_Y) c1_Y
      have c2_w4 : w4.cell? ⟨w.heap.size, 2, none⟩ = some (.slice ao n cap) := old_cell b4 (World.block_lt_of_cell? _ _ c2_Y) c2_Y
      have f0_w4 : w4.cell? ⟨w3.heap.size, 0, none⟩ = some (.float .f64 a) := old_cell b4 (World.block_lt_of_cell? _ _ f0_Y) f0_Y
      have f1_w4 : w4.cell? ⟨w3.heap.size, 1, none⟩ = some (.float .f64 o) := old_cell b4 (World.block_lt_of_cell? _ _ f1_Y) f1_Y
      have f2_w4 : w4.cell? ⟨w3.heap.size, 2, none⟩ = some (.slice (some ⟨b', 0, none⟩) n n) := old_cell b4 (World.block_lt_of_cell? _ _ f2_Y) f2_Y
      clear c0_Y c1_Y c2_Y f0_Y f1_Y f2_Y
      have A4 : Hid (SegV w4 b' 60 n 3 (fun i j => fcell (G i) j) ∧ Below w.heap.size w w4) := ⟨A4.out.1.below b4, box_step A4.out.2.1 b4 (Nat.le_refl _)⟩
      have BX : Hid (Below w.heap.size w w) := Below.refl _ _
      have H : Hid (RdV w (.slice ao n cap) n 3 (fun i j => fcell (G i) j) ∧ a < 18446744073709551616 ∧ o < 18446744073709551616 ∧ ∀ k, k < n → FiOk (G k)) := ⟨H.out.1, H.out.2.1, H.out.2.2.1, H.out.2.2.2.1⟩
      have e0 := f0_w4
      have e1 := f1_w4
      have e2 := f2_w4
      have c0 := c0_w4
      have c1 := c1_w4
      have c2 := c2_w4
      clear b4 f0_w4 f1_w4 f2_w4 c0_w4 c1_w4 c2_w4 HS HI
      go_wp2_with fail
      have p0 : ∀ W, Below w4.heap.size w4 W → W.cell? ⟨w3.heap.size, 0, none⟩ = some (.float .f64 a) := fun W h => old_cell h (World.block_lt_of_cell? _ _ e0) e0
      have p1 : ∀ W, Below w4.heap.size w4 W → W.cell? ⟨w3.heap.size, 1, none⟩ = some (.float .f64 o) := fun W h => old_cell h (World.block_lt_of_cell? _ _ e1) e1
      have p2 : ∀ W, Below w4.heap.size w4 W → W.cell? ⟨w3.heap.size, 2, none⟩ = some (.slice (some ⟨b', 0, none⟩) n n) := fun W h => old_cell h (World.block_lt_of_cell? _ _ e2) e2
      have q0 : ∀ W, Below w4.heap.size w4 W → W.cell? ⟨w.heap.size, 0, none⟩ = some (.float .f64 a) := fun W h => old_cell h (World.block_lt_of_cell? _ _ c0) c0
      have q1 : ∀ W, Below w4.heap.size w4 W → W.cell? ⟨w.heap.size, 1, none⟩ = some (.float .f64 o) := fun W h => old_cell h (World.block_lt_of_cell? _ _ c1) c1
      have q2 : ∀ W, Below w4.heap.size w4 W → W.cell? ⟨w.heap.size, 2, none⟩ = some (.slice ao n cap) := fun W h => old_cell h (World.block_lt_of_cell? _ _ c2) c2
      have T1 : Hid (∀ W, Below w4.heap.size w4 W → Calls Try.prog 11 #[Sv a o (.slice ao n cap)] W fun e w' => ∃ b, e = .returned (Sv a o (.slice (some ⟨b, 0, none⟩) n n)) ∧ SegV w' b 60 n 3 (fun i j => fcell (G i) j) ∧ Below W.heap.size W w') :=
        fun W hW => (toSt_any (H.out.1.later (box_step A4.out.2 (hW) (Nat.le_refl _))) hn2).mono fun e w' ⟨b, h1, h2, _, _, h3⟩ => ⟨b, h1, h2, h3⟩
      have T2 : Hid (∀ (b : Nat) W, Below w4.heap.size w4 W → SegV W b 60 n 3 (fun i j => fcell (G i) j) → Calls Try.prog 13 #[Sv a o (.slice (some ⟨b', 0, none⟩) n n), Sv a o (.slice (some ⟨b, 0, none⟩) n n)] W fun e w' => e = .returned (.bool true) ∧ Below W.heap.size W w') :=
        fun b W hW hs => eqSt_same H.out.2.1 H.out.2.2.1 _ _ _ _ n G W hn2 (A4.out.1.below hW) hs H.out.2.2.2
      have hR0 : Below w4.heap.size w4 w4 := Below.refl _ _
      have AX : Hid (Below w.heap.size w w4) := BX.out.trans (A4.out.2.mono BX.out.size)
      clear e0 e1 e2 c0 c1 c2 H A4 BX
      go_region_held (fun W => Below w4.heap.size w4 W) (first | assumption | exact Below.drew ‹_›)
        (first | (go_at_call 11; refine (T1.out _ (by first | assumption | exact Below.drew ‹_›)).mono ?_; rintro e w5 ⟨b5, rfl, s5, hb5⟩; have hR5 : Below w4.heap.size w4 w5 := (by refine box_step ?_ hb5 (Nat.le_refl _); (first | assumption | exact Below.drew ‹_›))) | (go_at_call 13; refine (T2.out _ _ (by first | assumption | exact Below.drew ‹_›) (by first | assumption | exact SegV.below s5 (by exact (Below.refl _ _).drew))).mono ?_; rintro e w6 ⟨rfl, hb6⟩; have hR6 : Below w4.heap.size w4 w6 := (by refine box_step ?_ hb6 (Nat.le_refl _); (first | assumption | exact Below.drew ‹_›))))
      have A6 : Hid (Below w.heap.size w w6) := AX.out.trans (hR6.mono AX.out.size)
      clear p0 p1 p2 q0 q1 q2 hR0 hR5 hR6 hb5 hb6 s5 T1 T2
      go_wp2
      go_ret
      exact ⟨rfl, A6.out⟩

set_option maxRecDepth 100000 in
theorem lifted (os : Os) (started : os.Started) (H : Type) (enc : TypeId × Value → H) :
    ReturnsInHanded {} Try.checked os 6 .any (Rows.fnExactStackPlateSpec.pre6 enc Try.prog Try.f6 Rows.fnExactStackPlateRow.domain false) (Rows.fnExactStackPlateSpec.post enc Try.prog Try.f6 false true false false) := by
  refine returnsInHanded_of_change (C := Try.checked) own started (by kernel_rfl) Try.func6
    (ChangeSpec.witness6 (enc := enc) (C := Try.checked) false ⟨#[], #[.agg #[.float .f64 0, .float .f64 0, .slice none 0 0], .agg #[.int .i64 0, .float .f64 0, .int .i64 0]], []⟩ 8 (by kernel_rfl) (by kernel_rfl) (by kernel_rfl) (by kernel_rfl)) ?_
  intro W base args ds gs before hval0 hW hcnd _
  have hval : ∀ (j : Nat) t v, Try.f6.params[j]? = some t → args[j]? = some v → Value.okWide Try.prog W .any base t v := hval0
  have hW' := hW
  obtain ⟨p, q, hA0, hV, rfl, hfz, hnd⟩ := hW
  have hA : DataW.TrodAll enc Try.prog W 0 (fun _ => true) true Try.f6.params.toList args.toList ds p := hA0
  rw [Try.params6] at hA hval
  obtain ⟨v0, vs0, d0, ds0, p0, q0, hargs, rfl, rfl, h0, r0⟩ := trodAll_cons hA
  obtain ⟨v1, vs1, d1, ds1, p1, q1, rfl, rfl, rfl, h1, r1⟩ := trodAll_cons r0
  obtain ⟨rfl, rfl, rfl⟩ := trodAll_nil r1
  obtain rfl : args = #[v0, v1] := by cases args; simp_all
  obtain ⟨rfl, rfl⟩ := trodVars_none hV
  have k0 := h0
  have lt0 : ∀ x ∈ p0, x.block < W.heap.size := by obtain ⟨m, hm⟩ := k0; exact DataW.trod_lt m _ _ _ hm
  obtain ⟨a0, b0, c0, n0, G0, rfl, ha0, hb0, R0, nb0, ok0⟩ := open_stack (hval 0 25 v0 rfl rfl) h0
  have k1 := h1
  have lt1 : ∀ x ∈ p1, x.block < W.heap.size := by obtain ⟨m, hm⟩ := k1; exact DataW.trod_lt m _ _ _ hm
  obtain ⟨nm1, sd1, pl1, rfl, z1⟩ := open_light (hval 1 35 v1 rfl rfl) h1
  clear hA0 hval0
  refine (walk ha0 hb0 R0 nb0 ok0 nm1 pl1 z1).mono fun e W' ⟨he, bel⟩ => ?_
  subst he
  exact ⟨_, rfl, _, _, _, [], _, [], hW', trodAll_mk1 (shut_bool Try.underlying4 _), (trodAll_cons_mk (Below.trod laidOut (by kernel_rfl) (of_decide_eq_true (by kernel_rfl)) k0 bel lt0) (trodAll_cons_mk (Below.trod laidOut (by kernel_rfl) (of_decide_eq_true (by kernel_rfl)) k1 bel lt1) trodAll_mk0)), rfl, bel.frame _, fun h => by cases h⟩

theorem over : Rows.fnExactStackPlateRow.holds Try.pinned (OpenSpec.ofChange Rows.fnExactStackPlateSpec) :=
  OpenClaim.holds_of_wide 6 Try.f6 rfl rfl rfl rfl rfl rfl rfl ⟨rfl, rfl, rfl, rfl, rfl⟩ rfl rfl rfl rfl rfl (by kernel_rfl) Try.func6 (by kernel_rfl)
    (of_decide_eq_true (by kernel_rfl)) (by unfold Func.isWrapper; first | (rw [if_pos (by decide +kernel)]; kernel_rfl) | (rw [if_neg (by decide +kernel)]; exact ⟨rfl, rfl⟩))
    (fun os started H enc _ => lifted os started H enc)
end Go.Proofs.Ytnpcldgacdgplaa.LawStackPlate
namespace Go.Proofs.Ytnpcldgacdgplaa
theorem stackPlate_holds : Rows.FnExactStackPlateSaid := LawStackPlate.over
#print axioms stackPlate_holds
end Go.Proofs.Ytnpcldgacdgplaa
