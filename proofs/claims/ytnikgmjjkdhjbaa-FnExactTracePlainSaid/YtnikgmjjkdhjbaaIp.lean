/- Products apart, and two systems joined: the program's way. -/
import Derived.Test.YtnikgmjjkdhjbaaSd
import Derived.Test.YtnikgmjjkdhjbaaIi
namespace Go.Proofs.Ytnikgmjjkdhjbaa
open Go.RowKit
set_option linter.unusedVariables false
set_option linter.unusedSimpArgs false
theorem any4q (a b c d : Q) (w : World) (k : Nat) (h0 : w.cell? ⟨k, 0, none⟩ = some (.int .i64 a.n)) (h1 : w.cell? ⟨k, 1, none⟩ = some (.int .i64 a.d)) (h2 : w.cell? ⟨k, 2, none⟩ = some (.int .i64 b.n)) (h3 : w.cell? ⟨k, 3, none⟩ = some (.int .i64 b.d)) (h4 : w.cell? ⟨k, 4, none⟩ = some (.int .i64 c.n)) (h5 : w.cell? ⟨k, 5, none⟩ = some (.int .i64 c.d)) (h6 : w.cell? ⟨k, 6, none⟩ = some (.int .i64 d.n)) (h7 : w.cell? ⟨k, 7, none⟩ = some (.int .i64 d.d)) :
    Calls Try.prog 82 #[.slice (some ⟨k, 0, none⟩) 4 4] w fun e w' => e = .returned (.bool (!(a.ok && b.ok && c.ok && d.ok))) ∧ Below w.heap.size w w' := any4 ⟨a, b, c, d⟩ w k h0 h1 h2 h3 h4 h5 h6 h7
set_option maxHeartbeats 1600000 in
theorem iap_0 (a b c d : Q) (w : World) (h0 : (a.ok && b.ok && c.ok && d.ok) = false) : Calls Try.prog 80 #[.agg #[.int .i64 a.n, .int .i64 a.d], .agg #[.int .i64 b.n, .int .i64 b.d], .agg #[.int .i64 c.n, .int .i64 c.d], .agg #[.int .i64 d.n, .int .i64 d.d]] w fun e w' => e = .returned (.agg #[.int .i64 1, .int .i64 0, .int .i64 0]) ∧ Below w.heap.size w w' := by
  go_enter Try.func80, Try.ntmps80
  go_wp2_with fail
  refine (any4q a b c d _ _ ?_ ?_ ?_ ?_ ?_ ?_ ?_ ?_).mono ?_
  iterate 8 (· exact cell_new (by simp) rfl)
  rintro e w1 ⟨rfl, hb0⟩
  have hb := box_in hb0
  clear hb0
  have HO : Hid (Below w.heap.size w w1) := by refine box_step ?_ hb (by simp <;> omega); go_grown
  have X0 : Blk w1 (w.heap.size) #[.int .i64 a.n, .int .i64 a.d] 25 := Blk.old ((Blk.alloc (Blk.alloc (Blk.alloc (Blk.alloc (Blk.new (by simp)) _) _) _) _)) hb
  have K0 : Hid (w1.cell? ⟨w.heap.size, 0, none⟩ = some (.int .i64 a.n)) := X0.cell rfl
  have K1 : Hid (w1.cell? ⟨w.heap.size, 1, none⟩ = some (.int .i64 a.d)) := X0.cell rfl
  clear X0
  have X1 : Blk w1 (w.heap.size + 1) #[.int .i64 b.n, .int .i64 b.d] 25 := Blk.old ((Blk.alloc (Blk.alloc (Blk.alloc (Blk.new (by simp)) _) _) _)) hb
  have K2 : Hid (w1.cell? ⟨w.heap.size + 1, 0, none⟩ = some (.int .i64 b.n)) := X1.cell rfl
  have K3 : Hid (w1.cell? ⟨w.heap.size + 1, 1, none⟩ = some (.int .i64 b.d)) := X1.cell rfl
  clear X1
  have X2 : Blk w1 (w.heap.size + 1 + 1) #[.int .i64 c.n, .int .i64 c.d] 25 := Blk.old ((Blk.alloc (Blk.alloc (Blk.new (by simp)) _) _)) hb
  have K4 : Hid (w1.cell? ⟨w.heap.size + 1 + 1, 0, none⟩ = some (.int .i64 c.n)) := X2.cell rfl
  have K5 : Hid (w1.cell? ⟨w.heap.size + 1 + 1, 1, none⟩ = some (.int .i64 c.d)) := X2.cell rfl
  clear X2
  have X3 : Blk w1 (w.heap.size + 1 + 1 + 1) #[.int .i64 d.n, .int .i64 d.d] 25 := Blk.old ((Blk.alloc (Blk.new (by simp)) _)) hb
  have K6 : Hid (w1.cell? ⟨w.heap.size + 1 + 1 + 1, 0, none⟩ = some (.int .i64 d.n)) := X3.cell rfl
  have K7 : Hid (w1.cell? ⟨w.heap.size + 1 + 1 + 1, 1, none⟩ = some (.int .i64 d.d)) := X3.cell rfl
  clear X3
  have RB : Hid (Blk w1 (w.heap.size + 1 + 1 + 1 + 1) #[.int .i64 0, .int .i64 0, .int .i64 0] 60) := Blk.old (Blk.new (by simp)) hb
  clear hb
  have r0 := RB.out.cell (j := 0) rfl
  have r1 := RB.out.cell (j := 1) rfl
  have r2 := RB.out.cell (j := 2) rfl
  have rf := RB.out.frozen
  go_wp2
  refine bodyPost_ret (v := .agg #[.int .i64 1, .int .i64 0, .int .i64 0]) (by simp [results, Try.results80, go_sem, r0, r1, r2, World.cell?_alloc_lt, RB.out.lt] <;> (repeat' (first | rfl | apply And.intro))) rfl ⟨rfl, ?_⟩
  have h := HO.out
  have hlt := RB.out.lt
  have hsz := h.size
  go_grown
set_option maxHeartbeats 1600000 in
theorem iap_1 (a b c d : Q) (w : World) (h0 : (a.ok && b.ok && c.ok && d.ok) = true) : Calls Try.prog 80 #[.agg #[.int .i64 a.n, .int .i64 a.d], .agg #[.int .i64 b.n, .int .i64 b.d], .agg #[.int .i64 c.n, .int .i64 c.d], .agg #[.int .i64 d.n, .int .i64 d.d]] w fun e w' => e = .returned (.agg #[.int .i64 (tC (apK a b c d)), .int .i64 (tQ (apK a b c d) (apQ a b c d)).n, .int .i64 (tQ (apK a b c d) (apQ a b c d)).d]) ∧ Below w.heap.size w w' := by
  go_enter Try.func80, Try.ntmps80
  go_wp2_with fail
  refine (any4q a b c d _ _ ?_ ?_ ?_ ?_ ?_ ?_ ?_ ?_).mono ?_
  iterate 8 (· exact cell_new (by simp) rfl)
  rintro e w1 ⟨rfl, hb0⟩
  have hb := box_in hb0
  clear hb0
  have HO : Hid (Below w.heap.size w w1) := by refine box_step ?_ hb (by simp <;> omega); go_grown
  have X0 : Blk w1 (w.heap.size) #[.int .i64 a.n, .int .i64 a.d] 25 := Blk.old ((Blk.alloc (Blk.alloc (Blk.alloc (Blk.alloc (Blk.new (by simp)) _) _) _) _)) hb
  have K0 : Hid (w1.cell? ⟨w.heap.size, 0, none⟩ = some (.int .i64 a.n)) := X0.cell rfl
  have K1 : Hid (w1.cell? ⟨w.heap.size, 1, none⟩ = some (.int .i64 a.d)) := X0.cell rfl
  clear X0
  have X1 : Blk w1 (w.heap.size + 1) #[.int .i64 b.n, .int .i64 b.d] 25 := Blk.old ((Blk.alloc (Blk.alloc (Blk.alloc (Blk.new (by simp)) _) _) _)) hb
  have K2 : Hid (w1.cell? ⟨w.heap.size + 1, 0, none⟩ = some (.int .i64 b.n)) := X1.cell rfl
  have K3 : Hid (w1.cell? ⟨w.heap.size + 1, 1, none⟩ = some (.int .i64 b.d)) := X1.cell rfl
  clear X1
  have X2 : Blk w1 (w.heap.size + 1 + 1) #[.int .i64 c.n, .int .i64 c.d] 25 := Blk.old ((Blk.alloc (Blk.alloc (Blk.new (by simp)) _) _)) hb
  have K4 : Hid (w1.cell? ⟨w.heap.size + 1 + 1, 0, none⟩ = some (.int .i64 c.n)) := X2.cell rfl
  have K5 : Hid (w1.cell? ⟨w.heap.size + 1 + 1, 1, none⟩ = some (.int .i64 c.d)) := X2.cell rfl
  clear X2
  have X3 : Blk w1 (w.heap.size + 1 + 1 + 1) #[.int .i64 d.n, .int .i64 d.d] 25 := Blk.old ((Blk.alloc (Blk.new (by simp)) _)) hb
  have K6 : Hid (w1.cell? ⟨w.heap.size + 1 + 1 + 1, 0, none⟩ = some (.int .i64 d.n)) := X3.cell rfl
  have K7 : Hid (w1.cell? ⟨w.heap.size + 1 + 1 + 1, 1, none⟩ = some (.int .i64 d.d)) := X3.cell rfl
  clear X3
  have RB : Hid (Blk w1 (w.heap.size + 1 + 1 + 1 + 1) #[.int .i64 0, .int .i64 0, .int .i64 0] 60) := Blk.old (Blk.new (by simp)) hb
  clear hb
  go_upto_region 4 with fail
  obtain ⟨r, hr⟩ : ∃ r, r = w1.heap.size := ⟨_, rfl⟩
  obtain ⟨w2, hY⟩ : ∃ Y, Y = w1.alloc (.cells #[.bool false] 101) := ⟨_, rfl⟩
  rw [← hY, ← hr]
  have FL : Hid (flag r false w2) := by rw [hY, hr]; exact Blk.new rfl
  have hrl : r < w2.heap.size := FL.out.lt
  have hrw : w.heap.size ≤ r := by rw [hr]; exact HO.out.size
  have HO : Hid (Below w.heap.size w w2) := by rw [hY]; exact HO.out.alloc HO.out.size _
  have ne0 : Hid (w.heap.size ≠ r) := by have hh : w.heap.size < w1.heap.size := World.block_lt_of_cell? _ _ K0.out; show w.heap.size ≠ r; omega
  have ne1 : Hid (w.heap.size + 1 ≠ r) := by have hh : w.heap.size + 1 < w1.heap.size := World.block_lt_of_cell? _ _ K2.out; show w.heap.size + 1 ≠ r; omega
  have ne2 : Hid (w.heap.size + 1 + 1 ≠ r) := by have hh : w.heap.size + 1 + 1 < w1.heap.size := World.block_lt_of_cell? _ _ K4.out; show w.heap.size + 1 + 1 ≠ r; omega
  have ne3 : Hid (w.heap.size + 1 + 1 + 1 ≠ r) := by have hh : w.heap.size + 1 + 1 + 1 < w1.heap.size := World.block_lt_of_cell? _ _ K6.out; show w.heap.size + 1 + 1 + 1 ≠ r; omega
  have neR : Hid (w.heap.size + 1 + 1 + 1 + 1 ≠ r) := by have := RB.out.lt; show w.heap.size + 1 + 1 + 1 + 1 ≠ r; omega
  have RB : Hid (Blk w2 (w.heap.size + 1 + 1 + 1 + 1) #[.int .i64 0, .int .i64 0, .int .i64 0] 60) := by rw [hY]; exact Blk.alloc RB.out _
  have K8 : Hid (w2.cell? ⟨w.heap.size, 0, none⟩ = some (.int .i64 a.n)) := by rw [hY]; exact cell_old K0.out
  have K9 : Hid (w2.cell? ⟨w.heap.size, 1, none⟩ = some (.int .i64 a.d)) := by rw [hY]; exact cell_old K1.out
  have K10 : Hid (w2.cell? ⟨w.heap.size + 1, 0, none⟩ = some (.int .i64 b.n)) := by rw [hY]; exact cell_old K2.out
  have K11 : Hid (w2.cell? ⟨w.heap.size + 1, 1, none⟩ = some (.int .i64 b.d)) := by rw [hY]; exact cell_old K3.out
  have K12 : Hid (w2.cell? ⟨w.heap.size + 1 + 1, 0, none⟩ = some (.int .i64 c.n)) := by rw [hY]; exact cell_old K4.out
  have K13 : Hid (w2.cell? ⟨w.heap.size + 1 + 1, 1, none⟩ = some (.int .i64 c.d)) := by rw [hY]; exact cell_old K5.out
  have K14 : Hid (w2.cell? ⟨w.heap.size + 1 + 1 + 1, 0, none⟩ = some (.int .i64 d.n)) := by rw [hY]; exact cell_old K6.out
  have K15 : Hid (w2.cell? ⟨w.heap.size + 1 + 1 + 1, 1, none⟩ = some (.int .i64 d.d)) := by rw [hY]; exact cell_old K7.out
  clear K0 K1 K2 K3 K4 K5 K6 K7 hY hr
  have k0 : ∀ W, But r w2.heap.size w2 W → W.cell? ⟨w.heap.size, 0, none⟩ = some (.int .i64 a.n) := fun _ h => kbut h K8.out ne0.out
  have k1 : ∀ W, But r w2.heap.size w2 W → W.cell? ⟨w.heap.size, 1, none⟩ = some (.int .i64 a.d) := fun _ h => kbut h K9.out ne0.out
  have k2 : ∀ W, But r w2.heap.size w2 W → W.cell? ⟨w.heap.size + 1, 0, none⟩ = some (.int .i64 b.n) := fun _ h => kbut h K10.out ne1.out
  have k3 : ∀ W, But r w2.heap.size w2 W → W.cell? ⟨w.heap.size + 1, 1, none⟩ = some (.int .i64 b.d) := fun _ h => kbut h K11.out ne1.out
  have k4 : ∀ W, But r w2.heap.size w2 W → W.cell? ⟨w.heap.size + 1 + 1, 0, none⟩ = some (.int .i64 c.n) := fun _ h => kbut h K12.out ne2.out
  have k5 : ∀ W, But r w2.heap.size w2 W → W.cell? ⟨w.heap.size + 1 + 1, 1, none⟩ = some (.int .i64 c.d) := fun _ h => kbut h K13.out ne2.out
  have k6 : ∀ W, But r w2.heap.size w2 W → W.cell? ⟨w.heap.size + 1 + 1 + 1, 0, none⟩ = some (.int .i64 d.n) := fun _ h => kbut h K14.out ne3.out
  have k7 : ∀ W, But r w2.heap.size w2 W → W.cell? ⟨w.heap.size + 1 + 1 + 1, 1, none⟩ = some (.int .i64 d.d) := fun _ h => kbut h K15.out ne3.out
  have hR0 : But r w2.heap.size w2 w2 := But.refl _ _ _
  have F0 : flag r (false) w2 := FL.out
  have hn0 : w2.heap.size ≠ r := by omega
  go_wp2_with fail
  go_cut [10] (fun p wx => ∃ k : Nat, p = .pointer (some ⟨k, 0, none⟩) ∧ w2.heap.size ≤ k ∧ k < wx.heap.size ∧ But r w2.heap.size w2 wx ∧ flag r (((false || !mulK a b) || !mulK c d) || !subK (mulQ a b) (mulQ c d)) wx ∧ wx.cell? ⟨k, 0, none⟩ = some (.int .i64 (subQ (mulQ a b) (mulQ c d)).n) ∧ wx.cell? ⟨k, 1, none⟩ = some (.int .i64 (subQ (mulQ a b) (mulQ c d)).d))
  case first =>
    go_region_held3 (fun W => But r w2.heap.size w2 W) ((repeat' (first | (with_reducible exact But.refl _ _ _) | (with_reducible assumption) | (with_reducible refine But.setFlag ?_ _) | (with_reducible refine But.alloc ?_ ?_ _) | (with_reducible refine But.drew ?_) | (with_reducible refine But.setCell ?_ ?_ _) | go_size))) (first | (go_at_call 64; refine Calls.mono (rprod _ _ r _ _ (by (repeat' (first | (with_reducible assumption) | (with_reducible apply flag.set) | (with_reducible apply flag.alloc) | (with_reducible apply flag.drew) | (with_reducible apply flag.setOther) | omega | (simp; omega) | (simp; done))))) ?_; rintro e w1 ⟨rfl, hb1, F1⟩; have hs1 := hb1.size; (try simp at hs1); have hR1 : But r w2.heap.size w2 w1 := (by refine But.call ?_ hb1 (by go_size); (repeat' (first | (with_reducible exact But.refl _ _ _) | (with_reducible assumption) | (with_reducible refine But.setFlag ?_ _) | (with_reducible refine But.alloc ?_ ?_ _) | (with_reducible refine But.drew ?_) | (with_reducible refine But.setCell ?_ ?_ _) | go_size))); have hn1 : w1.heap.size ≠ r := (by have := hR1.size; omega); (first | (have hZ := But.trans hZ (But.mono hb1 hZ.size)) | (have hZ := hb1)); obtain ⟨ho1, hf1, hz1⟩ := oldsB hZ) | (go_at_call 66; refine Calls.mono (rdiff _ _ r _ _ (by (repeat' (first | (with_reducible assumption) | (with_reducible apply flag.set) | (with_reducible apply flag.alloc) | (with_reducible apply flag.drew) | (with_reducible apply flag.setOther) | omega | (simp; omega) | (simp; done))))) ?_; rintro e w1 ⟨rfl, hb1, F1⟩; have hs1 := hb1.size; (try simp at hs1); have hR1 : But r w2.heap.size w2 w1 := (by refine But.call ?_ hb1 (by go_size); (repeat' (first | (with_reducible exact But.refl _ _ _) | (with_reducible assumption) | (with_reducible refine But.setFlag ?_ _) | (with_reducible refine But.alloc ?_ ?_ _) | (with_reducible refine But.drew ?_) | (with_reducible refine But.setCell ?_ ?_ _) | go_size))); have hn1 : w1.heap.size ≠ r := (by have := hR1.size; omega); (first | (have hZ := But.trans hZ (But.mono hb1 hZ.size)) | (have hZ := hb1)); obtain ⟨ho1, hf1, hz1⟩ := oldsB hZ))
    all_goals
      go_wp2_with fail
      go_meet
      case rel =>
        refine ⟨_, rfl, ?_, ?_, ?_, ?_, ?_, ?_⟩
        · omega
        · simp [World.setCell] <;> omega
        · (repeat' (first | (with_reducible exact But.refl _ _ _) | (with_reducible assumption) | (with_reducible refine But.setFlag ?_ _) | (with_reducible refine But.alloc ?_ ?_ _) | (with_reducible refine But.drew ?_) | (with_reducible refine But.setCell ?_ ?_ _) | go_size))
        · (repeat' (first | (with_reducible assumption) | (with_reducible apply flag.set) | (with_reducible apply flag.alloc) | (with_reducible apply flag.drew) | (with_reducible apply flag.setOther) | omega | (simp; omega) | (simp; done)))
        · go_simp
        · go_simp
  case rest =>
    obtain ⟨b3, rfl, hk1, hk2, hB, hF, d0, d1⟩ := hcut
    clear k0 k1 k2 k3 k4 k5 k6 k7 hR0 F0 hn0
    obtain ⟨w3, hv⟩ : ∃ v, v = wc := ⟨_, rfl⟩
    subst hv
    have HO : Hid (Below w.heap.size w w3) := HO.out.trans ((hB.mono HO.out.size).below hrw)
    have RB : Hid (Blk w3 (w.heap.size + 1 + 1 + 1 + 1) #[.int .i64 0, .int .i64 0, .int .i64 0] 60) := Blk.but RB.out hB neR.out
    have FL : Hid (flag r (((false || !mulK a b) || !mulK c d) || !subK (mulQ a b) (mulQ c d)) w3) := hF
    have nb3 : Hid (b3 ≠ r) := by show b3 ≠ r; omega
    have hrl : r < w3.heap.size := FL.out.lt
    have K16 : Hid (w3.cell? ⟨w.heap.size, 0, none⟩ = some (.int .i64 a.n)) := kbut hB K8.out ne0.out
    have K17 : Hid (w3.cell? ⟨w.heap.size, 1, none⟩ = some (.int .i64 a.d)) := kbut hB K9.out ne0.out
    have K18 : Hid (w3.cell? ⟨w.heap.size + 1, 0, none⟩ = some (.int .i64 b.n)) := kbut hB K10.out ne1.out
    have K19 : Hid (w3.cell? ⟨w.heap.size + 1, 1, none⟩ = some (.int .i64 b.d)) := kbut hB K11.out ne1.out
    have K20 : Hid (w3.cell? ⟨w.heap.size + 1 + 1, 0, none⟩ = some (.int .i64 c.n)) := kbut hB K12.out ne2.out
    have K21 : Hid (w3.cell? ⟨w.heap.size + 1 + 1, 1, none⟩ = some (.int .i64 c.d)) := kbut hB K13.out ne2.out
    have K22 : Hid (w3.cell? ⟨w.heap.size + 1 + 1 + 1, 0, none⟩ = some (.int .i64 d.n)) := kbut hB K14.out ne3.out
    have K23 : Hid (w3.cell? ⟨w.heap.size + 1 + 1 + 1, 1, none⟩ = some (.int .i64 d.d)) := kbut hB K15.out ne3.out
    clear K8 K9 K10 K11 K12 K13 K14 K15
    have K24 : Hid (w3.cell? ⟨b3, 0, none⟩ = some (.int .i64 (subQ (mulQ a b) (mulQ c d)).n)) := d0
    have K25 : Hid (w3.cell? ⟨b3, 1, none⟩ = some (.int .i64 (subQ (mulQ a b) (mulQ c d)).d)) := d1
    clear hB hF hk1 hk2 d0 d1
    have hF := FL.out.cell
    rw [ap_flag, Bool.false_or] at hF
    cases hk : apK a b c d
    · rw [hk] at hF
      have r0 := RB.out.cell (j := 0) rfl
      have r1 := RB.out.cell (j := 1) rfl
      have r2 := RB.out.cell (j := 2) rfl
      have rf := RB.out.frozen
      repeat go_step
      refine bodyPost_ret (v := .agg #[.int .i64 3, .int .i64 0, .int .i64 0]) (by simp [results, Try.results80, go_sem, r0, r1, r2, World.cell?_alloc_lt, RB.out.lt] <;> (repeat' (first | rfl | apply And.intro))) rfl ⟨by rw [hk]; rfl, ?_⟩
      have h := HO.out
      have hlt := RB.out.lt
      have hsz := h.size
      go_grown
    · rw [hk] at hF
      have c8 := K24.out
      have c9 := K25.out
      have r0 := RB.out.cell (j := 0) rfl
      have r1 := RB.out.cell (j := 1) rfl
      have r2 := RB.out.cell (j := 2) rfl
      have rf := RB.out.frozen
      repeat go_step
      refine bodyPost_ret (v := .agg #[.int .i64 0, .int .i64 (subQ (mulQ a b) (mulQ c d)).n, .int .i64 (subQ (mulQ a b) (mulQ c d)).d]) (by simp [results, Try.results80, go_sem, r0, r1, r2, World.cell?_alloc_lt, RB.out.lt] <;> (repeat' (first | rfl | apply And.intro))) rfl ⟨by rw [hk, ap_same]; rfl, ?_⟩
      have h := HO.out
      have hlt := RB.out.lt
      have hsz := h.size
      go_grown
theorem iap (a b c d : Q) (w : World) : Calls Try.prog 80 #[.agg #[.int .i64 a.n, .int .i64 a.d], .agg #[.int .i64 b.n, .int .i64 b.d], .agg #[.int .i64 c.n, .int .i64 c.d], .agg #[.int .i64 d.n, .int .i64 d.d]] w fun e w' => e = .returned (.agg #[.int .i64 (apC a b c d), .int .i64 (sel (apC a b c d) (apQ a b c d)).n, .int .i64 (sel (apC a b c d) (apQ a b c d)).d]) ∧ Below w.heap.size w w' := by
  cases h : (a.ok && b.ok && c.ok && d.ok)
  · rw [show apC a b c d = 1 from by unfold apC; rw [h]; rfl]
    exact iap_0 a b c d w h
  · rw [ap_out h, ap_sel]
    exact iap_1 a b c d w h
end Go.Proofs.Ytnikgmjjkdhjbaa
