/- A part's system: both ways. -/
import Derived.Test.YtkkajcdjkfbcgaaJn
import Derived.Test.YtkkajcdjkfbcgaaPu
import Derived.Test.YtkkajcdjkfbcgaaIi
import Derived.Test.YtkkajcdjkfbcgaaTl
import Derived.Handy
namespace Go.Proofs.Ytkkajcdjkfbcgaa
open Go.RowKit
set_option linter.unusedVariables false
set_option linter.unusedSimpArgs false
/-- The system of one part. -/
def partM (k : Int) (x : Q) : Mx := if k = 1 then ⟨one, x, nil, one⟩ else ⟨one, nil, nQ x, one⟩
set_option maxRecDepth 20000 in
set_option maxHeartbeats 1600000 in
theorem spart_g (k : Int) (x : Q) (w : World) (hk : (k == 1) = true) : Calls Try.prog 79 #[.agg #[.int .i64 k, .int .i64 x.n, .int .i64 x.d]] w fun e w' => e = .returned (.agg #[.int .i64 1, .int .i64 1, .int .i64 x.n, .int .i64 x.d, .int .i64 0, .int .i64 1, .int .i64 1, .int .i64 1]) ∧ Below w.heap.size w w' := by
  go_enter Try.func79, Try.ntmps79
  go_upto_region 1 with fail
  obtain ⟨w1, hX⟩ : ∃ X, X = ((w.alloc (.cells #[.int .i64 k, .int .i64 x.n, .int .i64 x.d] 111)).alloc (.cells #[.int .i64 0, .int .i64 0, .int .i64 0, .int .i64 0, .int .i64 0, .int .i64 0, .int .i64 0, .int .i64 0] 44)) := ⟨_, rfl⟩
  rw [← hX]
  have HO : Hid (Below w.heap.size w w1) := by show Below w.heap.size w w1; rw [hX]; go_grown
  have K0 : Hid (w1.cell? ⟨w.heap.size, 0, none⟩ = some (.int .i64 k)) := by show w1.cell? ⟨w.heap.size, 0, none⟩ = some (.int .i64 k); rw [hX]; exact cell_old (cell_new (by simp) rfl)
  have K1 : Hid (w1.cell? ⟨w.heap.size, 1, none⟩ = some (.int .i64 x.n)) := by show w1.cell? ⟨w.heap.size, 1, none⟩ = some (.int .i64 x.n); rw [hX]; exact cell_old (cell_new (by simp) rfl)
  have K2 : Hid (w1.cell? ⟨w.heap.size, 2, none⟩ = some (.int .i64 x.d)) := by show w1.cell? ⟨w.heap.size, 2, none⟩ = some (.int .i64 x.d); rw [hX]; exact cell_old (cell_new (by simp) rfl)
  have RB : Hid (Blk w1 (w.heap.size + 1) #[.int .i64 0, .int .i64 0, .int .i64 0, .int .i64 0, .int .i64 0, .int .i64 0, .int .i64 0, .int .i64 0] 44) := by show Blk w1 (w.heap.size + 1) #[.int .i64 0, .int .i64 0, .int .i64 0, .int .i64 0, .int .i64 0, .int .i64 0, .int .i64 0, .int .i64 0] 44; rw [hX]; exact Blk.new (by simp)
  clear hX
  have hsw : w.heap.size ≤ w1.heap.size := HO.out.size
  go_cut [3] (fun p wx => ∃ k : Nat, p = .pointer (some ⟨k, 0, none⟩) ∧ w1.heap.size ≤ k ∧ k < wx.heap.size ∧ Below w1.heap.size w1 wx ∧ Blk wx k #[.int .i64 1, .int .i64 1, .int .i64 0, .int .i64 1, .int .i64 0, .int .i64 1, .int .i64 1, .int .i64 1] 44)
  case first =>
    go_wp2_with fail
    refine (sone _).mono ?_
    rintro e w1 ⟨rfl, hb⟩
    have hs := hb.size
    go_wp2
    go_meet
    case rel =>
      refine ⟨_, rfl, ?_, ?_, ?_, ?_⟩
      · first | exact hs | omega
      · simp
      · go_grown
      · exact Blk.new (by simp)
  case rest =>
    obtain ⟨b2, rfl, hk1, hk2, hB, hP⟩ := hcut
    obtain ⟨w2, hv⟩ : ∃ v, v = wc := ⟨_, rfl⟩
    subst hv
    have HO : Hid (Below w.heap.size w w2) := box_step HO.out hB (by first | exact Nat.le_refl _ | exact HO.out.size)
    have hne : b2 ≠ w.heap.size + 1 := by have := RB.out.lt; omega
    have hne2 : w.heap.size + 1 ≠ b2 := Ne.symm hne
    have RB : Hid (Blk w2 (w.heap.size + 1) #[.int .i64 0, .int .i64 0, .int .i64 0, .int .i64 0, .int .i64 0, .int .i64 0, .int .i64 0, .int .i64 0] 44) := Blk.old RB.out hB
    have K3 : Hid (w2.cell? ⟨w.heap.size, 0, none⟩ = some (.int .i64 k)) := kold hB (K0.out)
    have K4 : Hid (w2.cell? ⟨w.heap.size, 1, none⟩ = some (.int .i64 x.n)) := kold hB (K1.out)
    have K5 : Hid (w2.cell? ⟨w.heap.size, 2, none⟩ = some (.int .i64 x.d)) := kold hB (K2.out)
    clear K0 K1 K2
    have PB : Hid (Blk w2 b2 #[.int .i64 1, .int .i64 1, .int .i64 0, .int .i64 1, .int .i64 0, .int .i64 1, .int .i64 1, .int .i64 1] 44) := hP
    skip
    clear hB hk2 hP
    have p0 := PB.out.cell (j := 0) rfl
    have p1 := PB.out.cell (j := 1) rfl
    have p2 := PB.out.cell (j := 2) rfl
    have p3 := PB.out.cell (j := 3) rfl
    have p4 := PB.out.cell (j := 4) rfl
    have p5 := PB.out.cell (j := 5) rfl
    have p6 := PB.out.cell (j := 6) rfl
    have p7 := PB.out.cell (j := 7) rfl
    have pf := PB.out.frozen
    have c0 := K3.out
    have c1 := K4.out
    have c2 := K5.out
    have r0 := RB.out.cell (j := 0) rfl
    have r1 := RB.out.cell (j := 1) rfl
    have r2 := RB.out.cell (j := 2) rfl
    have r3 := RB.out.cell (j := 3) rfl
    have r4 := RB.out.cell (j := 4) rfl
    have r5 := RB.out.cell (j := 5) rfl
    have r6 := RB.out.cell (j := 6) rfl
    have r7 := RB.out.cell (j := 7) rfl
    have rf := RB.out.frozen
    have hkw : w.heap.size ≤ b2 := by omega
    repeat go_step
    refine bodyPost_ret (v := .agg #[.int .i64 1, .int .i64 1, .int .i64 x.n, .int .i64 x.d, .int .i64 0, .int .i64 1, .int .i64 1, .int .i64 1]) (by simp [results, Try.results79, go_sem, hne, hne2, r0, r1, r2, r3, r4, r5, r6, r7] <;> (repeat' (first | rfl | apply And.intro))) rfl ⟨rfl, ?_⟩
    have h := HO.out
    go_grown
set_option maxRecDepth 20000 in
set_option maxHeartbeats 1600000 in
theorem spart_p (k : Int) (x : Q) (w : World) (hk : (k == 1) = false) (h1 : -1000000000 ≤ x.n) (h2 : x.n ≤ 1000000000) : Calls Try.prog 79 #[.agg #[.int .i64 k, .int .i64 x.n, .int .i64 x.d]] w fun e w' => e = .returned (.agg #[.int .i64 1, .int .i64 1, .int .i64 0, .int .i64 1, .int .i64 (nQ x).n, .int .i64 (nQ x).d, .int .i64 1, .int .i64 1]) ∧ Below w.heap.size w w' := by
  go_enter Try.func79, Try.ntmps79
  go_upto_region 1 with fail
  obtain ⟨w1, hX⟩ : ∃ X, X = ((w.alloc (.cells #[.int .i64 k, .int .i64 x.n, .int .i64 x.d] 111)).alloc (.cells #[.int .i64 0, .int .i64 0, .int .i64 0, .int .i64 0, .int .i64 0, .int .i64 0, .int .i64 0, .int .i64 0] 44)) := ⟨_, rfl⟩
  rw [← hX]
  have HO : Hid (Below w.heap.size w w1) := by show Below w.heap.size w w1; rw [hX]; go_grown
  have K0 : Hid (w1.cell? ⟨w.heap.size, 0, none⟩ = some (.int .i64 k)) := by show w1.cell? ⟨w.heap.size, 0, none⟩ = some (.int .i64 k); rw [hX]; exact cell_old (cell_new (by simp) rfl)
  have K1 : Hid (w1.cell? ⟨w.heap.size, 1, none⟩ = some (.int .i64 x.n)) := by show w1.cell? ⟨w.heap.size, 1, none⟩ = some (.int .i64 x.n); rw [hX]; exact cell_old (cell_new (by simp) rfl)
  have K2 : Hid (w1.cell? ⟨w.heap.size, 2, none⟩ = some (.int .i64 x.d)) := by show w1.cell? ⟨w.heap.size, 2, none⟩ = some (.int .i64 x.d); rw [hX]; exact cell_old (cell_new (by simp) rfl)
  have RB : Hid (Blk w1 (w.heap.size + 1) #[.int .i64 0, .int .i64 0, .int .i64 0, .int .i64 0, .int .i64 0, .int .i64 0, .int .i64 0, .int .i64 0] 44) := by show Blk w1 (w.heap.size + 1) #[.int .i64 0, .int .i64 0, .int .i64 0, .int .i64 0, .int .i64 0, .int .i64 0, .int .i64 0, .int .i64 0] 44; rw [hX]; exact Blk.new (by simp)
  clear hX
  have hsw : w.heap.size ≤ w1.heap.size := HO.out.size
  go_cut [3] (fun p wx => ∃ k : Nat, p = .pointer (some ⟨k, 0, none⟩) ∧ w1.heap.size ≤ k ∧ k < wx.heap.size ∧ Below w1.heap.size w1 wx ∧ Blk wx k #[.int .i64 1, .int .i64 1, .int .i64 0, .int .i64 1, .int .i64 0, .int .i64 1, .int .i64 1, .int .i64 1] 44)
  case first =>
    go_wp2_with fail
    refine (sone _).mono ?_
    rintro e w1 ⟨rfl, hb⟩
    have hs := hb.size
    go_wp2
    go_meet
    case rel =>
      refine ⟨_, rfl, ?_, ?_, ?_, ?_⟩
      · first | exact hs | omega
      · simp
      · go_grown
      · exact Blk.new (by simp)
  case rest =>
    obtain ⟨b2, rfl, hk1, hk2, hB, hP⟩ := hcut
    obtain ⟨w2, hv⟩ : ∃ v, v = wc := ⟨_, rfl⟩
    subst hv
    have HO : Hid (Below w.heap.size w w2) := box_step HO.out hB (by first | exact Nat.le_refl _ | exact HO.out.size)
    have hne : b2 ≠ w.heap.size + 1 := by have := RB.out.lt; omega
    have hne2 : w.heap.size + 1 ≠ b2 := Ne.symm hne
    have RB : Hid (Blk w2 (w.heap.size + 1) #[.int .i64 0, .int .i64 0, .int .i64 0, .int .i64 0, .int .i64 0, .int .i64 0, .int .i64 0, .int .i64 0] 44) := Blk.old RB.out hB
    have K3 : Hid (w2.cell? ⟨w.heap.size, 0, none⟩ = some (.int .i64 k)) := kold hB (K0.out)
    have K4 : Hid (w2.cell? ⟨w.heap.size, 1, none⟩ = some (.int .i64 x.n)) := kold hB (K1.out)
    have K5 : Hid (w2.cell? ⟨w.heap.size, 2, none⟩ = some (.int .i64 x.d)) := kold hB (K2.out)
    clear K0 K1 K2
    have PB : Hid (Blk w2 b2 #[.int .i64 1, .int .i64 1, .int .i64 0, .int .i64 1, .int .i64 0, .int .i64 1, .int .i64 1, .int .i64 1] 44) := hP
    skip
    clear hB hk2 hP
    have c0 := K3.out
    have c1 := K4.out
    have c2 := K5.out
    have r0 := RB.out.cell (j := 0) rfl
    have r1 := RB.out.cell (j := 1) rfl
    have r2 := RB.out.cell (j := 2) rfl
    have r3 := RB.out.cell (j := 3) rfl
    have r4 := RB.out.cell (j := 4) rfl
    have r5 := RB.out.cell (j := 5) rfl
    have r6 := RB.out.cell (j := 6) rfl
    have r7 := RB.out.cell (j := 7) rfl
    have rf := RB.out.frozen
    go_wp2_with fail
    clear c0 c1 c2 r0 r1 r2 r3 r4 r5 r6 r7 rf
    refine (sneg x _ h1 h2).mono ?_
    rintro e w3 ⟨rfl, hb⟩
    have PB : Hid (Blk w3 b2 #[.int .i64 1, .int .i64 1, .int .i64 0, .int .i64 1, .int .i64 0, .int .i64 1, .int .i64 1, .int .i64 1] 44) := Blk.old PB.out hb
    have RB : Hid (Blk w3 (w.heap.size + 1) #[.int .i64 0, .int .i64 0, .int .i64 0, .int .i64 0, .int .i64 0, .int .i64 0, .int .i64 0, .int .i64 0] 44) := Blk.old RB.out hb
    have HO : Hid (Below w.heap.size w w3) := box_step HO.out hb (by first | exact Nat.le_refl _ | exact HO.out.size)
    clear hb
    have p0 := PB.out.cell (j := 0) rfl
    have p1 := PB.out.cell (j := 1) rfl
    have p2 := PB.out.cell (j := 2) rfl
    have p3 := PB.out.cell (j := 3) rfl
    have p4 := PB.out.cell (j := 4) rfl
    have p5 := PB.out.cell (j := 5) rfl
    have p6 := PB.out.cell (j := 6) rfl
    have p7 := PB.out.cell (j := 7) rfl
    have pf := PB.out.frozen
    have r0 := RB.out.cell (j := 0) rfl
    have r1 := RB.out.cell (j := 1) rfl
    have r2 := RB.out.cell (j := 2) rfl
    have r3 := RB.out.cell (j := 3) rfl
    have r4 := RB.out.cell (j := 4) rfl
    have r5 := RB.out.cell (j := 5) rfl
    have r6 := RB.out.cell (j := 6) rfl
    have r7 := RB.out.cell (j := 7) rfl
    have rf := RB.out.frozen
    have hkw : w.heap.size ≤ b2 := by omega
    go_wp2
    refine bodyPost_ret (v := .agg #[.int .i64 1, .int .i64 1, .int .i64 0, .int .i64 1, .int .i64 (nQ x).n, .int .i64 (nQ x).d, .int .i64 1, .int .i64 1]) (by simp [results, Try.results79, go_sem, hne, hne2, r0, r1, r2, r3, r4, r5, r6, r7] <;> (repeat' (first | rfl | apply And.intro))) rfl ⟨rfl, ?_⟩
    have h := HO.out
    go_grown
end Go.Proofs.Ytkkajcdjkfbcgaa
