/- A list of parts: their system, as the program reckons it. -/
import Derived.Test.YtnikgmjjkdhjbaaMr
import Derived.Test.YtnikgmjjkdhjbaaIv
namespace Go.Proofs.Ytnikgmjjkdhjbaa
open Go.RowKit
set_option linter.unusedVariables false
set_option linter.unusedSimpArgs false
theorem igapM (p : Pt) (hk : p.k = 1) (w : World) : Calls Try.prog 128 #[.agg #[.int .i64 p.x.n, .int .i64 p.x.d]] w fun e w' => e = .returned (.agg #[.int .i64 (pM p).A.n, .int .i64 (pM p).A.d, .int .i64 (pM p).B.n, .int .i64 (pM p).B.d, .int .i64 (pM p).C.n, .int .i64 (pM p).C.d, .int .i64 (pM p).D.n, .int .i64 (pM p).D.d]) ∧ Below w.heap.size w w' := by
  rw [show pM p = ⟨one, p.x, nil, one⟩ from if_pos hk]
  exact igap_g p.x w
theorem ipowM (p : Pt) (hk : ¬ p.k = 1) (h : p.ok = true) (w : World) : Calls Try.prog 130 #[.agg #[.int .i64 p.x.n, .int .i64 p.x.d]] w fun e w' => e = .returned (.agg #[.int .i64 (pM p).A.n, .int .i64 (pM p).A.d, .int .i64 (pM p).B.n, .int .i64 (pM p).B.d, .int .i64 (pM p).C.n, .int .i64 (pM p).C.d, .int .i64 (pM p).D.n, .int .i64 (pM p).D.d]) ∧ Below w.heap.size w w' := by
  have hb := ok_bd (pt_x h)
  rw [show pM p = ⟨one, nil, nQ p.x, one⟩ from if_neg hk]
  exact ipow_p p.x w hb.1 hb.2
set_option maxRecDepth 20000 in
set_option maxHeartbeats 400000 in
theorem imatrix_0 (b off n cap : Nat) (G : Nat → Pt) (w : World) (hn : n ≤ 1000000000) (hc : RdP w b off n G) (h : ¬ lC G n = 0) :
    Calls Try.prog 24 #[.slice (some ⟨b, off, none⟩) n cap] w fun e w' => e = .returned (.agg #[.int .i64 (lC G n), .int .i64 0, .int .i64 0, .int .i64 0, .int .i64 0, .int .i64 0, .int .i64 0, .int .i64 0, .int .i64 0]) ∧ Below w.heap.size w w' := by
  have q : (lC G n != 0) = true := by simpa using h
  go_enter Try.func24, Try.ntmps24
  go_wp2_with fail
  refine (iparts b off n cap G _ hn (hc.old (below_of_alloc rfl))).mono ?_
  rintro e w1 ⟨rfl, hb⟩
  have RB : Hid (Blk w1 w.heap.size #[.int .i64 0, .int .i64 0, .int .i64 0, .int .i64 0, .int .i64 0, .int .i64 0, .int .i64 0, .int .i64 0, .int .i64 0] 37) := Blk.old (Blk.new rfl) hb
  have HO : Hid (Below w.heap.size w w1) := by refine box_step ?_ hb (by go_size); go_grown
  clear hb hc
  have r0 := RB.out.cell (j := 0) rfl
  have r1 := RB.out.cell (j := 1) rfl
  have r2 := RB.out.cell (j := 2) rfl
  have r3 := RB.out.cell (j := 3) rfl
  have r4 := RB.out.cell (j := 4) rfl
  have r5 := RB.out.cell (j := 5) rfl
  have r6 := RB.out.cell (j := 6) rfl
  have r7 := RB.out.cell (j := 7) rfl
  have r8 := RB.out.cell (j := 8) rfl
  have rf := RB.out.frozen
  go_wp2
  refine bodyPost_ret (v := .agg #[.int .i64 (lC G n), .int .i64 0, .int .i64 0, .int .i64 0, .int .i64 0, .int .i64 0, .int .i64 0, .int .i64 0, .int .i64 0]) (by simp [results, Try.results24, go_sem, r0, r1, r2, r3, r4, r5, r6, r7, r8] <;> (repeat' (first | rfl | apply And.intro))) rfl ⟨rfl, ?_⟩
  have h := HO.out
  go_grown
set_option maxRecDepth 20000 in
set_option maxHeartbeats 12800000 in
theorem imatrix_1 (b off n cap : Nat) (G : Nat → Pt) (w : World) (hn : n ≤ 1000000000) (hc : RdP w b off n G) (h : lC G n = 0) (hall : allP G n = true) :
    Calls Try.prog 24 #[.slice (some ⟨b, off, none⟩) n cap] w fun e w' => e = .returned (.agg #[.int .i64 (moS G n).1, .int .i64 (moS G n).2.A.n, .int .i64 (moS G n).2.A.d, .int .i64 (moS G n).2.B.n, .int .i64 (moS G n).2.B.d, .int .i64 (moS G n).2.C.n, .int .i64 (moS G n).2.C.d, .int .i64 (moS G n).2.D.n, .int .i64 (moS G n).2.D.d]) ∧ Below w.heap.size w w' := by
  have q : (lC G n != 0) = false := by simpa using h
  go_enter Try.func24, Try.ntmps24
  go_wp2_with fail
  refine (iparts b off n cap G _ hn (hc.old (below_of_alloc rfl))).mono ?_
  rintro e w1 ⟨rfl, hb⟩
  have RB : Hid (Blk w1 w.heap.size #[.int .i64 0, .int .i64 0, .int .i64 0, .int .i64 0, .int .i64 0, .int .i64 0, .int .i64 0, .int .i64 0, .int .i64 0] 37) := Blk.old (Blk.new rfl) hb
  have HO : Hid (Below w.heap.size w w1) := by refine box_step ?_ hb (by go_size); go_grown
  have HC : Hid (RdP w1 b off n G) := (hc.old (below_of_alloc rfl)).old hb
  clear hb hc
  go_wp2_with fail
  refine (istraight _).mono ?_
  rintro e w2 ⟨rfl, hb⟩
  have RB : Hid (Blk w2 w.heap.size #[.int .i64 0, .int .i64 0, .int .i64 0, .int .i64 0, .int .i64 0, .int .i64 0, .int .i64 0, .int .i64 0, .int .i64 0] 37) := Blk.old RB.out hb
  have HO : Hid (Below w.heap.size w w2) := box_step HO.out hb (by first | exact Nat.le_refl _ | exact HO.out.size)
  have HC : Hid (RdP w2 b off n G) := HC.out.old hb
  clear hb q
  go_wp2_with fail
  go_loopw [17] (fun i wr => ∃ k : Nat, k ≤ n ∧ i = .int .i64 k ∧ Below w2.heap.size w2 wr ∧ Blk wr w2.heap.size #[.int .i64 (moS G k).1, .int .i64 (moS G k).2.A.n, .int .i64 (moS G k).2.A.d, .int .i64 (moS G k).2.B.n, .int .i64 (moS G k).2.B.d, .int .i64 (moS G k).2.C.n, .int .i64 (moS G k).2.C.d, .int .i64 (moS G k).2.D.n, .int .i64 (moS G k).2.D.d] 37 ∧ (moS G k).1 = 0) (fun i _ => n - (intOf i).toNat)
  case atStart => exact ⟨0, Nat.zero_le _, rfl, (Below.refl _ _).alloc (Nat.le_refl _) _, Blk.new rfl, rfl⟩
  case round =>
    obtain ⟨k, hk, rfl, hB, hP, hz⟩ := hrel
    have HB : Hid (Below w2.heap.size w2 wr) := hB
    have HP : Hid (Blk wr w2.heap.size #[.int .i64 (moS G k).1, .int .i64 (moS G k).2.A.n, .int .i64 (moS G k).2.A.d, .int .i64 (moS G k).2.B.n, .int .i64 (moS G k).2.B.d, .int .i64 (moS G k).2.C.n, .int .i64 (moS G k).2.C.d, .int .i64 (moS G k).2.D.n, .int .i64 (moS G k).2.D.d] 37) := hP
    have hne : w.heap.size ≠ w2.heap.size := by have := RB.out.lt; omega
    clear hP hB
    by_cases hkn : k < n
    · have hok := allP_at hall hkn
      obtain ⟨g0, g1, g2⟩ := (HC.out.old HB.out) k hkn
      go_upto_region 8 with fail
      obtain ⟨Y, hY⟩ : ∃ Y, Y = wr.alloc (.cells #[.int .i64 (G k).k, .int .i64 (G k).x.n, .int .i64 (G k).x.d] 34) := ⟨_, rfl⟩
      rw [← hY]
      have hYb : Below wr.heap.size wr Y := below_of_alloc hY
      have HPY : Hid (Blk Y w2.heap.size #[.int .i64 (moS G k).1, .int .i64 (moS G k).2.A.n, .int .i64 (moS G k).2.A.d, .int .i64 (moS G k).2.B.n, .int .i64 (moS G k).2.B.d, .int .i64 (moS G k).2.C.n, .int .i64 (moS G k).2.C.d, .int .i64 (moS G k).2.D.n, .int .i64 (moS G k).2.D.d] 37) := Blk.old HP.out hYb
      have RBY : Hid (Blk Y w.heap.size #[.int .i64 0, .int .i64 0, .int .i64 0, .int .i64 0, .int .i64 0, .int .i64 0, .int .i64 0, .int .i64 0, .int .i64 0] 37) := Blk.old (Blk.old RB.out HB.out) hYb
      have HBY : Hid (Below w2.heap.size w2 Y) := HB.out.trans (hYb.mono (Nat.le_of_lt HP.out.lt))
      have bx : Blk Y wr.heap.size #[.int .i64 (G k).k, .int .i64 (G k).x.n, .int .i64 (G k).x.d] 34 := by rw [hY]; exact Blk.new rfl
      have hlt : w2.heap.size < Y.heap.size := HPY.out.lt
      have l0 : ∀ W, Below Y.heap.size Y W → W.cell? ⟨wr.heap.size, 0, none⟩ = some (.int .i64 (G k).k) := fun _ h => (Blk.old bx h).cell rfl
      have l1 : ∀ W, Below Y.heap.size Y W → W.cell? ⟨wr.heap.size, 1, none⟩ = some (.int .i64 (G k).x.n) := fun _ h => (Blk.old bx h).cell rfl
      have l2 : ∀ W, Below Y.heap.size Y W → W.cell? ⟨wr.heap.size, 2, none⟩ = some (.int .i64 (G k).x.d) := fun _ h => (Blk.old bx h).cell rfl
      have m0 : ∀ W, Below Y.heap.size Y W → W.cell? ⟨w2.heap.size, 0, none⟩ = some (.int .i64 (moS G k).1) := fun _ h => (Blk.old HPY.out h).cell rfl
      have m1 : ∀ W, Below Y.heap.size Y W → W.cell? ⟨w2.heap.size, 1, none⟩ = some (.int .i64 (moS G k).2.A.n) := fun _ h => (Blk.old HPY.out h).cell rfl
      have m2 : ∀ W, Below Y.heap.size Y W → W.cell? ⟨w2.heap.size, 2, none⟩ = some (.int .i64 (moS G k).2.A.d) := fun _ h => (Blk.old HPY.out h).cell rfl
      have m3 : ∀ W, Below Y.heap.size Y W → W.cell? ⟨w2.heap.size, 3, none⟩ = some (.int .i64 (moS G k).2.B.n) := fun _ h => (Blk.old HPY.out h).cell rfl
      have m4 : ∀ W, Below Y.heap.size Y W → W.cell? ⟨w2.heap.size, 4, none⟩ = some (.int .i64 (moS G k).2.B.d) := fun _ h => (Blk.old HPY.out h).cell rfl
      have m5 : ∀ W, Below Y.heap.size Y W → W.cell? ⟨w2.heap.size, 5, none⟩ = some (.int .i64 (moS G k).2.C.n) := fun _ h => (Blk.old HPY.out h).cell rfl
      have m6 : ∀ W, Below Y.heap.size Y W → W.cell? ⟨w2.heap.size, 6, none⟩ = some (.int .i64 (moS G k).2.C.d) := fun _ h => (Blk.old HPY.out h).cell rfl
      have m7 : ∀ W, Below Y.heap.size Y W → W.cell? ⟨w2.heap.size, 7, none⟩ = some (.int .i64 (moS G k).2.D.n) := fun _ h => (Blk.old HPY.out h).cell rfl
      have m8 : ∀ W, Below Y.heap.size Y W → W.cell? ⟨w2.heap.size, 8, none⟩ = some (.int .i64 (moS G k).2.D.d) := fun _ h => (Blk.old HPY.out h).cell rfl
      have gf : ∀ W j, Below Y.heap.size Y W → W.frozen? ⟨w2.heap.size, j, none⟩ = false := fun _ j h => (Blk.old HPY.out h).frozen j
      have hQ0 : Below Y.heap.size Y Y.drew := (Below.refl _ _).drew
      clear g0 g1 g2 bx hY hYb
      go_cut [17] from 17 to 31 (fun p wx => p = .int .i64 k ∧ Below w2.heap.size w2 wx ∧ Blk wx w2.heap.size #[.int .i64 (jC (moS G k).2 (pM (G k))), .int .i64 (sel (jC (moS G k).2 (pM (G k))) (jQA (moS G k).2 (pM (G k)))).n, .int .i64 (sel (jC (moS G k).2 (pM (G k))) (jQA (moS G k).2 (pM (G k)))).d, .int .i64 (sel (jC (moS G k).2 (pM (G k))) (jQB (moS G k).2 (pM (G k)))).n, .int .i64 (sel (jC (moS G k).2 (pM (G k))) (jQB (moS G k).2 (pM (G k)))).d, .int .i64 (sel (jC (moS G k).2 (pM (G k))) (jQC (moS G k).2 (pM (G k)))).n, .int .i64 (sel (jC (moS G k).2 (pM (G k))) (jQC (moS G k).2 (pM (G k)))).d, .int .i64 (sel (jC (moS G k).2 (pM (G k))) (jQD (moS G k).2 (pM (G k)))).n, .int .i64 (sel (jC (moS G k).2 (pM (G k))) (jQD (moS G k).2 (pM (G k)))).d] 37)
      case first =>
        by_cases hg : (G k).k = 1
        ·
          have HGB : Hid (((G k).k == 1) = true) := by show ((G k).k == 1) = _; simpa using hg
          have HGG : Hid (_) := hg
          clear hg
          have hnil := nil_gap
          have hmeth := mrun_gap
          refine letA ?_
          intro a0 ha0
          have e4 : a0.tmps[4]?.getD undef = .pointer (some ⟨w2.heap.size, 0, none⟩) := by rw [ha0]; rfl
          have e6 : a0.tmps[6]?.getD undef = .pointer (some ⟨wr.heap.size, 0, none⟩) := by rw [ha0]; rfl
          have hsz : a0.tmps.size = 33 := by rw [ha0]; rfl
          replace ha0 : Hid (a0 = _) := ha0
          obtain ⟨LL, hLL⟩ : ∃ LL : List Lay, LL = [⟨0, 21, .pointer (some ⟨w2.heap.size, 1, none⟩)⟩, ⟨1, 22, .agg #[.int .i64 (moS G k).2.A.n, .int .i64 (moS G k).2.A.d, .int .i64 (moS G k).2.B.n, .int .i64 (moS G k).2.B.d, .int .i64 (moS G k).2.C.n, .int .i64 (moS G k).2.C.d, .int .i64 (moS G k).2.D.n, .int .i64 (moS G k).2.D.d]⟩, ⟨2, 23, .agg #[.int .i64 (G k).k, .int .i64 (G k).x.n, .int .i64 (G k).x.d]⟩, ⟨3, 24, .iface 136 (.agg #[.int .i64 (G k).x.n, .int .i64 (G k).x.d])⟩, ⟨4, 25, .agg #[.int .i64 (pM (G k)).A.n, .int .i64 (pM (G k)).A.d, .int .i64 (pM (G k)).B.n, .int .i64 (pM (G k)).B.d, .int .i64 (pM (G k)).C.n, .int .i64 (pM (G k)).C.d, .int .i64 (pM (G k)).D.n, .int .i64 (pM (G k)).D.d]⟩, ⟨5, 26, .agg #[.int .i64 (jC (moS G k).2 (pM (G k))), .int .i64 (sel (jC (moS G k).2 (pM (G k))) (jQA (moS G k).2 (pM (G k)))).n, .int .i64 (sel (jC (moS G k).2 (pM (G k))) (jQA (moS G k).2 (pM (G k)))).d, .int .i64 (sel (jC (moS G k).2 (pM (G k))) (jQB (moS G k).2 (pM (G k)))).n, .int .i64 (sel (jC (moS G k).2 (pM (G k))) (jQB (moS G k).2 (pM (G k)))).d, .int .i64 (sel (jC (moS G k).2 (pM (G k))) (jQC (moS G k).2 (pM (G k)))).n, .int .i64 (sel (jC (moS G k).2 (pM (G k))) (jQC (moS G k).2 (pM (G k)))).d, .int .i64 (sel (jC (moS G k).2 (pM (G k))) (jQD (moS G k).2 (pM (G k)))).n, .int .i64 (sel (jC (moS G k).2 (pM (G k))) (jQD (moS G k).2 (pM (G k)))).d]⟩] := ⟨_, rfl⟩
          have hpw : LL.Pairwise (fun x y => x.d ≠ y.d ∧ x.i ≠ y.i) := by rw [hLL]; simp
          have y0 : (⟨0, 21, .pointer (some ⟨w2.heap.size, 1, none⟩)⟩ : Lay) ∈ LL := by rw [hLL]; simp
          have y1 : (⟨1, 22, .agg #[.int .i64 (moS G k).2.A.n, .int .i64 (moS G k).2.A.d, .int .i64 (moS G k).2.B.n, .int .i64 (moS G k).2.B.d, .int .i64 (moS G k).2.C.n, .int .i64 (moS G k).2.C.d, .int .i64 (moS G k).2.D.n, .int .i64 (moS G k).2.D.d]⟩ : Lay) ∈ LL := by rw [hLL]; simp
          have y2 : (⟨2, 23, .agg #[.int .i64 (G k).k, .int .i64 (G k).x.n, .int .i64 (G k).x.d]⟩ : Lay) ∈ LL := by rw [hLL]; simp
          have y3 : (⟨3, 24, .iface 136 (.agg #[.int .i64 (G k).x.n, .int .i64 (G k).x.d])⟩ : Lay) ∈ LL := by rw [hLL]; simp
          have y4 : (⟨4, 25, .agg #[.int .i64 (pM (G k)).A.n, .int .i64 (pM (G k)).A.d, .int .i64 (pM (G k)).B.n, .int .i64 (pM (G k)).B.d, .int .i64 (pM (G k)).C.n, .int .i64 (pM (G k)).C.d, .int .i64 (pM (G k)).D.n, .int .i64 (pM (G k)).D.d]⟩ : Lay) ∈ LL := by rw [hLL]; simp
          have y5 : (⟨5, 26, .agg #[.int .i64 (jC (moS G k).2 (pM (G k))), .int .i64 (sel (jC (moS G k).2 (pM (G k))) (jQA (moS G k).2 (pM (G k)))).n, .int .i64 (sel (jC (moS G k).2 (pM (G k))) (jQA (moS G k).2 (pM (G k)))).d, .int .i64 (sel (jC (moS G k).2 (pM (G k))) (jQB (moS G k).2 (pM (G k)))).n, .int .i64 (sel (jC (moS G k).2 (pM (G k))) (jQB (moS G k).2 (pM (G k)))).d, .int .i64 (sel (jC (moS G k).2 (pM (G k))) (jQC (moS G k).2 (pM (G k)))).n, .int .i64 (sel (jC (moS G k).2 (pM (G k))) (jQC (moS G k).2 (pM (G k)))).d, .int .i64 (sel (jC (moS G k).2 (pM (G k))) (jQD (moS G k).2 (pM (G k)))).n, .int .i64 (sel (jC (moS G k).2 (pM (G k))) (jQD (moS G k).2 (pM (G k)))).d]⟩ : Lay) ∈ LL := by rw [hLL]; simp
          have n4 : ∀ x ∈ LL, x.d ≠ 4 := by rw [hLL]; simp
          have n6 : ∀ x ∈ LL, x.d ≠ 6 := by rw [hLL]; simp
          replace hLL : Hid (LL = _) := hLL
          refine wp_region_inv (by kernel_rfl) (fun ls a W => a = fillA a0 ls LL ∧ (ls.getD 6 false = false → Below Y.heap.size Y W) ∧ (ls.getD 6 false = true → Below w2.heap.size w2 W ∧ Blk W w2.heap.size #[.int .i64 (jC (moS G k).2 (pM (G k))), .int .i64 (sel (jC (moS G k).2 (pM (G k))) (jQA (moS G k).2 (pM (G k)))).n, .int .i64 (sel (jC (moS G k).2 (pM (G k))) (jQA (moS G k).2 (pM (G k)))).d, .int .i64 (sel (jC (moS G k).2 (pM (G k))) (jQB (moS G k).2 (pM (G k)))).n, .int .i64 (sel (jC (moS G k).2 (pM (G k))) (jQB (moS G k).2 (pM (G k)))).d, .int .i64 (sel (jC (moS G k).2 (pM (G k))) (jQC (moS G k).2 (pM (G k)))).n, .int .i64 (sel (jC (moS G k).2 (pM (G k))) (jQC (moS G k).2 (pM (G k)))).d, .int .i64 (sel (jC (moS G k).2 (pM (G k))) (jQD (moS G k).2 (pM (G k)))).n, .int .i64 (sel (jC (moS G k).2 (pM (G k))) (jQD (moS G k).2 (pM (G k)))).d] 37) ∧ (ls.getD 6 false = true → ∀ i, i < 6 → ls.getD i false = true)) (ahead_of (by decide +kernel)) ?_ ?_ ?_
          · exact ⟨fill_none.symm, fun _ => hQ0, fun h => absurd h (by rw [getD_none]; simp), fun h => absurd h (by rw [getD_none]; simp)⟩
          · intro ls a W i hs hI hi
            obtain ⟨rfl, hW0, hW1, hl⟩ := hI
            obtain ⟨hun, oi, hoi, hdep⟩ := mem_ready.1 hi
            have hlt7 : i < 7 := by have := (Array.getElem?_eq_some_iff.1 hoi).1; simpa using this
            have hls : ls.size = 7 := by rw [hs]; rfl
            clear hi hs
            rcases (show i = 0 ∨ i = 1 ∨ i = 2 ∨ i = 3 ∨ i = 4 ∨ i = 5 ∨ i = 6 by omega) with rfl | rfl | rfl | rfl | rfl | rfl | rfl
            · skip
              have hu := un_of (show 0 < ls.size by omega) hun
              simp at hoi
              subst hoi
              have hf : ls.getD 6 false = false := by
                cases hc : ls.getD 6 false with
                | false => rfl
                | true => exact absurd (hl hc 0 (by omega)) (by rw [hu]; simp)
              have HW : Below Y.heap.size Y W := hW0 hf
              have x4 := fill_otherT (listed := ls) n4 e4
              clear hdep hl hW0 hW1
              generalize hA : fillA a0 ls LL = af at *
              refine wpOp_intro rfl rfl fun K' hK => ?_
              go_simp
              refine hK _ _ ⟨?_, ?_, ?_, ?_⟩
              · rw [← hA]; exact fill_put (by omega) hu hpw y0
              · intro _; exact HW
              · intro h; rw [getD_set_ne false (by decide), hf] at h; cases h
              · intro h; rw [getD_set_ne false (by decide), hf] at h; cases h
            · skip
              have hu := un_of (show 1 < ls.size by omega) hun
              simp at hoi
              subst hoi
              have hf : ls.getD 6 false = false := by
                cases hc : ls.getD 6 false with
                | false => rfl
                | true => exact absurd (hl hc 1 (by omega)) (by rw [hu]; simp)
              have HW : Below Y.heap.size Y W := hW0 hf
              have d21 : ls.getD 0 false = true := hdep ⟨0, .data⟩ (by simp) (by decide)
              have x21 := fill_evalT (a0 := a0) (listed := ls) hpw y0 d21 (by rw [hsz]; decide)
              have c1 := m1 W HW
              have c2 := m2 W HW
              have c3 := m3 W HW
              have c4 := m4 W HW
              have c5 := m5 W HW
              have c6 := m6 W HW
              have c7 := m7 W HW
              have c8 := m8 W HW
              clear hdep hl hW0 hW1
              generalize hA : fillA a0 ls LL = af at *
              refine wpOp_intro rfl rfl fun K' hK => ?_
              go_simp
              refine hK _ _ ⟨?_, ?_, ?_, ?_⟩
              · rw [← hA]; exact fill_put (by omega) hu hpw y1
              · intro _; exact HW
              · intro h; rw [getD_set_ne false (by decide), hf] at h; cases h
              · intro h; rw [getD_set_ne false (by decide), hf] at h; cases h
            · skip
              have hu := un_of (show 2 < ls.size by omega) hun
              simp at hoi
              subst hoi
              have hf : ls.getD 6 false = false := by
                cases hc : ls.getD 6 false with
                | false => rfl
                | true => exact absurd (hl hc 2 (by omega)) (by rw [hu]; simp)
              have HW : Below Y.heap.size Y W := hW0 hf
              have x6 := fill_otherT (listed := ls) n6 e6
              have c0 := l0 W HW
              have c1 := l1 W HW
              have c2 := l2 W HW
              clear hdep hl hW0 hW1
              generalize hA : fillA a0 ls LL = af at *
              refine wpOp_intro rfl rfl fun K' hK => ?_
              go_simp
              refine hK _ _ ⟨?_, ?_, ?_, ?_⟩
              · rw [← hA]; exact fill_put (by omega) hu hpw y2
              · intro _; exact HW
              · intro h; rw [getD_set_ne false (by decide), hf] at h; cases h
              · intro h; rw [getD_set_ne false (by decide), hf] at h; cases h
            · skip
              have hu := un_of (show 3 < ls.size by omega) hun
              simp at hoi
              subst hoi
              have hf : ls.getD 6 false = false := by
                cases hc : ls.getD 6 false with
                | false => rfl
                | true => exact absurd (hl hc 3 (by omega)) (by rw [hu]; simp)
              have HW : Below Y.heap.size Y W := hW0 hf
              have d23 : ls.getD 2 false = true := hdep ⟨2, .data⟩ (by simp) (by decide)
              have x23 := fill_evalT (a0 := a0) (listed := ls) hpw y2 d23 (by rw [hsz]; decide)
              clear hdep hl hW0 hW1
              generalize hA : fillA a0 ls LL = af at *
              refine wpOp_intro rfl rfl fun K' hK => ?_
              go_simp
              go_at_call 74
              refine (ielem_g (G k).k (G k).x _ HGB.out).mono ?_
              rintro e wz ⟨rfl, hb1⟩
              refine hK _ _ ⟨?_, ?_, ?_, ?_⟩
              · rw [← hA]; exact fill_put (by omega) hu hpw y3
              · intro _; exact HW.trans (hb1.mono HW.size)
              · intro h; rw [getD_set_ne false (by decide), hf] at h; cases h
              · intro h; rw [getD_set_ne false (by decide), hf] at h; cases h
            · skip
              have hu := un_of (show 4 < ls.size by omega) hun
              simp at hoi
              subst hoi
              have hf : ls.getD 6 false = false := by
                cases hc : ls.getD 6 false with
                | false => rfl
                | true => exact absurd (hl hc 4 (by omega)) (by rw [hu]; simp)
              have HW : Below Y.heap.size Y W := hW0 hf
              have d24 : ls.getD 3 false = true := hdep ⟨3, .data⟩ (by simp) (by decide)
              have x24 := fill_evalT (a0 := a0) (listed := ls) hpw y3 d24 (by rw [hsz]; decide)
              clear hdep hl hW0 hW1
              generalize hA : fillA a0 ls LL = af at *
              refine wpOp_intro rfl rfl fun K' hK => ?_
              go_simp
              go_at_call 128
              refine (igapM (G k) HGG.out _).mono ?_
              rintro e wz ⟨rfl, hb1⟩
              refine hK _ _ ⟨?_, ?_, ?_, ?_⟩
              · rw [← hA]; exact fill_put (by omega) hu hpw y4
              · intro _; exact HW.trans (hb1.mono HW.size)
              · intro h; rw [getD_set_ne false (by decide), hf] at h; cases h
              · intro h; rw [getD_set_ne false (by decide), hf] at h; cases h
            · skip
              have hu := un_of (show 5 < ls.size by omega) hun
              simp at hoi
              subst hoi
              have hf : ls.getD 6 false = false := by
                cases hc : ls.getD 6 false with
                | false => rfl
                | true => exact absurd (hl hc 5 (by omega)) (by rw [hu]; simp)
              have HW : Below Y.heap.size Y W := hW0 hf
              have d22 : ls.getD 1 false = true := hdep ⟨1, .data⟩ (by simp) (by decide)
              have x22 := fill_evalT (a0 := a0) (listed := ls) hpw y1 d22 (by rw [hsz]; decide)
              have d25 : ls.getD 4 false = true := hdep ⟨4, .data⟩ (by simp) (by decide)
              have x25 := fill_evalT (a0 := a0) (listed := ls) hpw y4 d25 (by rw [hsz]; decide)
              clear hdep hl hW0 hW1
              generalize hA : fillA a0 ls LL = af at *
              refine wpOp_intro rfl rfl fun K' hK => ?_
              go_simp
              go_at_call 28
              refine (ijoin (moS G k).2 (pM (G k)) _).mono ?_
              rintro e wz ⟨rfl, hb1⟩
              refine hK _ _ ⟨?_, ?_, ?_, ?_⟩
              · rw [← hA]; exact fill_put (by omega) hu hpw y5
              · intro _; exact HW.trans (hb1.mono HW.size)
              · intro h; rw [getD_set_ne false (by decide), hf] at h; cases h
              · intro h; rw [getD_set_ne false (by decide), hf] at h; cases h
            · skip
              have hu := un_of (show 6 < ls.size by omega) hun
              simp at hoi
              subst hoi
              have hall : ∀ j, j < 6 → ls.getD j false = true := fun j hj => by
                rcases (show j = 0 ∨ j = 1 ∨ j = 2 ∨ j = 3 ∨ j = 4 ∨ j = 5 by omega) with rfl | rfl | rfl | rfl | rfl | rfl
                all_goals first | exact hdep ⟨_, .phase⟩ (by simp) (by decide) | exact hdep ⟨_, .data⟩ (by simp) (by decide) | exact hdep ⟨_, .chain⟩ (by simp) (by decide)
              have HW : Below Y.heap.size Y W := hW0 hu
              have HPZ : Hid (Blk W w2.heap.size #[.int .i64 (moS G k).1, .int .i64 (moS G k).2.A.n, .int .i64 (moS G k).2.A.d, .int .i64 (moS G k).2.B.n, .int .i64 (moS G k).2.B.d, .int .i64 (moS G k).2.C.n, .int .i64 (moS G k).2.C.d, .int .i64 (moS G k).2.D.n, .int .i64 (moS G k).2.D.d] 37) := Blk.old HPY.out HW
              have HRZ : Hid (Below w2.heap.size w2 W) := HBY.out.trans (HW.mono (Nat.le_of_lt hlt))
              have x4 := fill_otherT (listed := ls) n4 e4
              have x26 := fill_evalT (a0 := a0) (listed := ls) hpw y5 (hall 5 (by omega)) (by rw [hsz]; decide)
              have c0 := HPZ.out.cell (j := 0) rfl
              have c1 := HPZ.out.cell (j := 1) rfl
              have c2 := HPZ.out.cell (j := 2) rfl
              have c3 := HPZ.out.cell (j := 3) rfl
              have c4 := HPZ.out.cell (j := 4) rfl
              have c5 := HPZ.out.cell (j := 5) rfl
              have c6 := HPZ.out.cell (j := 6) rfl
              have c7 := HPZ.out.cell (j := 7) rfl
              have c8 := HPZ.out.cell (j := 8) rfl
              have cf := HPZ.out.frozen
              have hh : Hid _ := blk9 HPZ.out (.int .i64 (jC (moS G k).2 (pM (G k)))) (.int .i64 (sel (jC (moS G k).2 (pM (G k))) (jQA (moS G k).2 (pM (G k)))).n) (.int .i64 (sel (jC (moS G k).2 (pM (G k))) (jQA (moS G k).2 (pM (G k)))).d) (.int .i64 (sel (jC (moS G k).2 (pM (G k))) (jQB (moS G k).2 (pM (G k)))).n) (.int .i64 (sel (jC (moS G k).2 (pM (G k))) (jQB (moS G k).2 (pM (G k)))).d) (.int .i64 (sel (jC (moS G k).2 (pM (G k))) (jQC (moS G k).2 (pM (G k)))).n) (.int .i64 (sel (jC (moS G k).2 (pM (G k))) (jQC (moS G k).2 (pM (G k)))).d) (.int .i64 (sel (jC (moS G k).2 (pM (G k))) (jQD (moS G k).2 (pM (G k)))).n) (.int .i64 (sel (jC (moS G k).2 (pM (G k))) (jQD (moS G k).2 (pM (G k)))).d)
              clear hdep hl hW0 hW1 l0 l1 l2 gf hQ0 m0 m1 m2 m3 m4 m5 m6 m7 m8 hnil hmeth
              generalize hA : fillA a0 ls LL = af at *
              refine wpOp_intro rfl rfl fun K' hK => ?_
              go_simp
              refine hK _ _ ⟨?_, ?_, ?_, ?_⟩
              · rw [← hA]
                show fillA a0 ls LL = fillA a0 (ls.setIfInBounds 6 true) LL
                rw [hLL.out]; simp only [fillA]; simp only [getD_set_ne false (show (6 : Nat) ≠ 0 by decide), getD_set_ne false (show (6 : Nat) ≠ 1 by decide), getD_set_ne false (show (6 : Nat) ≠ 2 by decide), getD_set_ne false (show (6 : Nat) ≠ 3 by decide), getD_set_ne false (show (6 : Nat) ≠ 4 by decide), getD_set_ne false (show (6 : Nat) ≠ 5 by decide)]
              · intro h; rw [set_self (by omega)] at h; cases h
              · intro _
                refine ⟨?_, hh.out⟩
                have h := HRZ.out
                go_grown
              · intro h j hj; rw [getD_set_ne false (by omega)]; exact hall j hj
          · intro ls a W hI hall
            obtain ⟨rfl, hW0, hW1, hl⟩ := hI
            have z0 : ls.getD 0 false = true := hall 0 (by decide)
            have z1 : ls.getD 1 false = true := hall 1 (by decide)
            have z2 : ls.getD 2 false = true := hall 2 (by decide)
            have z3 : ls.getD 3 false = true := hall 3 (by decide)
            have z4 : ls.getD 4 false = true := hall 4 (by decide)
            have z5 : ls.getD 5 false = true := hall 5 (by decide)
            have z6 : ls.getD 6 false = true := hall 6 (by decide)
            obtain ⟨hB2, hP2⟩ := hW1 z6
            rw [hLL.out]
            simp only [fillA, z0, z1, z2, z3, z4, z5, if_true]
            clear hall hl hW0 hW1 z0 z1 z2 z3 z4 z5 z6
            rw [ha0.out]
            simp only [Act.put, List.setIfInBounds_toArray, List.set_cons_succ, List.set_cons_zero]
            have HB2 : Hid (Below w2.heap.size w2 W) := hB2
            have HP2 : Hid (Blk W w2.heap.size #[.int .i64 (jC (moS G k).2 (pM (G k))), .int .i64 (sel (jC (moS G k).2 (pM (G k))) (jQA (moS G k).2 (pM (G k)))).n, .int .i64 (sel (jC (moS G k).2 (pM (G k))) (jQA (moS G k).2 (pM (G k)))).d, .int .i64 (sel (jC (moS G k).2 (pM (G k))) (jQB (moS G k).2 (pM (G k)))).n, .int .i64 (sel (jC (moS G k).2 (pM (G k))) (jQB (moS G k).2 (pM (G k)))).d, .int .i64 (sel (jC (moS G k).2 (pM (G k))) (jQC (moS G k).2 (pM (G k)))).n, .int .i64 (sel (jC (moS G k).2 (pM (G k))) (jQC (moS G k).2 (pM (G k)))).d, .int .i64 (sel (jC (moS G k).2 (pM (G k))) (jQD (moS G k).2 (pM (G k)))).n, .int .i64 (sel (jC (moS G k).2 (pM (G k))) (jQD (moS G k).2 (pM (G k)))).d] 37) := hP2
            clear hB2 hP2 e4 e6 hsz hpw y0 y1 y2 y3 y4 y5 n4 n6 hLL ha0 hnil hmeth l0 l1 l2 gf hQ0 m0 m1 m2 m3 m4 m5 m6 m7 m8
            (try go_wp2_with fail)
            go_meet
            case rel => exact ⟨rfl, HB2.out, HP2.out⟩
        ·
          have HGB : Hid (((G k).k == 1) = false) := by show ((G k).k == 1) = _; simpa using hg
          have HGG : Hid (_) := hg
          clear hg
          have hnil := nil_power
          have hmeth := mrun_power
          refine letA ?_
          intro a0 ha0
          have e4 : a0.tmps[4]?.getD undef = .pointer (some ⟨w2.heap.size, 0, none⟩) := by rw [ha0]; rfl
          have e6 : a0.tmps[6]?.getD undef = .pointer (some ⟨wr.heap.size, 0, none⟩) := by rw [ha0]; rfl
          have hsz : a0.tmps.size = 33 := by rw [ha0]; rfl
          replace ha0 : Hid (a0 = _) := ha0
          obtain ⟨LL, hLL⟩ : ∃ LL : List Lay, LL = [⟨0, 21, .pointer (some ⟨w2.heap.size, 1, none⟩)⟩, ⟨1, 22, .agg #[.int .i64 (moS G k).2.A.n, .int .i64 (moS G k).2.A.d, .int .i64 (moS G k).2.B.n, .int .i64 (moS G k).2.B.d, .int .i64 (moS G k).2.C.n, .int .i64 (moS G k).2.C.d, .int .i64 (moS G k).2.D.n, .int .i64 (moS G k).2.D.d]⟩, ⟨2, 23, .agg #[.int .i64 (G k).k, .int .i64 (G k).x.n, .int .i64 (G k).x.d]⟩, ⟨3, 24, .iface 137 (.agg #[.int .i64 (G k).x.n, .int .i64 (G k).x.d])⟩, ⟨4, 25, .agg #[.int .i64 (pM (G k)).A.n, .int .i64 (pM (G k)).A.d, .int .i64 (pM (G k)).B.n, .int .i64 (pM (G k)).B.d, .int .i64 (pM (G k)).C.n, .int .i64 (pM (G k)).C.d, .int .i64 (pM (G k)).D.n, .int .i64 (pM (G k)).D.d]⟩, ⟨5, 26, .agg #[.int .i64 (jC (moS G k).2 (pM (G k))), .int .i64 (sel (jC (moS G k).2 (pM (G k))) (jQA (moS G k).2 (pM (G k)))).n, .int .i64 (sel (jC (moS G k).2 (pM (G k))) (jQA (moS G k).2 (pM (G k)))).d, .int .i64 (sel (jC (moS G k).2 (pM (G k))) (jQB (moS G k).2 (pM (G k)))).n, .int .i64 (sel (jC (moS G k).2 (pM (G k))) (jQB (moS G k).2 (pM (G k)))).d, .int .i64 (sel (jC (moS G k).2 (pM (G k))) (jQC (moS G k).2 (pM (G k)))).n, .int .i64 (sel (jC (moS G k).2 (pM (G k))) (jQC (moS G k).2 (pM (G k)))).d, .int .i64 (sel (jC (moS G k).2 (pM (G k))) (jQD (moS G k).2 (pM (G k)))).n, .int .i64 (sel (jC (moS G k).2 (pM (G k))) (jQD (moS G k).2 (pM (G k)))).d]⟩] := ⟨_, rfl⟩
          have hpw : LL.Pairwise (fun x y => x.d ≠ y.d ∧ x.i ≠ y.i) := by rw [hLL]; simp
          have y0 : (⟨0, 21, .pointer (some ⟨w2.heap.size, 1, none⟩)⟩ : Lay) ∈ LL := by rw [hLL]; simp
          have y1 : (⟨1, 22, .agg #[.int .i64 (moS G k).2.A.n, .int .i64 (moS G k).2.A.d, .int .i64 (moS G k).2.B.n, .int .i64 (moS G k).2.B.d, .int .i64 (moS G k).2.C.n, .int .i64 (moS G k).2.C.d, .int .i64 (moS G k).2.D.n, .int .i64 (moS G k).2.D.d]⟩ : Lay) ∈ LL := by rw [hLL]; simp
          have y2 : (⟨2, 23, .agg #[.int .i64 (G k).k, .int .i64 (G k).x.n, .int .i64 (G k).x.d]⟩ : Lay) ∈ LL := by rw [hLL]; simp
          have y3 : (⟨3, 24, .iface 137 (.agg #[.int .i64 (G k).x.n, .int .i64 (G k).x.d])⟩ : Lay) ∈ LL := by rw [hLL]; simp
          have y4 : (⟨4, 25, .agg #[.int .i64 (pM (G k)).A.n, .int .i64 (pM (G k)).A.d, .int .i64 (pM (G k)).B.n, .int .i64 (pM (G k)).B.d, .int .i64 (pM (G k)).C.n, .int .i64 (pM (G k)).C.d, .int .i64 (pM (G k)).D.n, .int .i64 (pM (G k)).D.d]⟩ : Lay) ∈ LL := by rw [hLL]; simp
          have y5 : (⟨5, 26, .agg #[.int .i64 (jC (moS G k).2 (pM (G k))), .int .i64 (sel (jC (moS G k).2 (pM (G k))) (jQA (moS G k).2 (pM (G k)))).n, .int .i64 (sel (jC (moS G k).2 (pM (G k))) (jQA (moS G k).2 (pM (G k)))).d, .int .i64 (sel (jC (moS G k).2 (pM (G k))) (jQB (moS G k).2 (pM (G k)))).n, .int .i64 (sel (jC (moS G k).2 (pM (G k))) (jQB (moS G k).2 (pM (G k)))).d, .int .i64 (sel (jC (moS G k).2 (pM (G k))) (jQC (moS G k).2 (pM (G k)))).n, .int .i64 (sel (jC (moS G k).2 (pM (G k))) (jQC (moS G k).2 (pM (G k)))).d, .int .i64 (sel (jC (moS G k).2 (pM (G k))) (jQD (moS G k).2 (pM (G k)))).n, .int .i64 (sel (jC (moS G k).2 (pM (G k))) (jQD (moS G k).2 (pM (G k)))).d]⟩ : Lay) ∈ LL := by rw [hLL]; simp
          have n4 : ∀ x ∈ LL, x.d ≠ 4 := by rw [hLL]; simp
          have n6 : ∀ x ∈ LL, x.d ≠ 6 := by rw [hLL]; simp
          replace hLL : Hid (LL = _) := hLL
          refine wp_region_inv (by kernel_rfl) (fun ls a W => a = fillA a0 ls LL ∧ (ls.getD 6 false = false → Below Y.heap.size Y W) ∧ (ls.getD 6 false = true → Below w2.heap.size w2 W ∧ Blk W w2.heap.size #[.int .i64 (jC (moS G k).2 (pM (G k))), .int .i64 (sel (jC (moS G k).2 (pM (G k))) (jQA (moS G k).2 (pM (G k)))).n, .int .i64 (sel (jC (moS G k).2 (pM (G k))) (jQA (moS G k).2 (pM (G k)))).d, .int .i64 (sel (jC (moS G k).2 (pM (G k))) (jQB (moS G k).2 (pM (G k)))).n, .int .i64 (sel (jC (moS G k).2 (pM (G k))) (jQB (moS G k).2 (pM (G k)))).d, .int .i64 (sel (jC (moS G k).2 (pM (G k))) (jQC (moS G k).2 (pM (G k)))).n, .int .i64 (sel (jC (moS G k).2 (pM (G k))) (jQC (moS G k).2 (pM (G k)))).d, .int .i64 (sel (jC (moS G k).2 (pM (G k))) (jQD (moS G k).2 (pM (G k)))).n, .int .i64 (sel (jC (moS G k).2 (pM (G k))) (jQD (moS G k).2 (pM (G k)))).d] 37) ∧ (ls.getD 6 false = true → ∀ i, i < 6 → ls.getD i false = true)) (ahead_of (by decide +kernel)) ?_ ?_ ?_
          · exact ⟨fill_none.symm, fun _ => hQ0, fun h => absurd h (by rw [getD_none]; simp), fun h => absurd h (by rw [getD_none]; simp)⟩
          · intro ls a W i hs hI hi
            obtain ⟨rfl, hW0, hW1, hl⟩ := hI
            obtain ⟨hun, oi, hoi, hdep⟩ := mem_ready.1 hi
            have hlt7 : i < 7 := by have := (Array.getElem?_eq_some_iff.1 hoi).1; simpa using this
            have hls : ls.size = 7 := by rw [hs]; rfl
            clear hi hs
            rcases (show i = 0 ∨ i = 1 ∨ i = 2 ∨ i = 3 ∨ i = 4 ∨ i = 5 ∨ i = 6 by omega) with rfl | rfl | rfl | rfl | rfl | rfl | rfl
            · skip
              have hu := un_of (show 0 < ls.size by omega) hun
              simp at hoi
              subst hoi
              have hf : ls.getD 6 false = false := by
                cases hc : ls.getD 6 false with
                | false => rfl
                | true => exact absurd (hl hc 0 (by omega)) (by rw [hu]; simp)
              have HW : Below Y.heap.size Y W := hW0 hf
              have x4 := fill_otherT (listed := ls) n4 e4
              clear hdep hl hW0 hW1
              generalize hA : fillA a0 ls LL = af at *
              refine wpOp_intro rfl rfl fun K' hK => ?_
              go_simp
              refine hK _ _ ⟨?_, ?_, ?_, ?_⟩
              · rw [← hA]; exact fill_put (by omega) hu hpw y0
              · intro _; exact HW
              · intro h; rw [getD_set_ne false (by decide), hf] at h; cases h
              · intro h; rw [getD_set_ne false (by decide), hf] at h; cases h
            · skip
              have hu := un_of (show 1 < ls.size by omega) hun
              simp at hoi
              subst hoi
              have hf : ls.getD 6 false = false := by
                cases hc : ls.getD 6 false with
                | false => rfl
                | true => exact absurd (hl hc 1 (by omega)) (by rw [hu]; simp)
              have HW : Below Y.heap.size Y W := hW0 hf
              have d21 : ls.getD 0 false = true := hdep ⟨0, .data⟩ (by simp) (by decide)
              have x21 := fill_evalT (a0 := a0) (listed := ls) hpw y0 d21 (by rw [hsz]; decide)
              have c1 := m1 W HW
              have c2 := m2 W HW
              have c3 := m3 W HW
              have c4 := m4 W HW
              have c5 := m5 W HW
              have c6 := m6 W HW
              have c7 := m7 W HW
              have c8 := m8 W HW
              clear hdep hl hW0 hW1
              generalize hA : fillA a0 ls LL = af at *
              refine wpOp_intro rfl rfl fun K' hK => ?_
              go_simp
              refine hK _ _ ⟨?_, ?_, ?_, ?_⟩
              · rw [← hA]; exact fill_put (by omega) hu hpw y1
              · intro _; exact HW
              · intro h; rw [getD_set_ne false (by decide), hf] at h; cases h
              · intro h; rw [getD_set_ne false (by decide), hf] at h; cases h
            · skip
              have hu := un_of (show 2 < ls.size by omega) hun
              simp at hoi
              subst hoi
              have hf : ls.getD 6 false = false := by
                cases hc : ls.getD 6 false with
                | false => rfl
                | true => exact absurd (hl hc 2 (by omega)) (by rw [hu]; simp)
              have HW : Below Y.heap.size Y W := hW0 hf
              have x6 := fill_otherT (listed := ls) n6 e6
              have c0 := l0 W HW
              have c1 := l1 W HW
              have c2 := l2 W HW
              clear hdep hl hW0 hW1
              generalize hA : fillA a0 ls LL = af at *
              refine wpOp_intro rfl rfl fun K' hK => ?_
              go_simp
              refine hK _ _ ⟨?_, ?_, ?_, ?_⟩
              · rw [← hA]; exact fill_put (by omega) hu hpw y2
              · intro _; exact HW
              · intro h; rw [getD_set_ne false (by decide), hf] at h; cases h
              · intro h; rw [getD_set_ne false (by decide), hf] at h; cases h
            · skip
              have hu := un_of (show 3 < ls.size by omega) hun
              simp at hoi
              subst hoi
              have hf : ls.getD 6 false = false := by
                cases hc : ls.getD 6 false with
                | false => rfl
                | true => exact absurd (hl hc 3 (by omega)) (by rw [hu]; simp)
              have HW : Below Y.heap.size Y W := hW0 hf
              have d23 : ls.getD 2 false = true := hdep ⟨2, .data⟩ (by simp) (by decide)
              have x23 := fill_evalT (a0 := a0) (listed := ls) hpw y2 d23 (by rw [hsz]; decide)
              clear hdep hl hW0 hW1
              generalize hA : fillA a0 ls LL = af at *
              refine wpOp_intro rfl rfl fun K' hK => ?_
              go_simp
              go_at_call 74
              refine (ielem_p (G k).k (G k).x _ HGB.out).mono ?_
              rintro e wz ⟨rfl, hb1⟩
              refine hK _ _ ⟨?_, ?_, ?_, ?_⟩
              · rw [← hA]; exact fill_put (by omega) hu hpw y3
              · intro _; exact HW.trans (hb1.mono HW.size)
              · intro h; rw [getD_set_ne false (by decide), hf] at h; cases h
              · intro h; rw [getD_set_ne false (by decide), hf] at h; cases h
            · skip
              have hu := un_of (show 4 < ls.size by omega) hun
              simp at hoi
              subst hoi
              have hf : ls.getD 6 false = false := by
                cases hc : ls.getD 6 false with
                | false => rfl
                | true => exact absurd (hl hc 4 (by omega)) (by rw [hu]; simp)
              have HW : Below Y.heap.size Y W := hW0 hf
              have d24 : ls.getD 3 false = true := hdep ⟨3, .data⟩ (by simp) (by decide)
              have x24 := fill_evalT (a0 := a0) (listed := ls) hpw y3 d24 (by rw [hsz]; decide)
              clear hdep hl hW0 hW1
              generalize hA : fillA a0 ls LL = af at *
              refine wpOp_intro rfl rfl fun K' hK => ?_
              go_simp
              go_at_call 130
              refine (ipowM (G k) HGG.out hok _).mono ?_
              rintro e wz ⟨rfl, hb1⟩
              refine hK _ _ ⟨?_, ?_, ?_, ?_⟩
              · rw [← hA]; exact fill_put (by omega) hu hpw y4
              · intro _; exact HW.trans (hb1.mono HW.size)
              · intro h; rw [getD_set_ne false (by decide), hf] at h; cases h
              · intro h; rw [getD_set_ne false (by decide), hf] at h; cases h
            · skip
              have hu := un_of (show 5 < ls.size by omega) hun
              simp at hoi
              subst hoi
              have hf : ls.getD 6 false = false := by
                cases hc : ls.getD 6 false with
                | false => rfl
                | true => exact absurd (hl hc 5 (by omega)) (by rw [hu]; simp)
              have HW : Below Y.heap.size Y W := hW0 hf
              have d22 : ls.getD 1 false = true := hdep ⟨1, .data⟩ (by simp) (by decide)
              have x22 := fill_evalT (a0 := a0) (listed := ls) hpw y1 d22 (by rw [hsz]; decide)
              have d25 : ls.getD 4 false = true := hdep ⟨4, .data⟩ (by simp) (by decide)
              have x25 := fill_evalT (a0 := a0) (listed := ls) hpw y4 d25 (by rw [hsz]; decide)
              clear hdep hl hW0 hW1
              generalize hA : fillA a0 ls LL = af at *
              refine wpOp_intro rfl rfl fun K' hK => ?_
              go_simp
              go_at_call 28
              refine (ijoin (moS G k).2 (pM (G k)) _).mono ?_
              rintro e wz ⟨rfl, hb1⟩
              refine hK _ _ ⟨?_, ?_, ?_, ?_⟩
              · rw [← hA]; exact fill_put (by omega) hu hpw y5
              · intro _; exact HW.trans (hb1.mono HW.size)
              · intro h; rw [getD_set_ne false (by decide), hf] at h; cases h
              · intro h; rw [getD_set_ne false (by decide), hf] at h; cases h
            · skip
              have hu := un_of (show 6 < ls.size by omega) hun
              simp at hoi
              subst hoi
              have hall : ∀ j, j < 6 → ls.getD j false = true := fun j hj => by
                rcases (show j = 0 ∨ j = 1 ∨ j = 2 ∨ j = 3 ∨ j = 4 ∨ j = 5 by omega) with rfl | rfl | rfl | rfl | rfl | rfl
                all_goals first | exact hdep ⟨_, .phase⟩ (by simp) (by decide) | exact hdep ⟨_, .data⟩ (by simp) (by decide) | exact hdep ⟨_, .chain⟩ (by simp) (by decide)
              have HW : Below Y.heap.size Y W := hW0 hu
              have HPZ : Hid (Blk W w2.heap.size #[.int .i64 (moS G k).1, .int .i64 (moS G k).2.A.n, .int .i64 (moS G k).2.A.d, .int .i64 (moS G k).2.B.n, .int .i64 (moS G k).2.B.d, .int .i64 (moS G k).2.C.n, .int .i64 (moS G k).2.C.d, .int .i64 (moS G k).2.D.n, .int .i64 (moS G k).2.D.d] 37) := Blk.old HPY.out HW
              have HRZ : Hid (Below w2.heap.size w2 W) := HBY.out.trans (HW.mono (Nat.le_of_lt hlt))
              have x4 := fill_otherT (listed := ls) n4 e4
              have x26 := fill_evalT (a0 := a0) (listed := ls) hpw y5 (hall 5 (by omega)) (by rw [hsz]; decide)
              have c0 := HPZ.out.cell (j := 0) rfl
              have c1 := HPZ.out.cell (j := 1) rfl
              have c2 := HPZ.out.cell (j := 2) rfl
              have c3 := HPZ.out.cell (j := 3) rfl
              have c4 := HPZ.out.cell (j := 4) rfl
              have c5 := HPZ.out.cell (j := 5) rfl
              have c6 := HPZ.out.cell (j := 6) rfl
              have c7 := HPZ.out.cell (j := 7) rfl
              have c8 := HPZ.out.cell (j := 8) rfl
              have cf := HPZ.out.frozen
              have hh : Hid _ := blk9 HPZ.out (.int .i64 (jC (moS G k).2 (pM (G k)))) (.int .i64 (sel (jC (moS G k).2 (pM (G k))) (jQA (moS G k).2 (pM (G k)))).n) (.int .i64 (sel (jC (moS G k).2 (pM (G k))) (jQA (moS G k).2 (pM (G k)))).d) (.int .i64 (sel (jC (moS G k).2 (pM (G k))) (jQB (moS G k).2 (pM (G k)))).n) (.int .i64 (sel (jC (moS G k).2 (pM (G k))) (jQB (moS G k).2 (pM (G k)))).d) (.int .i64 (sel (jC (moS G k).2 (pM (G k))) (jQC (moS G k).2 (pM (G k)))).n) (.int .i64 (sel (jC (moS G k).2 (pM (G k))) (jQC (moS G k).2 (pM (G k)))).d) (.int .i64 (sel (jC (moS G k).2 (pM (G k))) (jQD (moS G k).2 (pM (G k)))).n) (.int .i64 (sel (jC (moS G k).2 (pM (G k))) (jQD (moS G k).2 (pM (G k)))).d)
              clear hdep hl hW0 hW1 l0 l1 l2 gf hQ0 m0 m1 m2 m3 m4 m5 m6 m7 m8 hnil hmeth
              generalize hA : fillA a0 ls LL = af at *
              refine wpOp_intro rfl rfl fun K' hK => ?_
              go_simp
              refine hK _ _ ⟨?_, ?_, ?_, ?_⟩
              · rw [← hA]
                show fillA a0 ls LL = fillA a0 (ls.setIfInBounds 6 true) LL
                rw [hLL.out]; simp only [fillA]; simp only [getD_set_ne false (show (6 : Nat) ≠ 0 by decide), getD_set_ne false (show (6 : Nat) ≠ 1 by decide), getD_set_ne false (show (6 : Nat) ≠ 2 by decide), getD_set_ne false (show (6 : Nat) ≠ 3 by decide), getD_set_ne false (show (6 : Nat) ≠ 4 by decide), getD_set_ne false (show (6 : Nat) ≠ 5 by decide)]
              · intro h; rw [set_self (by omega)] at h; cases h
              · intro _
                refine ⟨?_, hh.out⟩
                have h := HRZ.out
                go_grown
              · intro h j hj; rw [getD_set_ne false (by omega)]; exact hall j hj
          · intro ls a W hI hall
            obtain ⟨rfl, hW0, hW1, hl⟩ := hI
            have z0 : ls.getD 0 false = true := hall 0 (by decide)
            have z1 : ls.getD 1 false = true := hall 1 (by decide)
            have z2 : ls.getD 2 false = true := hall 2 (by decide)
            have z3 : ls.getD 3 false = true := hall 3 (by decide)
            have z4 : ls.getD 4 false = true := hall 4 (by decide)
            have z5 : ls.getD 5 false = true := hall 5 (by decide)
            have z6 : ls.getD 6 false = true := hall 6 (by decide)
            obtain ⟨hB2, hP2⟩ := hW1 z6
            rw [hLL.out]
            simp only [fillA, z0, z1, z2, z3, z4, z5, if_true]
            clear hall hl hW0 hW1 z0 z1 z2 z3 z4 z5 z6
            rw [ha0.out]
            simp only [Act.put, List.setIfInBounds_toArray, List.set_cons_succ, List.set_cons_zero]
            have HB2 : Hid (Below w2.heap.size w2 W) := hB2
            have HP2 : Hid (Blk W w2.heap.size #[.int .i64 (jC (moS G k).2 (pM (G k))), .int .i64 (sel (jC (moS G k).2 (pM (G k))) (jQA (moS G k).2 (pM (G k)))).n, .int .i64 (sel (jC (moS G k).2 (pM (G k))) (jQA (moS G k).2 (pM (G k)))).d, .int .i64 (sel (jC (moS G k).2 (pM (G k))) (jQB (moS G k).2 (pM (G k)))).n, .int .i64 (sel (jC (moS G k).2 (pM (G k))) (jQB (moS G k).2 (pM (G k)))).d, .int .i64 (sel (jC (moS G k).2 (pM (G k))) (jQC (moS G k).2 (pM (G k)))).n, .int .i64 (sel (jC (moS G k).2 (pM (G k))) (jQC (moS G k).2 (pM (G k)))).d, .int .i64 (sel (jC (moS G k).2 (pM (G k))) (jQD (moS G k).2 (pM (G k)))).n, .int .i64 (sel (jC (moS G k).2 (pM (G k))) (jQD (moS G k).2 (pM (G k)))).d] 37) := hP2
            clear hB2 hP2 e4 e6 hsz hpw y0 y1 y2 y3 y4 y5 n4 n6 hLL ha0 hnil hmeth l0 l1 l2 gf hQ0 m0 m1 m2 m3 m4 m5 m6 m7 m8
            (try go_wp2_with fail)
            go_meet
            case rel => exact ⟨rfl, HB2.out, HP2.out⟩
      case rest =>
        clear l0 l1 l2 gf hQ0 m0 m1 m2 m3 m4 m5 m6 m7 m8 hlt HPY RBY HBY
        obtain ⟨rfl, hB2, hP2⟩ := hcut
        have RBZ : Hid (Blk wc w.heap.size #[.int .i64 0, .int .i64 0, .int .i64 0, .int .i64 0, .int .i64 0, .int .i64 0, .int .i64 0, .int .i64 0, .int .i64 0] 37) := Blk.old RB.out hB2
        have HPZ : Hid (Blk wc w2.heap.size #[.int .i64 (jC (moS G k).2 (pM (G k))), .int .i64 (sel (jC (moS G k).2 (pM (G k))) (jQA (moS G k).2 (pM (G k)))).n, .int .i64 (sel (jC (moS G k).2 (pM (G k))) (jQA (moS G k).2 (pM (G k)))).d, .int .i64 (sel (jC (moS G k).2 (pM (G k))) (jQB (moS G k).2 (pM (G k)))).n, .int .i64 (sel (jC (moS G k).2 (pM (G k))) (jQB (moS G k).2 (pM (G k)))).d, .int .i64 (sel (jC (moS G k).2 (pM (G k))) (jQC (moS G k).2 (pM (G k)))).n, .int .i64 (sel (jC (moS G k).2 (pM (G k))) (jQC (moS G k).2 (pM (G k)))).d, .int .i64 (sel (jC (moS G k).2 (pM (G k))) (jQD (moS G k).2 (pM (G k)))).n, .int .i64 (sel (jC (moS G k).2 (pM (G k))) (jQD (moS G k).2 (pM (G k)))).d] 37) := hP2
        have HRZ : Hid (Below w2.heap.size w2 wc) := hB2
        clear hB2 hP2
        have e := mo_next (G := G) (i := k) hz
        have n0 := HPZ.out.cell (j := 0) rfl
        have n1 := HPZ.out.cell (j := 1) rfl
        have n2 := HPZ.out.cell (j := 2) rfl
        have n3 := HPZ.out.cell (j := 3) rfl
        have n4 := HPZ.out.cell (j := 4) rfl
        have n5 := HPZ.out.cell (j := 5) rfl
        have n6 := HPZ.out.cell (j := 6) rfl
        have n7 := HPZ.out.cell (j := 7) rfl
        have n8 := HPZ.out.cell (j := 8) rfl
        by_cases hj : jC (moS G k).2 (pM (G k)) = 0
        · have hjb : (jC (moS G k).2 (pM (G k)) != 0) = false := by simpa using hj
          go_wp2_with fail
          go_roundw
          case rel =>
            refine ⟨k + 1, by omega, by simp, HRZ.out, ?_, ?_⟩
            · simp only [e, joinM]
              exact HPZ.out
            · rw [e]; exact hj
          case measure => simp [intOf]; omega
        · have hjb : (jC (moS G k).2 (pM (G k)) != 0) = true := by simpa using hj
          have HE : Hid (moS G n = (jC (moS G k).2 (pM (G k)), joinM (moS G k).2 (pM (G k)))) := by
            have h3 := mo_stop (G := G) (i := k + 1) (by rw [e]; exact hj) (n - (k + 1))
            show moS G n = _
            rw [show k + 1 + (n - (k + 1)) = n from by omega] at h3
            rw [h3, e]
          have r0 := RBZ.out.cell (j := 0) rfl
          have r1 := RBZ.out.cell (j := 1) rfl
          have r2 := RBZ.out.cell (j := 2) rfl
          have r3 := RBZ.out.cell (j := 3) rfl
          have r4 := RBZ.out.cell (j := 4) rfl
          have r5 := RBZ.out.cell (j := 5) rfl
          have r6 := RBZ.out.cell (j := 6) rfl
          have r7 := RBZ.out.cell (j := 7) rfl
          have r8 := RBZ.out.cell (j := 8) rfl
          have rf := RBZ.out.frozen
          go_wp2
          refine bodyPost_ret (v := .agg #[.int .i64 (jC (moS G k).2 (pM (G k))), .int .i64 (sel (jC (moS G k).2 (pM (G k))) (jQA (moS G k).2 (pM (G k)))).n, .int .i64 (sel (jC (moS G k).2 (pM (G k))) (jQA (moS G k).2 (pM (G k)))).d, .int .i64 (sel (jC (moS G k).2 (pM (G k))) (jQB (moS G k).2 (pM (G k)))).n, .int .i64 (sel (jC (moS G k).2 (pM (G k))) (jQB (moS G k).2 (pM (G k)))).d, .int .i64 (sel (jC (moS G k).2 (pM (G k))) (jQC (moS G k).2 (pM (G k)))).n, .int .i64 (sel (jC (moS G k).2 (pM (G k))) (jQC (moS G k).2 (pM (G k)))).d, .int .i64 (sel (jC (moS G k).2 (pM (G k))) (jQD (moS G k).2 (pM (G k)))).n, .int .i64 (sel (jC (moS G k).2 (pM (G k))) (jQD (moS G k).2 (pM (G k)))).d]) (by simp [results, Try.results24, go_sem, hne, Ne.symm hne, r0, r1, r2, r3, r4, r5, r6, r7, r8] <;> (repeat' (first | rfl | apply And.intro))) rfl ⟨by rw [HE.out]; rfl, ?_⟩
          have h := HO.out.trans (HRZ.out.mono HO.out.size)
          go_grown
    · obtain rfl : k = n := by omega
      have RR : Blk wr w.heap.size #[.int .i64 0, .int .i64 0, .int .i64 0, .int .i64 0, .int .i64 0, .int .i64 0, .int .i64 0, .int .i64 0, .int .i64 0] 37 := Blk.old RB.out HB.out
      have r0 := RR.cell (j := 0) rfl
      have r1 := RR.cell (j := 1) rfl
      have r2 := RR.cell (j := 2) rfl
      have r3 := RR.cell (j := 3) rfl
      have r4 := RR.cell (j := 4) rfl
      have r5 := RR.cell (j := 5) rfl
      have r6 := RR.cell (j := 6) rfl
      have r7 := RR.cell (j := 7) rfl
      have r8 := RR.cell (j := 8) rfl
      have rf := RR.frozen
      have p0 := HP.out.cell (j := 0) rfl
      have p1 := HP.out.cell (j := 1) rfl
      have p2 := HP.out.cell (j := 2) rfl
      have p3 := HP.out.cell (j := 3) rfl
      have p4 := HP.out.cell (j := 4) rfl
      have p5 := HP.out.cell (j := 5) rfl
      have p6 := HP.out.cell (j := 6) rfl
      have p7 := HP.out.cell (j := 7) rfl
      have p8 := HP.out.cell (j := 8) rfl
      clear RR
      go_upto_region 12 with fail
      repeat go_step
      refine bodyPost_ret (v := .agg #[.int .i64 0, .int .i64 (moS G k).2.A.n, .int .i64 (moS G k).2.A.d, .int .i64 (moS G k).2.B.n, .int .i64 (moS G k).2.B.d, .int .i64 (moS G k).2.C.n, .int .i64 (moS G k).2.C.d, .int .i64 (moS G k).2.D.n, .int .i64 (moS G k).2.D.d]) (by simp [results, Try.results24, go_sem, r0, r1, r2, r3, r4, r5, r6, r7, r8] <;> (repeat' (first | rfl | apply And.intro))) rfl ⟨by rw [hz], ?_⟩
      have h := HO.out.trans (HB.out.mono HO.out.size)
      go_grown
theorem imatrix (b off n cap : Nat) (G : Nat → Pt) (w : World) (hn : n ≤ 1000000000) (hc : RdP w b off n G) :
    Calls Try.prog 24 #[.slice (some ⟨b, off, none⟩) n cap] w fun e w' => e = .returned (.agg #[.int .i64 (mC G n), .int .i64 (mM G n).A.n, .int .i64 (mM G n).A.d, .int .i64 (mM G n).B.n, .int .i64 (mM G n).B.d, .int .i64 (mM G n).C.n, .int .i64 (mM G n).C.d, .int .i64 (mM G n).D.n, .int .i64 (mM G n).D.d]) ∧ Below w.heap.size w w' := by
  by_cases h : lC G n = 0
  · rw [show mC G n = (moS G n).1 from if_pos h, show mM G n = (moS G n).2 from if_pos h]
    exact imatrix_1 b off n cap G w hn hc h (lC_all h)
  · rw [show mC G n = lC G n from if_neg h, show mM G n = zM from if_neg h]
    exact imatrix_0 b off n cap G w hn hc h
end Go.Proofs.Ytnikgmjjkdhjbaa
