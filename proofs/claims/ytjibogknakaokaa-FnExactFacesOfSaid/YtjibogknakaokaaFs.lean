/- The faces of a list of plain surfaces. -/
import Derived.Test.YtjibogknakaokaaFp
namespace Go.Proofs.Ytjibogknakaokaa
open Go.RowKit Fl
set_option linter.unusedVariables false
set_option linter.unusedSimpArgs false
set_option maxRecDepth 20000 in
set_option maxHeartbeats 6400000 in
theorem sFaces_some (b off n cap : Nat) (F : Nat → Ps) (w : World) (hn : n ≤ 100000000) (hc : ∀ i, i < n → ∀ j, j < 11 → w.cell? ⟨b, off + i * 11 + j, none⟩ = some (pcell (F i) j)) :
    Calls Try.prog 21 #[.slice (some ⟨b, off, none⟩) n cap] w fun e w' => ∃ (g c : Nat) (R : Nat → Nat → Nat), e = .returned (.slice (some ⟨g, 0, none⟩) n c) ∧ (w.heap.size ≤ g ∧ SegV w' g 57 n 5 (fun i j => fcl (R i) j) ∧ ∀ i, i < n → Gc (R i) (faceC (F i))) ∧ Below w.heap.size w w' := by
  have HC : Hid (∀ i, i < n → ∀ j, j < 11 → w.cell? ⟨b, off + i * 11 + j, none⟩ = some (pcell (F i) j)) := hc
  clear hc
  have hnI : (n : Int) ≤ 100000000 := by omega
  go_enter Try.func21, Try.ntmps21
  go_wp2_with fail
  go_loopw [3, 4] (fun s3 s4 wr => ∃ (k : Nat) (R : Nat → Nat → Nat), k ≤ n ∧ s4 = .int .i64 k ∧ Hid ((s3 ≠ .slice none 0 0 ∧ wr.ownsRow w.heap.size 57 5 s3 k (flat (frow R) k) ∧ ∀ i, i < k → Gc (R i) (faceC (F i))) ∧ Below w.heap.size w wr)) (fun _ s4 _ => n - (intOf s4).toNat)
  case atStart => exact ⟨0, fun _ _ => 0, Nat.zero_le _, rfl, ⟨by simp, owns_empty w 57 5, fun i hi => absurd hi (Nat.not_lt_zero _)⟩, (Below.refl _ _).alloc (Nat.le_refl _) _⟩
  case round =>
    
    obtain ⟨k, R, hk, rfl, HT⟩ := hrel
    by_cases hkn : k < n
    · have hkI : (k : Int) < n := by omega
      have c0 : wr.cell? ⟨b, off + k * 11, none⟩ = some (.int .i64 (F k).c.n) := (HT.out.2.cell (World.block_lt_of_cell? _ _ (HC.out k hkn 0 (by omega)))).trans (HC.out k hkn 0 (by omega))
      have c1 : wr.cell? ⟨b, off + k * 11 + 1, none⟩ = some (.int .i64 (F k).c.d) := (HT.out.2.cell (World.block_lt_of_cell? _ _ (HC.out k hkn 1 (by omega)))).trans (HC.out k hkn 1 (by omega))
      have c2 : wr.cell? ⟨b, off + k * 11 + 2, none⟩ = some (.int .i64 (F k).g.n) := (HT.out.2.cell (World.block_lt_of_cell? _ _ (HC.out k hkn 2 (by omega)))).trans (HC.out k hkn 2 (by omega))
      have c3 : wr.cell? ⟨b, off + k * 11 + 3, none⟩ = some (.int .i64 (F k).g.d) := (HT.out.2.cell (World.block_lt_of_cell? _ _ (HC.out k hkn 3 (by omega)))).trans (HC.out k hkn 3 (by omega))
      have c4 : wr.cell? ⟨b, off + k * 11 + 4, none⟩ = some (.int .i64 (F k).x.n) := (HT.out.2.cell (World.block_lt_of_cell? _ _ (HC.out k hkn 4 (by omega)))).trans (HC.out k hkn 4 (by omega))
      have c5 : wr.cell? ⟨b, off + k * 11 + 5, none⟩ = some (.int .i64 (F k).x.d) := (HT.out.2.cell (World.block_lt_of_cell? _ _ (HC.out k hkn 5 (by omega)))).trans (HC.out k hkn 5 (by omega))
      have c6 : wr.cell? ⟨b, off + k * 11 + 6, none⟩ = some (.int .i64 (F k).s.n) := (HT.out.2.cell (World.block_lt_of_cell? _ _ (HC.out k hkn 6 (by omega)))).trans (HC.out k hkn 6 (by omega))
      have c7 : wr.cell? ⟨b, off + k * 11 + 7, none⟩ = some (.int .i64 (F k).s.d) := (HT.out.2.cell (World.block_lt_of_cell? _ _ (HC.out k hkn 7 (by omega)))).trans (HC.out k hkn 7 (by omega))
      have c8 : wr.cell? ⟨b, off + k * 11 + 8, none⟩ = some (.int .i64 (F k).k.n) := (HT.out.2.cell (World.block_lt_of_cell? _ _ (HC.out k hkn 8 (by omega)))).trans (HC.out k hkn 8 (by omega))
      have c9 : wr.cell? ⟨b, off + k * 11 + 9, none⟩ = some (.int .i64 (F k).k.d) := (HT.out.2.cell (World.block_lt_of_cell? _ _ (HC.out k hkn 9 (by omega)))).trans (HC.out k hkn 9 (by omega))
      have c10 : wr.cell? ⟨b, off + k * 11 + 10, none⟩ = some (.bool (F k).t) := (HT.out.2.cell (World.block_lt_of_cell? _ _ (HC.out k hkn 10 (by omega)))).trans (HC.out k hkn 10 (by omega))
      obtain ⟨Z, hZ⟩ : ∃ Z, Z = wr.alloc (.cells #[.int .i64 (F k).c.n, .int .i64 (F k).c.d, .int .i64 (F k).g.n, .int .i64 (F k).g.d, .int .i64 (F k).x.n, .int .i64 (F k).x.d, .int .i64 (F k).s.n, .int .i64 (F k).s.d, .int .i64 (F k).k.n, .int .i64 (F k).k.d, .bool (F k).t] 101) := ⟨_, rfl⟩
      have HZ : Hid (Below w.heap.size w Z ∧ Below wr.heap.size wr Z) := by
        show Below w.heap.size w Z ∧ Below wr.heap.size wr Z
        rw [hZ]
        exact ⟨HT.out.2.alloc HT.out.2.size _, (Below.refl _ _).alloc (Nat.le_refl _) _⟩
      have HB : Hid (Blk Z wr.heap.size #[.int .i64 (F k).c.n, .int .i64 (F k).c.d, .int .i64 (F k).g.n, .int .i64 (F k).g.d, .int .i64 (F k).x.n, .int .i64 (F k).x.d, .int .i64 (F k).s.n, .int .i64 (F k).s.d, .int .i64 (F k).k.n, .int .i64 (F k).k.d, .bool (F k).t] 101) := by show Blk Z _ _ _; rw [hZ]; exact Blk.new rfl
      have HOB : Hid (∀ q, u3.ownBlock = some q → w.heap.size ≤ q ∧ q < wr.heap.size) := fun q hq => HT.out.1.2.1.lt q hq
      have HOW : Hid (Z.ownsRow w.heap.size 57 5 u3 k (flat (frow R) k)) := owns_later HT.out.1.2.1 HZ.out.2
      have HG : Hid (∀ i, i < k → Gc (R i) (faceC (F i))) := HT.out.1.2.2
      have nef : some wr.heap.size ≠ u3.ownBlock := fun e => by have := (HOB.out _ e.symm).2; omega
      have cc0 : ∀ W, Z.grownBy W u3.ownBlock → W.cell? ⟨wr.heap.size, 0, none⟩ = some (.int .i64 (F k).c.n) := fun W h => h.cell (HB.out.cell (j := 0) rfl) nef
      have cc1 : ∀ W, Z.grownBy W u3.ownBlock → W.cell? ⟨wr.heap.size, 1, none⟩ = some (.int .i64 (F k).c.d) := fun W h => h.cell (HB.out.cell (j := 1) rfl) nef
      have cc2 : ∀ W, Z.grownBy W u3.ownBlock → W.cell? ⟨wr.heap.size, 2, none⟩ = some (.int .i64 (F k).g.n) := fun W h => h.cell (HB.out.cell (j := 2) rfl) nef
      have cc3 : ∀ W, Z.grownBy W u3.ownBlock → W.cell? ⟨wr.heap.size, 3, none⟩ = some (.int .i64 (F k).g.d) := fun W h => h.cell (HB.out.cell (j := 3) rfl) nef
      have cc4 : ∀ W, Z.grownBy W u3.ownBlock → W.cell? ⟨wr.heap.size, 4, none⟩ = some (.int .i64 (F k).x.n) := fun W h => h.cell (HB.out.cell (j := 4) rfl) nef
      have cc5 : ∀ W, Z.grownBy W u3.ownBlock → W.cell? ⟨wr.heap.size, 5, none⟩ = some (.int .i64 (F k).x.d) := fun W h => h.cell (HB.out.cell (j := 5) rfl) nef
      have cc6 : ∀ W, Z.grownBy W u3.ownBlock → W.cell? ⟨wr.heap.size, 6, none⟩ = some (.int .i64 (F k).s.n) := fun W h => h.cell (HB.out.cell (j := 6) rfl) nef
      have cc7 : ∀ W, Z.grownBy W u3.ownBlock → W.cell? ⟨wr.heap.size, 7, none⟩ = some (.int .i64 (F k).s.d) := fun W h => h.cell (HB.out.cell (j := 7) rfl) nef
      have cc8 : ∀ W, Z.grownBy W u3.ownBlock → W.cell? ⟨wr.heap.size, 8, none⟩ = some (.int .i64 (F k).k.n) := fun W h => h.cell (HB.out.cell (j := 8) rfl) nef
      have cc9 : ∀ W, Z.grownBy W u3.ownBlock → W.cell? ⟨wr.heap.size, 9, none⟩ = some (.int .i64 (F k).k.d) := fun W h => h.cell (HB.out.cell (j := 9) rfl) nef
      have cc10 : ∀ W, Z.grownBy W u3.ownBlock → W.cell? ⟨wr.heap.size, 10, none⟩ = some (.bool (F k).t) := fun W h => h.cell (HB.out.cell (j := 10) rfl) nef
      go_upto_region 6 with fail
      rw [← hZ]
      clear hZ HT nef c0 c1 c2 c3 c4 c5 c6 c7 c8 c9 c10
      have hR0 : Z.grownBy Z u3.ownBlock := grown_refl _ _
      have hB0 : Below Z.heap.size Z Z := Below.refl _ _
      go_region_held_law (fun W => Z.grownBy W u3.ownBlock) (first | with_reducible assumption | with_reducible exact grown_drew ‹_› | with_reducible exact grown_alloc ‹_› _ | with_reducible exact grown_alloc (grown_drew ‹_›) _)
        (first | (go_simp; go_at_call_of 61 (Value.agg #[Value.int IntKind.i64 (F k).c.n, Value.int IntKind.i64 (F k).c.d]); refine (sFrac_any (F k).c _).mono ?_; rintro e y0 ⟨z0, rfl, hz0, hb0⟩; replace hz0 : Hid _ := hz0; have hR1 : Z.grownBy y0 u3.ownBlock := grown_call (by first | with_reducible exact hR0 | with_reducible exact grown_drew hR0) hb0; have hB1 : Below Z.heap.size Z y0 := (by first | exact box_step hB0 hb0 (Nat.le_refl _) | exact box_step hB0.drew hb0 (Nat.le_refl _))) | (go_simp; go_at_call_of 61 (Value.agg #[Value.int IntKind.i64 (F k).k.n, Value.int IntKind.i64 (F k).k.d]); refine (sFrac_any (F k).k _).mono ?_; rintro e y1 ⟨z1, rfl, hz1, hb1⟩; replace hz1 : Hid _ := hz1; have hR2 : Z.grownBy y1 u3.ownBlock := grown_call (by first | with_reducible exact hR1 | with_reducible exact grown_drew hR1) hb1; have hB2 : Below Z.heap.size Z y1 := (by first | exact box_step hB1 hb1 (Nat.le_refl _) | exact box_step hB1.drew hb1 (Nat.le_refl _))) | (go_simp; go_at_call_of 61 (Value.agg #[Value.int IntKind.i64 (F k).g.n, Value.int IntKind.i64 (F k).g.d]); refine (sFrac_any (F k).g _).mono ?_; rintro e y2 ⟨z2, rfl, hz2, hb2⟩; replace hz2 : Hid _ := hz2; have hR3 : Z.grownBy y2 u3.ownBlock := grown_call (by first | with_reducible exact hR2 | with_reducible exact grown_drew hR2) hb2; have hB3 : Below Z.heap.size Z y2 := (by first | exact box_step hB2 hb2 (Nat.le_refl _) | exact box_step hB2.drew hb2 (Nat.le_refl _))) | (go_simp; go_at_call_of 61 (Value.agg #[Value.int IntKind.i64 (F k).x.n, Value.int IntKind.i64 (F k).x.d]); refine (sFrac_any (F k).x _).mono ?_; rintro e y3 ⟨z3, rfl, hz3, hb3⟩; replace hz3 : Hid _ := hz3; have hR4 : Z.grownBy y3 u3.ownBlock := grown_call (by first | with_reducible exact hR3 | with_reducible exact grown_drew hR3) hb3; have hB4 : Below Z.heap.size Z y3 := (by first | exact box_step hB3 hb3 (Nat.le_refl _) | exact box_step hB3.drew hb3 (Nat.le_refl _))) | (go_simp; go_at_call_of 61 (Value.agg #[Value.int IntKind.i64 (F k).s.n, Value.int IntKind.i64 (F k).s.d]); refine (sFrac_any (F k).s _).mono ?_; rintro e y4 ⟨z4, rfl, hz4, hb4⟩; replace hz4 : Hid _ := hz4; have hR5 : Z.grownBy y4 u3.ownBlock := grown_call (by first | with_reducible exact hR4 | with_reducible exact grown_drew hR4) hb4; have hB5 : Below Z.heap.size Z y4 := (by first | exact box_step hB4 hb4 (Nat.le_refl _) | exact box_step hB4.drew hb4 (Nat.le_refl _))) | (refine step_pushG rfl (.tmp 17) (.tmp 34) rfl y4 z0 z1 z2 z3 z4 rfl w.heap.size u3 k (flat (frow R) k) (by simp [Act.eval]) (owns_later HOW.out hB5) 1 (by simp [Act.eval]) (by omega) (Nat.le_trans HZ.out.1.size hB5.size) ?_; intro v6 w6 hown6 hgrow6 hnn6; have hR6 := grown_trans (grown_alloc hR5 _) hgrow6))
      all_goals
        have HN : Hid ((v6 ≠ .slice none 0 0 ∧ w6.ownsRow w.heap.size 57 5 v6 (k + 1) (flat (frow (addR R k (r6 z0 z1 z2 z3 z4 0))) (k + 1)) ∧ ∀ i, i < k + 1 → Gc (addR R k (r6 z0 z1 z2 z3 z4 0) i) (faceC (F i))) ∧ Below w.heap.size w w6) := by
          refine ⟨⟨hnn6, ?_, gc_add HG.out ⟨fun j hj => match j, hj with | 0, _ => hz0.out | 1, _ => hz1.out | 2, _ => hz2.out | 3, _ => hz3.out | 4, _ => hz4.out⟩⟩, grown_below hR6 HZ.out.1 HZ.out.1.size fun q hq => (HOB.out q hq).1⟩
          rw [← frow_add]
          exact hown6
        clear hown6 hgrow6 hnn6 hR0 hR1 hR2 hR3 hR4 hR5 hR6 hB0 hB1 hB2 hB3 hB4 hB5 hb0 hb1 hb2 hb3 hb4 cc0 cc1 cc2 cc3 cc4 cc5 cc6 cc7 cc8 cc9 cc10
        go_wp2
        go_roundw
        case rel => exact ⟨k + 1, _, by omega, by simp, HN⟩
        case measure => simp [intOf]; omega
    · obtain rfl : k = n := by omega
      obtain ⟨g, c, rfl, h1, h2⟩ := owned_segV (F := frow R) (m := 5) (f := fun i j => fcl (R i) j) (fun i => rfl) (fun i hi j hj => match j, hj with | 0, _ => rfl | 1, _ => rfl | 2, _ => rfl | 3, _ => rfl | 4, _ => rfl) HT.out.1.2.1 HT.out.1.1
      have HN : Hid ((w.heap.size ≤ g ∧ SegV wr g 57 k 5 (fun i j => fcl (R i) j) ∧ ∀ i, i < k → Gc (R i) (faceC (F i))) ∧ Below w.heap.size w wr) := ⟨⟨h1, h2, HT.out.1.2.2⟩, HT.out.2⟩
      clear HT h1 h2
      go_wp2
      go_ret
      exact ⟨g, c, R, rfl, HN.out.1, HN.out.2⟩
end Go.Proofs.Ytjibogknakaokaa
