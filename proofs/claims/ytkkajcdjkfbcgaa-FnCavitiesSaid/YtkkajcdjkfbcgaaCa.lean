/- Cavities: plainly; a mirror's term of the specification. -/
import Derived.Test.YtkkajcdjkfbcgaaIi
import Derived.Test.YtkkajcdjkfbcgaaTl
namespace Go.Proofs.Ytkkajcdjkfbcgaa
open Go.RowKit
set_option linter.unusedVariables false
set_option linter.unusedSimpArgs false

theorem zq_no : zQ.ok = false := by decide
/-- One less a length by a radius; one of a plane mirror. -/
def sdK (L R : Q) : Bool := if R.n = 0 then true else subK one (divQ L R)
def sdQ (L R : Q) : Q := if R.n = 0 then one else subQ one (divQ L R)
theorem sd_z {L R : Q} (h : R.n = 0) : sdK L R = true ∧ sdQ L R = one := by unfold sdK sdQ; rw [if_pos h, if_pos h]; exact ⟨rfl, rfl⟩
theorem sd_n {L R : Q} (h : ¬ R.n = 0) : sdK L R = subK one (divQ L R) ∧ sdQ L R = subQ one (divQ L R) := by unfold sdK sdQ; rw [if_neg h, if_neg h]; exact ⟨rfl, rfl⟩
theorem subK_zr (x : Q) : subK x zQ = false := by
  cases h : subK x zQ
  · rfl
  · exact absurd (subK_ok h).2 (by simp [zq_no])
theorem divK_sub {L R : Q} (h : divK L R = false) : subK one (divQ L R) = false := by rw [divQ_no h]; exact subK_zr one
theorem side_spec (L R : Q) (h : ¬ R.n = 0) (hL : L.ok = true) : leK one.ok one (dK L.ok L R) (dQ L.ok L R) = sdK L R ∧ leQ one.ok one (dK L.ok L R) (dQ L.ok L R) = sdQ L R := by
  rw [(sd_n h).1, (sd_n h).2, hL, one_ok]
  unfold leK leQ aK aQ dK dQ
  cases hd : divK L R
  · rw [divK_sub hd, subQ_no (divK_sub hd)]
    exact ⟨rfl, rfl⟩
  · rw [subK_neg, (sub_neg one (divQ L R)).2]
    simp
theorem side_flag (L R : Q) (b : Bool) (h : ¬ R.n = 0) : ((b || !divK L R) || !subK one (divQ L R)) = (b || !sdK L R) := by
  rw [(sd_n h).1]
  cases hd : divK L R
  · rw [divK_sub hd]; cases b <;> rfl
  · cases b <;> rfl
set_option maxRecDepth 20000 in
set_option maxHeartbeats 1600000 in
theorem sside_0 (L R : Q) (w : World) (h0 : (R.n == 0) = true) : Calls Try.prog 61 #[.agg #[.int .i64 L.n, .int .i64 L.d], .agg #[.int .i64 R.n, .int .i64 R.d]] w fun e w' => e = .returned (.agg #[.bool true, .int .i64 1, .int .i64 1]) ∧ Below w.heap.size w w' := by
  go_enter Try.func61, Try.ntmps61
  go_wp2_with fail
  refine (sint _ _).mono ?_
  rintro e w1 ⟨rfl, hb⟩
  have HO : Hid (Below w.heap.size w w1) := by refine box_step ?_ hb (by simp <;> omega); go_grown
  have X0 : Blk w1 (w.heap.size) #[.int .i64 L.n, .int .i64 L.d] 32 := Blk.old ((Blk.alloc (Blk.alloc (Blk.new (by simp)) _) _)) hb
  have K0 : Hid (w1.cell? ⟨w.heap.size, 0, none⟩ = some (.int .i64 L.n)) := X0.cell rfl
  have K1 : Hid (w1.cell? ⟨w.heap.size, 1, none⟩ = some (.int .i64 L.d)) := X0.cell rfl
  clear X0
  have X1 : Blk w1 (w.heap.size + 1) #[.int .i64 R.n, .int .i64 R.d] 32 := Blk.old ((Blk.alloc (Blk.new (by simp)) _)) hb
  have K2 : Hid (w1.cell? ⟨w.heap.size + 1, 0, none⟩ = some (.int .i64 R.n)) := X1.cell rfl
  have K3 : Hid (w1.cell? ⟨w.heap.size + 1, 1, none⟩ = some (.int .i64 R.d)) := X1.cell rfl
  clear X1
  have RB : Hid (Blk w1 (w.heap.size + 1 + 1) #[.bool false, .int .i64 0, .int .i64 0] 98) := Blk.old (Blk.new (by simp)) hb
  clear hb
  have c0 := K0.out
  have c1 := K1.out
  have c2 := K2.out
  have c3 := K3.out
  have r0 := RB.out.cell (j := 0) rfl
  have r1 := RB.out.cell (j := 1) rfl
  have r2 := RB.out.cell (j := 2) rfl
  have rf := RB.out.frozen
  go_wp2_with fail
  refine (sof one _).mono ?_
  rintro e w2 ⟨rfl, hb⟩
  clear c0 c1 c2 c3 r0 r1 r2 rf
  have HO : Hid (Below w.heap.size w w2) := by have h := HO.out; have hs := h.size; refine box_step ?_ hb (by first | exact hs | (simp <;> omega)); go_grown
  have RB : Hid (Blk w2 (w.heap.size + 1 + 1) #[.bool false, .int .i64 0, .int .i64 0] 98) := Blk.old (RB.out) hb
  have K4 : Hid (w2.cell? ⟨w.heap.size, 0, none⟩ = some (.int .i64 L.n)) := kold hb (K0.out)
  have K5 : Hid (w2.cell? ⟨w.heap.size, 1, none⟩ = some (.int .i64 L.d)) := kold hb (K1.out)
  have K6 : Hid (w2.cell? ⟨w.heap.size + 1, 0, none⟩ = some (.int .i64 R.n)) := kold hb (K2.out)
  have K7 : Hid (w2.cell? ⟨w.heap.size + 1, 1, none⟩ = some (.int .i64 R.d)) := kold hb (K3.out)
  clear K0 K1 K2 K3
  clear hb
  have r0 := RB.out.cell (j := 0) rfl
  have r1 := RB.out.cell (j := 1) rfl
  have r2 := RB.out.cell (j := 2) rfl
  have rf := RB.out.frozen
  go_wp2
  refine bodyPost_ret (v := .agg #[.bool true, .int .i64 1, .int .i64 1]) (by simp [results, Try.results61, go_sem, r0, r1, r2, World.cell?_alloc_lt, RB.out.lt] <;> (repeat' (first | rfl | apply And.intro))) rfl ⟨rfl, ?_⟩
  have h := HO.out
  have hlt := RB.out.lt
  have hsz := h.size
  go_grown
set_option maxRecDepth 20000 in
set_option maxHeartbeats 1600000 in
theorem sside_1 (L R : Q) (w : World) (h0 : (R.n == 0) = false) : Calls Try.prog 61 #[.agg #[.int .i64 L.n, .int .i64 L.d], .agg #[.int .i64 R.n, .int .i64 R.d]] w fun e w' => e = .returned (.agg #[.bool (leK one.ok one (dK L.ok L R) (dQ L.ok L R)), .int .i64 (leQ one.ok one (dK L.ok L R) (dQ L.ok L R)).n, .int .i64 (leQ one.ok one (dK L.ok L R) (dQ L.ok L R)).d]) ∧ Below w.heap.size w w' := by
  have bd := dQ_bd L.ok L R
  go_enter Try.func61, Try.ntmps61
  go_upto_region 3 with fail
  obtain ⟨w1, hX⟩ : ∃ X, X = (((w.alloc (.cells #[.int .i64 L.n, .int .i64 L.d] 32)).alloc (.cells #[.int .i64 R.n, .int .i64 R.d] 32)).alloc (.cells #[.bool false, .int .i64 0, .int .i64 0] 98)) := ⟨_, rfl⟩
  rw [← hX]
  have HO : Hid (Below w.heap.size w w1) := by show Below w.heap.size w w1; rw [hX]; go_grown
  have K0 : Hid (w1.cell? ⟨w.heap.size, 0, none⟩ = some (.int .i64 L.n)) := by show w1.cell? ⟨w.heap.size, 0, none⟩ = some (.int .i64 L.n); rw [hX]; exact cell_old (cell_old (cell_new (by simp) rfl))
  have K1 : Hid (w1.cell? ⟨w.heap.size, 1, none⟩ = some (.int .i64 L.d)) := by show w1.cell? ⟨w.heap.size, 1, none⟩ = some (.int .i64 L.d); rw [hX]; exact cell_old (cell_old (cell_new (by simp) rfl))
  have K2 : Hid (w1.cell? ⟨w.heap.size + 1, 0, none⟩ = some (.int .i64 R.n)) := by show w1.cell? ⟨w.heap.size + 1, 0, none⟩ = some (.int .i64 R.n); rw [hX]; exact cell_old (cell_new (by simp) rfl)
  have K3 : Hid (w1.cell? ⟨w.heap.size + 1, 1, none⟩ = some (.int .i64 R.d)) := by show w1.cell? ⟨w.heap.size + 1, 1, none⟩ = some (.int .i64 R.d); rw [hX]; exact cell_old (cell_new (by simp) rfl)
  have RB : Hid (Blk w1 (w.heap.size + 1 + 1) #[.bool false, .int .i64 0, .int .i64 0] 98) := by show Blk w1 (w.heap.size + 1 + 1) #[.bool false, .int .i64 0, .int .i64 0] 98; rw [hX]; exact Blk.new (by simp)
  clear hX
  have h0 : Own (w.heap.size + 1 + 1) w1 (w.heap.size + 1 + 1) 3 98 w1 := ⟨Below.refl _ _, Nat.le_refl _, _, RB.out, rfl⟩
  have k0 : ∀ W, Own (w.heap.size + 1 + 1) w1 (w.heap.size + 1 + 1) 3 98 W → W.cell? ⟨w.heap.size, 0, none⟩ = some (.int .i64 L.n) := fun _ h => h.old (by simp <;> omega) K0.out
  have k1 : ∀ W, Own (w.heap.size + 1 + 1) w1 (w.heap.size + 1 + 1) 3 98 W → W.cell? ⟨w.heap.size, 1, none⟩ = some (.int .i64 L.d) := fun _ h => h.old (by simp <;> omega) K1.out
  have k2 : ∀ W, Own (w.heap.size + 1 + 1) w1 (w.heap.size + 1 + 1) 3 98 W → W.cell? ⟨w.heap.size + 1, 0, none⟩ = some (.int .i64 R.n) := fun _ h => h.old (by simp <;> omega) K2.out
  have k3 : ∀ W, Own (w.heap.size + 1 + 1) w1 (w.heap.size + 1 + 1) 3 98 W → W.cell? ⟨w.heap.size + 1, 1, none⟩ = some (.int .i64 R.d) := fun _ h => h.old (by simp <;> omega) K3.out
  have g0 : ∀ W, Own (w.heap.size + 1 + 1) w1 (w.heap.size + 1 + 1) 3 98 W → W.cell? ⟨w.heap.size + 1 + 1, 0, none⟩ = some (got W (w.heap.size + 1 + 1) 0) := fun _ h => h.cell (by omega)
  have g1 : ∀ W, Own (w.heap.size + 1 + 1) w1 (w.heap.size + 1 + 1) 3 98 W → W.cell? ⟨w.heap.size + 1 + 1, 1, none⟩ = some (got W (w.heap.size + 1 + 1) 1) := fun _ h => h.cell (by omega)
  have g2 : ∀ W, Own (w.heap.size + 1 + 1) w1 (w.heap.size + 1 + 1) 3 98 W → W.cell? ⟨w.heap.size + 1 + 1, 2, none⟩ = some (got W (w.heap.size + 1 + 1) 2) := fun _ h => h.cell (by omega)
  have gf : ∀ W j, Own (w.heap.size + 1 + 1) w1 (w.heap.size + 1 + 1) 3 98 W → W.frozen? ⟨w.heap.size + 1 + 1, j, none⟩ = false := fun _ j h => h.frozen j
  go_wp2_with fail
  go_region_held (fun W => Own (w.heap.size + 1 + 1) w1 (w.heap.size + 1 + 1) 3 98 W) (first | with_reducible assumption | with_reducible exact Own.drew ‹_› | with_reducible exact Own.drewN ‹_› _ | with_reducible exact Own.set (Own.set (Own.set ‹_› _ _) _ _) _ _) (first | (go_at_call 66; refine (sint _ _).mono ?_; rintro e w1 ⟨rfl, hb1⟩; have hR1 := Own.call ‹_› hb1) | (go_at_call 65; refine (sof one _).mono ?_; rintro e w1 ⟨rfl, hb1⟩; have hR1 := Own.call ‹_› hb1) | (go_at_call 65; refine (sof L _).mono ?_; rintro e w1 ⟨rfl, hb1⟩; have hR1 := Own.call ‹_› hb1) | (go_at_call 106; refine (sdiv7 _ _ _ _).mono ?_; rintro e w1 ⟨rfl, hb1⟩; have hR1 := Own.call ‹_› hb1) | (go_at_call 63; refine (sless _ _ _ _ _ bd.1 bd.2).mono ?_; rintro e w1 ⟨rfl, hb1⟩; have hR1 := Own.call ‹_› hb1))
  have c0 := g0 _ hR1
  have c1 := g1 _ hR1
  have c2 := g2 _ hR1
  clear k0 k1 k2 k3 g0 g1 g2 gf
  repeat go_step
  refine bodyPost_ret (v := .agg #[.bool (leK one.ok one (dK L.ok L R) (dQ L.ok L R)), .int .i64 (leQ one.ok one (dK L.ok L R) (dQ L.ok L R)).n, .int .i64 (leQ one.ok one (dK L.ok L R) (dQ L.ok L R)).d]) (by simp [results, Try.results61, go_sem, c0, c1, c2] <;> (repeat' (first | rfl | apply And.intro))) rfl ⟨rfl, ?_⟩
  exact Own.out (Own.set (Own.set (Own.set hR1 0 _) 1 _) 2 _) HO.out (by omega)
theorem sside (L R : Q) (w : World) (hL : L.ok = true) : Calls Try.prog 61 #[.agg #[.int .i64 L.n, .int .i64 L.d], .agg #[.int .i64 R.n, .int .i64 R.d]] w fun e w' => e = .returned (.agg #[.bool (sdK L R), .int .i64 (sdQ L R).n, .int .i64 (sdQ L R).d]) ∧ Below w.heap.size w w' := by
  by_cases h : R.n = 0
  · rw [(sd_z (L := L) h).1, (sd_z (L := L) h).2]
    exact sside_0 L R w (by simpa using h)
  · rw [← (side_spec L R h hL).1, ← (side_spec L R h hL).2]
    exact sside_1 L R w (by simpa using h)
end Go.Proofs.Ytkkajcdjkfbcgaa
