/- Determinants and invariants: the specification's way. -/
import Derived.Test.YtnikgmjjkdhjbaaJn
import Derived.Test.YtnikgmjjkdhjbaaPu
namespace Go.Proofs.Ytnikgmjjkdhjbaa
open Go.RowKit
set_option linter.unusedVariables false
set_option linter.unusedSimpArgs false
/-- A ray: height and slope. -/
structure Ry where
  Y : Q
  U : Q
def Ry.ok (r : Ry) : Bool := r.Y.ok && r.U.ok
set_option maxHeartbeats 1600000 in
theorem sray_0 (r : Ry) (w : World) (hY : r.Y.ok = false) : Calls Try.prog 81 #[.agg #[.int .i64 r.Y.n, .int .i64 r.Y.d, .int .i64 r.U.n, .int .i64 r.U.d]] w fun e w' => e = .returned (.bool false) ∧ Below w.heap.size w w' := by
  have qY := fault_eq r.Y.n r.Y.d
  rw [show rightB r.Y.n r.Y.d = r.Y.ok from rfl] at qY
  go_enter Try.func81, Try.ntmps81
  go_wp2_with fail
  refine (sfaultq r.Y _).mono ?_
  rintro e w1 ⟨rfl, hb⟩
  have HO : Hid (Below w.heap.size w w1) := by refine box_step ?_ hb (by simp <;> omega); go_grown
  have X0 : Blk w1 (w.heap.size) #[.int .i64 r.Y.n, .int .i64 r.Y.d, .int .i64 r.U.n, .int .i64 r.U.d] 70 := Blk.old ((Blk.new (by simp))) hb
  have K0 : Hid (w1.cell? ⟨w.heap.size, 0, none⟩ = some (.int .i64 r.Y.n)) := X0.cell rfl
  have K1 : Hid (w1.cell? ⟨w.heap.size, 1, none⟩ = some (.int .i64 r.Y.d)) := X0.cell rfl
  have K2 : Hid (w1.cell? ⟨w.heap.size, 2, none⟩ = some (.int .i64 r.U.n)) := X0.cell rfl
  have K3 : Hid (w1.cell? ⟨w.heap.size, 3, none⟩ = some (.int .i64 r.U.d)) := X0.cell rfl
  clear X0
  clear hb
  have c0 := K0.out
  have c1 := K1.out
  have c2 := K2.out
  have c3 := K3.out
  go_wp2
  go_ret
  refine ⟨by first | rfl | simp, ?_⟩
  have h := HO.out
  have hsz := h.size
  go_grown
set_option maxHeartbeats 1600000 in
theorem sray_1 (r : Ry) (w : World) (hY : r.Y.ok = true) : Calls Try.prog 81 #[.agg #[.int .i64 r.Y.n, .int .i64 r.Y.d, .int .i64 r.U.n, .int .i64 r.U.d]] w fun e w' => e = .returned (.bool r.U.ok) ∧ Below w.heap.size w w' := by
  have qY := fault_eq r.Y.n r.Y.d
  rw [show rightB r.Y.n r.Y.d = r.Y.ok from rfl] at qY
  have qU := fault_eq r.U.n r.U.d
  rw [show rightB r.U.n r.U.d = r.U.ok from rfl] at qU
  go_enter Try.func81, Try.ntmps81
  go_wp2_with fail
  refine (sfaultq r.Y _).mono ?_
  rintro e w1 ⟨rfl, hb⟩
  have HO : Hid (Below w.heap.size w w1) := by refine box_step ?_ hb (by simp <;> omega); go_grown
  have X0 : Blk w1 (w.heap.size) #[.int .i64 r.Y.n, .int .i64 r.Y.d, .int .i64 r.U.n, .int .i64 r.U.d] 70 := Blk.old ((Blk.new (by simp))) hb
  have K0 : Hid (w1.cell? ⟨w.heap.size, 0, none⟩ = some (.int .i64 r.Y.n)) := X0.cell rfl
  have K1 : Hid (w1.cell? ⟨w.heap.size, 1, none⟩ = some (.int .i64 r.Y.d)) := X0.cell rfl
  have K2 : Hid (w1.cell? ⟨w.heap.size, 2, none⟩ = some (.int .i64 r.U.n)) := X0.cell rfl
  have K3 : Hid (w1.cell? ⟨w.heap.size, 3, none⟩ = some (.int .i64 r.U.d)) := X0.cell rfl
  clear X0
  clear hb
  have c0 := K0.out
  have c1 := K1.out
  have c2 := K2.out
  have c3 := K3.out
  go_wp2_with fail
  refine (sfaultq r.U _).mono ?_
  rintro e w2 ⟨rfl, hb⟩
  clear c0 c1 c2 c3
  have HO : Hid (Below w.heap.size w w2) := by have h := HO.out; have hs := h.size; refine box_step ?_ hb (by first | exact hs | (simp <;> omega)); go_grown
  have K4 : Hid (w2.cell? ⟨w.heap.size, 0, none⟩ = some (.int .i64 r.Y.n)) := kold hb (K0.out)
  have K5 : Hid (w2.cell? ⟨w.heap.size, 1, none⟩ = some (.int .i64 r.Y.d)) := kold hb (K1.out)
  have K6 : Hid (w2.cell? ⟨w.heap.size, 2, none⟩ = some (.int .i64 r.U.n)) := kold hb (K2.out)
  have K7 : Hid (w2.cell? ⟨w.heap.size, 3, none⟩ = some (.int .i64 r.U.d)) := kold hb (K3.out)
  clear K0 K1 K2 K3
  clear hb
  have c0 := K4.out
  have c1 := K5.out
  have c2 := K6.out
  have c3 := K7.out
  go_wp2
  go_ret
  refine ⟨by first | rfl | simp, ?_⟩
  have h := HO.out
  have hsz := h.size
  go_grown
theorem sray (r : Ry) (w : World) : Calls Try.prog 81 #[.agg #[.int .i64 r.Y.n, .int .i64 r.Y.d, .int .i64 r.U.n, .int .i64 r.U.d]] w fun e w' => e = .returned (.bool r.ok) ∧ Below w.heap.size w w' := by
  unfold Ry.ok
  cases hY : r.Y.ok
  · exact sray_0 r w hY
  · have := sray_1 r w hY
    simpa using this
/-- The code of two products, one less the other: of four fractions. -/
def apC (a b c d : Q) : Int := if (a.ok && b.ok && c.ok && d.ok) = true then tC (apK a b c d) else 1
theorem ap_out {a b c d : Q} (h : (a.ok && b.ok && c.ok && d.ok) = true) : apC a b c d = tC (apK a b c d) := if_pos h
theorem ap_sel (k : Bool) (x : Q) : sel (tC k) x = tQ k x := by cases k <;> rfl
set_option maxHeartbeats 1600000 in
theorem sdet_0 (m : Mx) (w : World) (h0 : m.ok = false) : Calls Try.prog 32 #[.agg #[.int .i64 m.A.n, .int .i64 m.A.d, .int .i64 m.B.n, .int .i64 m.B.d, .int .i64 m.C.n, .int .i64 m.C.d, .int .i64 m.D.n, .int .i64 m.D.d]] w fun e w' => e = .returned (.agg #[.int .i64 1, .int .i64 0, .int .i64 0]) ∧ Below w.heap.size w w' := by
  go_enter Try.func32, Try.ntmps32
  go_wp2_with fail
  refine (sgood m _).mono ?_
  rintro e w1 ⟨rfl, hb⟩
  have HO : Hid (Below w.heap.size w w1) := by refine box_step ?_ hb (by simp <;> omega); go_grown
  have X0 : Blk w1 (w.heap.size) #[.int .i64 m.A.n, .int .i64 m.A.d, .int .i64 m.B.n, .int .i64 m.B.d, .int .i64 m.C.n, .int .i64 m.C.d, .int .i64 m.D.n, .int .i64 m.D.d] 27 := Blk.old ((Blk.alloc (Blk.new (by simp)) _)) hb
  have K0 : Hid (w1.cell? ⟨w.heap.size, 0, none⟩ = some (.int .i64 m.A.n)) := X0.cell rfl
  have K1 : Hid (w1.cell? ⟨w.heap.size, 1, none⟩ = some (.int .i64 m.A.d)) := X0.cell rfl
  have K2 : Hid (w1.cell? ⟨w.heap.size, 2, none⟩ = some (.int .i64 m.B.n)) := X0.cell rfl
  have K3 : Hid (w1.cell? ⟨w.heap.size, 3, none⟩ = some (.int .i64 m.B.d)) := X0.cell rfl
  have K4 : Hid (w1.cell? ⟨w.heap.size, 4, none⟩ = some (.int .i64 m.C.n)) := X0.cell rfl
  have K5 : Hid (w1.cell? ⟨w.heap.size, 5, none⟩ = some (.int .i64 m.C.d)) := X0.cell rfl
  have K6 : Hid (w1.cell? ⟨w.heap.size, 6, none⟩ = some (.int .i64 m.D.n)) := X0.cell rfl
  have K7 : Hid (w1.cell? ⟨w.heap.size, 7, none⟩ = some (.int .i64 m.D.d)) := X0.cell rfl
  clear X0
  have RB : Hid (Blk w1 (w.heap.size + 1) #[.int .i64 0, .int .i64 0, .int .i64 0] 60) := Blk.old (Blk.new (by simp)) hb
  clear hb
  have r0 := RB.out.cell (j := 0) rfl
  have r1 := RB.out.cell (j := 1) rfl
  have r2 := RB.out.cell (j := 2) rfl
  have rf := RB.out.frozen
  go_wp2
  refine bodyPost_ret (v := .agg #[.int .i64 1, .int .i64 0, .int .i64 0]) (by simp [results, Try.results32, go_sem, r0, r1, r2, World.cell?_alloc_lt, RB.out.lt] <;> (repeat' (first | rfl | apply And.intro))) rfl ⟨rfl, ?_⟩
  have h := HO.out
  have hlt := RB.out.lt
  have hsz := h.size
  go_grown
set_option maxHeartbeats 1600000 in
theorem sdet_1 (m : Mx) (w : World) (h0 : m.ok = true) : Calls Try.prog 32 #[.agg #[.int .i64 m.A.n, .int .i64 m.A.d, .int .i64 m.B.n, .int .i64 m.B.d, .int .i64 m.C.n, .int .i64 m.C.d, .int .i64 m.D.n, .int .i64 m.D.d]] w fun e w' => e = .returned (.agg #[.int .i64 (tC (apK m.A m.D m.B m.C)), .int .i64 (tQ (apK m.A m.D m.B m.C) (apQ m.A m.D m.B m.C)).n, .int .i64 (tQ (apK m.A m.D m.B m.C) (apQ m.A m.D m.B m.C)).d]) ∧ Below w.heap.size w w' := by
  go_enter Try.func32, Try.ntmps32
  go_wp2_with fail
  refine (sgood m _).mono ?_
  rintro e w1 ⟨rfl, hb⟩
  have HO : Hid (Below w.heap.size w w1) := by refine box_step ?_ hb (by simp <;> omega); go_grown
  have X0 : Blk w1 (w.heap.size) #[.int .i64 m.A.n, .int .i64 m.A.d, .int .i64 m.B.n, .int .i64 m.B.d, .int .i64 m.C.n, .int .i64 m.C.d, .int .i64 m.D.n, .int .i64 m.D.d] 27 := Blk.old ((Blk.alloc (Blk.new (by simp)) _)) hb
  have K0 : Hid (w1.cell? ⟨w.heap.size, 0, none⟩ = some (.int .i64 m.A.n)) := X0.cell rfl
  have K1 : Hid (w1.cell? ⟨w.heap.size, 1, none⟩ = some (.int .i64 m.A.d)) := X0.cell rfl
  have K2 : Hid (w1.cell? ⟨w.heap.size, 2, none⟩ = some (.int .i64 m.B.n)) := X0.cell rfl
  have K3 : Hid (w1.cell? ⟨w.heap.size, 3, none⟩ = some (.int .i64 m.B.d)) := X0.cell rfl
  have K4 : Hid (w1.cell? ⟨w.heap.size, 4, none⟩ = some (.int .i64 m.C.n)) := X0.cell rfl
  have K5 : Hid (w1.cell? ⟨w.heap.size, 5, none⟩ = some (.int .i64 m.C.d)) := X0.cell rfl
  have K6 : Hid (w1.cell? ⟨w.heap.size, 6, none⟩ = some (.int .i64 m.D.n)) := X0.cell rfl
  have K7 : Hid (w1.cell? ⟨w.heap.size, 7, none⟩ = some (.int .i64 m.D.d)) := X0.cell rfl
  clear X0
  have RB : Hid (Blk w1 (w.heap.size + 1) #[.int .i64 0, .int .i64 0, .int .i64 0] 60) := Blk.old (Blk.new (by simp)) hb
  clear hb
  have h0 : Own (w.heap.size + 1) w1 (w.heap.size + 1) 3 60 w1 := ⟨Below.refl _ _, Nat.le_refl _, _, RB.out, rfl⟩
  have k0 : ∀ W, Own (w.heap.size + 1) w1 (w.heap.size + 1) 3 60 W → W.cell? ⟨w.heap.size, 0, none⟩ = some (.int .i64 m.A.n) := fun _ h => h.old (by simp <;> omega) K0.out
  have k1 : ∀ W, Own (w.heap.size + 1) w1 (w.heap.size + 1) 3 60 W → W.cell? ⟨w.heap.size, 1, none⟩ = some (.int .i64 m.A.d) := fun _ h => h.old (by simp <;> omega) K1.out
  have k2 : ∀ W, Own (w.heap.size + 1) w1 (w.heap.size + 1) 3 60 W → W.cell? ⟨w.heap.size, 2, none⟩ = some (.int .i64 m.B.n) := fun _ h => h.old (by simp <;> omega) K2.out
  have k3 : ∀ W, Own (w.heap.size + 1) w1 (w.heap.size + 1) 3 60 W → W.cell? ⟨w.heap.size, 3, none⟩ = some (.int .i64 m.B.d) := fun _ h => h.old (by simp <;> omega) K3.out
  have k4 : ∀ W, Own (w.heap.size + 1) w1 (w.heap.size + 1) 3 60 W → W.cell? ⟨w.heap.size, 4, none⟩ = some (.int .i64 m.C.n) := fun _ h => h.old (by simp <;> omega) K4.out
  have k5 : ∀ W, Own (w.heap.size + 1) w1 (w.heap.size + 1) 3 60 W → W.cell? ⟨w.heap.size, 5, none⟩ = some (.int .i64 m.C.d) := fun _ h => h.old (by simp <;> omega) K5.out
  have k6 : ∀ W, Own (w.heap.size + 1) w1 (w.heap.size + 1) 3 60 W → W.cell? ⟨w.heap.size, 6, none⟩ = some (.int .i64 m.D.n) := fun _ h => h.old (by simp <;> omega) K6.out
  have k7 : ∀ W, Own (w.heap.size + 1) w1 (w.heap.size + 1) 3 60 W → W.cell? ⟨w.heap.size, 7, none⟩ = some (.int .i64 m.D.d) := fun _ h => h.old (by simp <;> omega) K7.out
  have g0 : ∀ W, Own (w.heap.size + 1) w1 (w.heap.size + 1) 3 60 W → W.cell? ⟨w.heap.size + 1, 0, none⟩ = some (got W (w.heap.size + 1) 0) := fun _ h => h.cell (by omega)
  have g1 : ∀ W, Own (w.heap.size + 1) w1 (w.heap.size + 1) 3 60 W → W.cell? ⟨w.heap.size + 1, 1, none⟩ = some (got W (w.heap.size + 1) 1) := fun _ h => h.cell (by omega)
  have g2 : ∀ W, Own (w.heap.size + 1) w1 (w.heap.size + 1) 3 60 W → W.cell? ⟨w.heap.size + 1, 2, none⟩ = some (got W (w.heap.size + 1) 2) := fun _ h => h.cell (by omega)
  have gf : ∀ W j, Own (w.heap.size + 1) w1 (w.heap.size + 1) 3 60 W → W.frozen? ⟨w.heap.size + 1, j, none⟩ = false := fun _ j h => h.frozen j
  go_wp2_with fail
  go_region_held (fun W => Own (w.heap.size + 1) w1 (w.heap.size + 1) 3 60 W) (first | with_reducible assumption | with_reducible exact Own.drew ‹_› | with_reducible exact Own.drewN ‹_› _ | with_reducible exact Own.set (Own.set (Own.set ‹_› _ _) _ _) _ _) (first | (go_at_call 57; refine (smul7 _ _ _).mono ?_; rintro e w1 ⟨rfl, hb1⟩; have hR1 := Own.call ‹_› hb1) | (go_at_call 79; refine (sless _ _ _ _ _ (mulQ_bd _ _).1 (mulQ_bd _ _).2).mono ?_; rintro e w1 ⟨rfl, hb1⟩; have hR1 := Own.call ‹_› hb1) | (go_at_call 78; refine (stold _ _ _).mono ?_; rintro e w1 ⟨rfl, hb1⟩; have hR1 := Own.call ‹_› hb1))
  have c0 := g0 _ hR1
  have c1 := g1 _ hR1
  have c2 := g2 _ hR1
  clear k0 k1 k2 k3 k4 k5 k6 k7 g0 g1 g2 gf
  repeat go_step
  refine bodyPost_ret (v := .agg #[.int .i64 (tC (apK m.A m.D m.B m.C)), .int .i64 (tQ (apK m.A m.D m.B m.C) (apQ m.A m.D m.B m.C)).n, .int .i64 (tQ (apK m.A m.D m.B m.C) (apQ m.A m.D m.B m.C)).d]) (by simp [results, Try.results32, go_sem, c0, c1, c2] <;> (repeat' (first | rfl | apply And.intro))) rfl ⟨rfl, ?_⟩
  exact Own.out (Own.set (Own.set (Own.set hR1 0 _) 1 _) 2 _) HO.out (by omega)
theorem sdet (m : Mx) (w : World) : Calls Try.prog 32 #[.agg #[.int .i64 m.A.n, .int .i64 m.A.d, .int .i64 m.B.n, .int .i64 m.B.d, .int .i64 m.C.n, .int .i64 m.C.d, .int .i64 m.D.n, .int .i64 m.D.d]] w fun e w' => e = .returned (.agg #[.int .i64 (apC m.A m.D m.B m.C), .int .i64 (sel (apC m.A m.D m.B m.C) (apQ m.A m.D m.B m.C)).n, .int .i64 (sel (apC m.A m.D m.B m.C) (apQ m.A m.D m.B m.C)).d]) ∧ Below w.heap.size w w' := by
  have hm : m.ok = (m.A.ok && m.D.ok && m.B.ok && m.C.ok) := by unfold Mx.ok; cases m.A.ok <;> cases m.B.ok <;> cases m.C.ok <;> cases m.D.ok <;> rfl
  cases h : m.ok
  · rw [show apC m.A m.D m.B m.C = 1 from by unfold apC; rw [← hm, h]; rfl]
    exact sdet_0 m w h
  · rw [ap_out (by rw [← hm, h]), ap_sel]
    exact sdet_1 m w h
set_option maxHeartbeats 1600000 in
theorem sinv_0 (r s : Ry) (w : World) (h0 : r.ok = false) : Calls Try.prog 42 #[.agg #[.int .i64 r.Y.n, .int .i64 r.Y.d, .int .i64 r.U.n, .int .i64 r.U.d], .agg #[.int .i64 s.Y.n, .int .i64 s.Y.d, .int .i64 s.U.n, .int .i64 s.U.d]] w fun e w' => e = .returned (.agg #[.int .i64 1, .int .i64 0, .int .i64 0]) ∧ Below w.heap.size w w' := by
  go_enter Try.func42, Try.ntmps42
  go_wp2_with fail
  refine (sray r _).mono ?_
  rintro e w1 ⟨rfl, hb⟩
  have HO : Hid (Below w.heap.size w w1) := by refine box_step ?_ hb (by simp <;> omega); go_grown
  have X0 : Blk w1 (w.heap.size) #[.int .i64 r.Y.n, .int .i64 r.Y.d, .int .i64 r.U.n, .int .i64 r.U.d] 70 := Blk.old ((Blk.alloc (Blk.alloc (Blk.new (by simp)) _) _)) hb
  have K0 : Hid (w1.cell? ⟨w.heap.size, 0, none⟩ = some (.int .i64 r.Y.n)) := X0.cell rfl
  have K1 : Hid (w1.cell? ⟨w.heap.size, 1, none⟩ = some (.int .i64 r.Y.d)) := X0.cell rfl
  have K2 : Hid (w1.cell? ⟨w.heap.size, 2, none⟩ = some (.int .i64 r.U.n)) := X0.cell rfl
  have K3 : Hid (w1.cell? ⟨w.heap.size, 3, none⟩ = some (.int .i64 r.U.d)) := X0.cell rfl
  clear X0
  have X1 : Blk w1 (w.heap.size + 1) #[.int .i64 s.Y.n, .int .i64 s.Y.d, .int .i64 s.U.n, .int .i64 s.U.d] 70 := Blk.old ((Blk.alloc (Blk.new (by simp)) _)) hb
  have K4 : Hid (w1.cell? ⟨w.heap.size + 1, 0, none⟩ = some (.int .i64 s.Y.n)) := X1.cell rfl
  have K5 : Hid (w1.cell? ⟨w.heap.size + 1, 1, none⟩ = some (.int .i64 s.Y.d)) := X1.cell rfl
  have K6 : Hid (w1.cell? ⟨w.heap.size + 1, 2, none⟩ = some (.int .i64 s.U.n)) := X1.cell rfl
  have K7 : Hid (w1.cell? ⟨w.heap.size + 1, 3, none⟩ = some (.int .i64 s.U.d)) := X1.cell rfl
  clear X1
  have RB : Hid (Blk w1 (w.heap.size + 1 + 1) #[.int .i64 0, .int .i64 0, .int .i64 0] 60) := Blk.old (Blk.new (by simp)) hb
  clear hb
  have r0 := RB.out.cell (j := 0) rfl
  have r1 := RB.out.cell (j := 1) rfl
  have r2 := RB.out.cell (j := 2) rfl
  have rf := RB.out.frozen
  go_wp2
  refine bodyPost_ret (v := .agg #[.int .i64 1, .int .i64 0, .int .i64 0]) (by simp [results, Try.results42, go_sem, r0, r1, r2, World.cell?_alloc_lt, RB.out.lt] <;> (repeat' (first | rfl | apply And.intro))) rfl ⟨rfl, ?_⟩
  have h := HO.out
  have hlt := RB.out.lt
  have hsz := h.size
  go_grown
set_option maxHeartbeats 1600000 in
theorem sinv_1 (r s : Ry) (w : World) (h0 : r.ok = true) (h1 : s.ok = false) : Calls Try.prog 42 #[.agg #[.int .i64 r.Y.n, .int .i64 r.Y.d, .int .i64 r.U.n, .int .i64 r.U.d], .agg #[.int .i64 s.Y.n, .int .i64 s.Y.d, .int .i64 s.U.n, .int .i64 s.U.d]] w fun e w' => e = .returned (.agg #[.int .i64 1, .int .i64 0, .int .i64 0]) ∧ Below w.heap.size w w' := by
  go_enter Try.func42, Try.ntmps42
  go_wp2_with fail
  refine (sray r _).mono ?_
  rintro e w1 ⟨rfl, hb⟩
  have HO : Hid (Below w.heap.size w w1) := by refine box_step ?_ hb (by simp <;> omega); go_grown
  have X0 : Blk w1 (w.heap.size) #[.int .i64 r.Y.n, .int .i64 r.Y.d, .int .i64 r.U.n, .int .i64 r.U.d] 70 := Blk.old ((Blk.alloc (Blk.alloc (Blk.new (by simp)) _) _)) hb
  have K0 : Hid (w1.cell? ⟨w.heap.size, 0, none⟩ = some (.int .i64 r.Y.n)) := X0.cell rfl
  have K1 : Hid (w1.cell? ⟨w.heap.size, 1, none⟩ = some (.int .i64 r.Y.d)) := X0.cell rfl
  have K2 : Hid (w1.cell? ⟨w.heap.size, 2, none⟩ = some (.int .i64 r.U.n)) := X0.cell rfl
  have K3 : Hid (w1.cell? ⟨w.heap.size, 3, none⟩ = some (.int .i64 r.U.d)) := X0.cell rfl
  clear X0
  have X1 : Blk w1 (w.heap.size + 1) #[.int .i64 s.Y.n, .int .i64 s.Y.d, .int .i64 s.U.n, .int .i64 s.U.d] 70 := Blk.old ((Blk.alloc (Blk.new (by simp)) _)) hb
  have K4 : Hid (w1.cell? ⟨w.heap.size + 1, 0, none⟩ = some (.int .i64 s.Y.n)) := X1.cell rfl
  have K5 : Hid (w1.cell? ⟨w.heap.size + 1, 1, none⟩ = some (.int .i64 s.Y.d)) := X1.cell rfl
  have K6 : Hid (w1.cell? ⟨w.heap.size + 1, 2, none⟩ = some (.int .i64 s.U.n)) := X1.cell rfl
  have K7 : Hid (w1.cell? ⟨w.heap.size + 1, 3, none⟩ = some (.int .i64 s.U.d)) := X1.cell rfl
  clear X1
  have RB : Hid (Blk w1 (w.heap.size + 1 + 1) #[.int .i64 0, .int .i64 0, .int .i64 0] 60) := Blk.old (Blk.new (by simp)) hb
  clear hb
  have c4 := K4.out
  have c5 := K5.out
  have c6 := K6.out
  have c7 := K7.out
  have r0 := RB.out.cell (j := 0) rfl
  have r1 := RB.out.cell (j := 1) rfl
  have r2 := RB.out.cell (j := 2) rfl
  have rf := RB.out.frozen
  go_wp2_with fail
  refine (sray s _).mono ?_
  rintro e w2 ⟨rfl, hb⟩
  clear c4 c5 c6 c7 r0 r1 r2 rf
  have HO : Hid (Below w.heap.size w w2) := by have h := HO.out; have hs := h.size; refine box_step ?_ hb (by first | exact hs | (simp <;> omega)); go_grown
  have RB : Hid (Blk w2 (w.heap.size + 1 + 1) #[.int .i64 0, .int .i64 0, .int .i64 0] 60) := Blk.old (RB.out) hb
  have K8 : Hid (w2.cell? ⟨w.heap.size, 0, none⟩ = some (.int .i64 r.Y.n)) := kold hb (K0.out)
  have K9 : Hid (w2.cell? ⟨w.heap.size, 1, none⟩ = some (.int .i64 r.Y.d)) := kold hb (K1.out)
  have K10 : Hid (w2.cell? ⟨w.heap.size, 2, none⟩ = some (.int .i64 r.U.n)) := kold hb (K2.out)
  have K11 : Hid (w2.cell? ⟨w.heap.size, 3, none⟩ = some (.int .i64 r.U.d)) := kold hb (K3.out)
  have K12 : Hid (w2.cell? ⟨w.heap.size + 1, 0, none⟩ = some (.int .i64 s.Y.n)) := kold hb (K4.out)
  have K13 : Hid (w2.cell? ⟨w.heap.size + 1, 1, none⟩ = some (.int .i64 s.Y.d)) := kold hb (K5.out)
  have K14 : Hid (w2.cell? ⟨w.heap.size + 1, 2, none⟩ = some (.int .i64 s.U.n)) := kold hb (K6.out)
  have K15 : Hid (w2.cell? ⟨w.heap.size + 1, 3, none⟩ = some (.int .i64 s.U.d)) := kold hb (K7.out)
  clear K0 K1 K2 K3 K4 K5 K6 K7
  clear hb
  have r0 := RB.out.cell (j := 0) rfl
  have r1 := RB.out.cell (j := 1) rfl
  have r2 := RB.out.cell (j := 2) rfl
  have rf := RB.out.frozen
  go_wp2
  refine bodyPost_ret (v := .agg #[.int .i64 1, .int .i64 0, .int .i64 0]) (by simp [results, Try.results42, go_sem, r0, r1, r2, World.cell?_alloc_lt, RB.out.lt] <;> (repeat' (first | rfl | apply And.intro))) rfl ⟨rfl, ?_⟩
  have h := HO.out
  have hlt := RB.out.lt
  have hsz := h.size
  go_grown
set_option maxHeartbeats 1600000 in
theorem sinv_2 (r s : Ry) (w : World) (h0 : r.ok = true) (h1 : s.ok = true) : Calls Try.prog 42 #[.agg #[.int .i64 r.Y.n, .int .i64 r.Y.d, .int .i64 r.U.n, .int .i64 r.U.d], .agg #[.int .i64 s.Y.n, .int .i64 s.Y.d, .int .i64 s.U.n, .int .i64 s.U.d]] w fun e w' => e = .returned (.agg #[.int .i64 (tC (apK r.Y s.U s.Y r.U)), .int .i64 (tQ (apK r.Y s.U s.Y r.U) (apQ r.Y s.U s.Y r.U)).n, .int .i64 (tQ (apK r.Y s.U s.Y r.U) (apQ r.Y s.U s.Y r.U)).d]) ∧ Below w.heap.size w w' := by
  go_enter Try.func42, Try.ntmps42
  go_wp2_with fail
  refine (sray r _).mono ?_
  rintro e w1 ⟨rfl, hb⟩
  have HO : Hid (Below w.heap.size w w1) := by refine box_step ?_ hb (by simp <;> omega); go_grown
  have X0 : Blk w1 (w.heap.size) #[.int .i64 r.Y.n, .int .i64 r.Y.d, .int .i64 r.U.n, .int .i64 r.U.d] 70 := Blk.old ((Blk.alloc (Blk.alloc (Blk.new (by simp)) _) _)) hb
  have K0 : Hid (w1.cell? ⟨w.heap.size, 0, none⟩ = some (.int .i64 r.Y.n)) := X0.cell rfl
  have K1 : Hid (w1.cell? ⟨w.heap.size, 1, none⟩ = some (.int .i64 r.Y.d)) := X0.cell rfl
  have K2 : Hid (w1.cell? ⟨w.heap.size, 2, none⟩ = some (.int .i64 r.U.n)) := X0.cell rfl
  have K3 : Hid (w1.cell? ⟨w.heap.size, 3, none⟩ = some (.int .i64 r.U.d)) := X0.cell rfl
  clear X0
  have X1 : Blk w1 (w.heap.size + 1) #[.int .i64 s.Y.n, .int .i64 s.Y.d, .int .i64 s.U.n, .int .i64 s.U.d] 70 := Blk.old ((Blk.alloc (Blk.new (by simp)) _)) hb
  have K4 : Hid (w1.cell? ⟨w.heap.size + 1, 0, none⟩ = some (.int .i64 s.Y.n)) := X1.cell rfl
  have K5 : Hid (w1.cell? ⟨w.heap.size + 1, 1, none⟩ = some (.int .i64 s.Y.d)) := X1.cell rfl
  have K6 : Hid (w1.cell? ⟨w.heap.size + 1, 2, none⟩ = some (.int .i64 s.U.n)) := X1.cell rfl
  have K7 : Hid (w1.cell? ⟨w.heap.size + 1, 3, none⟩ = some (.int .i64 s.U.d)) := X1.cell rfl
  clear X1
  have RB : Hid (Blk w1 (w.heap.size + 1 + 1) #[.int .i64 0, .int .i64 0, .int .i64 0] 60) := Blk.old (Blk.new (by simp)) hb
  clear hb
  have c4 := K4.out
  have c5 := K5.out
  have c6 := K6.out
  have c7 := K7.out
  have r0 := RB.out.cell (j := 0) rfl
  have r1 := RB.out.cell (j := 1) rfl
  have r2 := RB.out.cell (j := 2) rfl
  have rf := RB.out.frozen
  go_wp2_with fail
  refine (sray s _).mono ?_
  rintro e w2 ⟨rfl, hb⟩
  clear c4 c5 c6 c7 r0 r1 r2 rf
  have HO : Hid (Below w.heap.size w w2) := by have h := HO.out; have hs := h.size; refine box_step ?_ hb (by first | exact hs | (simp <;> omega)); go_grown
  have RB : Hid (Blk w2 (w.heap.size + 1 + 1) #[.int .i64 0, .int .i64 0, .int .i64 0] 60) := Blk.old (RB.out) hb
  have K8 : Hid (w2.cell? ⟨w.heap.size, 0, none⟩ = some (.int .i64 r.Y.n)) := kold hb (K0.out)
  have K9 : Hid (w2.cell? ⟨w.heap.size, 1, none⟩ = some (.int .i64 r.Y.d)) := kold hb (K1.out)
  have K10 : Hid (w2.cell? ⟨w.heap.size, 2, none⟩ = some (.int .i64 r.U.n)) := kold hb (K2.out)
  have K11 : Hid (w2.cell? ⟨w.heap.size, 3, none⟩ = some (.int .i64 r.U.d)) := kold hb (K3.out)
  have K12 : Hid (w2.cell? ⟨w.heap.size + 1, 0, none⟩ = some (.int .i64 s.Y.n)) := kold hb (K4.out)
  have K13 : Hid (w2.cell? ⟨w.heap.size + 1, 1, none⟩ = some (.int .i64 s.Y.d)) := kold hb (K5.out)
  have K14 : Hid (w2.cell? ⟨w.heap.size + 1, 2, none⟩ = some (.int .i64 s.U.n)) := kold hb (K6.out)
  have K15 : Hid (w2.cell? ⟨w.heap.size + 1, 3, none⟩ = some (.int .i64 s.U.d)) := kold hb (K7.out)
  clear K0 K1 K2 K3 K4 K5 K6 K7
  clear hb
  have h0 : Own (w.heap.size + 1 + 1) w2 (w.heap.size + 1 + 1) 3 60 w2 := ⟨Below.refl _ _, Nat.le_refl _, _, RB.out, rfl⟩
  have k0 : ∀ W, Own (w.heap.size + 1 + 1) w2 (w.heap.size + 1 + 1) 3 60 W → W.cell? ⟨w.heap.size, 0, none⟩ = some (.int .i64 r.Y.n) := fun _ h => h.old (by simp <;> omega) K8.out
  have k1 : ∀ W, Own (w.heap.size + 1 + 1) w2 (w.heap.size + 1 + 1) 3 60 W → W.cell? ⟨w.heap.size, 1, none⟩ = some (.int .i64 r.Y.d) := fun _ h => h.old (by simp <;> omega) K9.out
  have k2 : ∀ W, Own (w.heap.size + 1 + 1) w2 (w.heap.size + 1 + 1) 3 60 W → W.cell? ⟨w.heap.size, 2, none⟩ = some (.int .i64 r.U.n) := fun _ h => h.old (by simp <;> omega) K10.out
  have k3 : ∀ W, Own (w.heap.size + 1 + 1) w2 (w.heap.size + 1 + 1) 3 60 W → W.cell? ⟨w.heap.size, 3, none⟩ = some (.int .i64 r.U.d) := fun _ h => h.old (by simp <;> omega) K11.out
  have k4 : ∀ W, Own (w.heap.size + 1 + 1) w2 (w.heap.size + 1 + 1) 3 60 W → W.cell? ⟨w.heap.size + 1, 0, none⟩ = some (.int .i64 s.Y.n) := fun _ h => h.old (by simp <;> omega) K12.out
  have k5 : ∀ W, Own (w.heap.size + 1 + 1) w2 (w.heap.size + 1 + 1) 3 60 W → W.cell? ⟨w.heap.size + 1, 1, none⟩ = some (.int .i64 s.Y.d) := fun _ h => h.old (by simp <;> omega) K13.out
  have k6 : ∀ W, Own (w.heap.size + 1 + 1) w2 (w.heap.size + 1 + 1) 3 60 W → W.cell? ⟨w.heap.size + 1, 2, none⟩ = some (.int .i64 s.U.n) := fun _ h => h.old (by simp <;> omega) K14.out
  have k7 : ∀ W, Own (w.heap.size + 1 + 1) w2 (w.heap.size + 1 + 1) 3 60 W → W.cell? ⟨w.heap.size + 1, 3, none⟩ = some (.int .i64 s.U.d) := fun _ h => h.old (by simp <;> omega) K15.out
  have g0 : ∀ W, Own (w.heap.size + 1 + 1) w2 (w.heap.size + 1 + 1) 3 60 W → W.cell? ⟨w.heap.size + 1 + 1, 0, none⟩ = some (got W (w.heap.size + 1 + 1) 0) := fun _ h => h.cell (by omega)
  have g1 : ∀ W, Own (w.heap.size + 1 + 1) w2 (w.heap.size + 1 + 1) 3 60 W → W.cell? ⟨w.heap.size + 1 + 1, 1, none⟩ = some (got W (w.heap.size + 1 + 1) 1) := fun _ h => h.cell (by omega)
  have g2 : ∀ W, Own (w.heap.size + 1 + 1) w2 (w.heap.size + 1 + 1) 3 60 W → W.cell? ⟨w.heap.size + 1 + 1, 2, none⟩ = some (got W (w.heap.size + 1 + 1) 2) := fun _ h => h.cell (by omega)
  have gf : ∀ W j, Own (w.heap.size + 1 + 1) w2 (w.heap.size + 1 + 1) 3 60 W → W.frozen? ⟨w.heap.size + 1 + 1, j, none⟩ = false := fun _ j h => h.frozen j
  go_wp2_with fail
  go_region_held (fun W => Own (w.heap.size + 1 + 1) w2 (w.heap.size + 1 + 1) 3 60 W) (first | with_reducible assumption | with_reducible exact Own.drew ‹_› | with_reducible exact Own.drewN ‹_› _ | with_reducible exact Own.set (Own.set (Own.set ‹_› _ _) _ _) _ _) (first | (go_at_call 57; refine (smul7 _ _ _).mono ?_; rintro e w1 ⟨rfl, hb1⟩; have hR1 := Own.call ‹_› hb1) | (go_at_call 79; refine (sless _ _ _ _ _ (mulQ_bd _ _).1 (mulQ_bd _ _).2).mono ?_; rintro e w1 ⟨rfl, hb1⟩; have hR1 := Own.call ‹_› hb1) | (go_at_call 78; refine (stold _ _ _).mono ?_; rintro e w1 ⟨rfl, hb1⟩; have hR1 := Own.call ‹_› hb1))
  have c0 := g0 _ hR1
  have c1 := g1 _ hR1
  have c2 := g2 _ hR1
  clear k0 k1 k2 k3 k4 k5 k6 k7 g0 g1 g2 gf
  repeat go_step
  refine bodyPost_ret (v := .agg #[.int .i64 (tC (apK r.Y s.U s.Y r.U)), .int .i64 (tQ (apK r.Y s.U s.Y r.U) (apQ r.Y s.U s.Y r.U)).n, .int .i64 (tQ (apK r.Y s.U s.Y r.U) (apQ r.Y s.U s.Y r.U)).d]) (by simp [results, Try.results42, go_sem, c0, c1, c2] <;> (repeat' (first | rfl | apply And.intro))) rfl ⟨rfl, ?_⟩
  exact Own.out (Own.set (Own.set (Own.set hR1 0 _) 1 _) 2 _) HO.out (by omega)
theorem sinv (r s : Ry) (w : World) : Calls Try.prog 42 #[.agg #[.int .i64 r.Y.n, .int .i64 r.Y.d, .int .i64 r.U.n, .int .i64 r.U.d], .agg #[.int .i64 s.Y.n, .int .i64 s.Y.d, .int .i64 s.U.n, .int .i64 s.U.d]] w fun e w' => e = .returned (.agg #[.int .i64 (apC r.Y s.U s.Y r.U), .int .i64 (sel (apC r.Y s.U s.Y r.U) (apQ r.Y s.U s.Y r.U)).n, .int .i64 (sel (apC r.Y s.U s.Y r.U) (apQ r.Y s.U s.Y r.U)).d]) ∧ Below w.heap.size w w' := by
  have hm : (r.ok && s.ok) = (r.Y.ok && s.U.ok && s.Y.ok && r.U.ok) := by unfold Ry.ok; cases r.Y.ok <;> cases r.U.ok <;> cases s.Y.ok <;> cases s.U.ok <;> rfl
  cases h : r.ok
  · rw [show apC r.Y s.U s.Y r.U = 1 from by unfold apC; rw [← hm, h]; rfl]
    exact sinv_0 r s w h
  cases h1 : s.ok
  · rw [show apC r.Y s.U s.Y r.U = 1 from by unfold apC; rw [← hm, h, h1]; rfl]
    exact sinv_1 r s w h h1
  · rw [ap_out (by rw [← hm, h, h1]; rfl), ap_sel]
    exact sinv_2 r s w h h1
end Go.Proofs.Ytnikgmjjkdhjbaa
