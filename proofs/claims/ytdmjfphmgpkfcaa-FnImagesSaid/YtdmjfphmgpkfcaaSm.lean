/- Images: the specification's way. -/
import Derived.Test.YtdmjfphmgpkfcaaFo
namespace Go.Proofs.Ytdmjfphmgpkfcaa
open Go.RowKit
set_option linter.unusedVariables false
set_option linter.unusedSimpArgs false
/-- The denominator, the height, the gap behind and the scale: right or not, and the fraction. -/
def tK (m : Mx) (x : Q) : Bool := aK (mulK m.C x) (mulQ m.C x) m.D.ok m.D
def tV (m : Mx) (x : Q) : Q := aQ (mulK m.C x) (mulQ m.C x) m.D.ok m.D
def hK (m : Mx) (x : Q) : Bool := aK (mulK m.A x) (mulQ m.A x) m.B.ok m.B
def hV (m : Mx) (x : Q) : Q := aQ (mulK m.A x) (mulQ m.A x) m.B.ok m.B
def bK (m : Mx) (x : Q) : Bool := dK (hK m x) (hV m x) (tV m x)
def bV (m : Mx) (x : Q) : Q := dQ (hK m x) (hV m x) (tV m x)
def cK (m : Mx) (x : Q) : Bool := aK m.A.ok m.A (mulK m.C (nQ (bV m x))) (mulQ m.C (nQ (bV m x)))
def cV (m : Mx) (x : Q) : Q := aQ m.A.ok m.A (mulK m.C (nQ (bV m x))) (mulQ m.C (nQ (bV m x)))
def imC (m : Mx) (x : Q) : Int := if (m.ok && x.ok) = true then (if tK m x = true then (if (tV m x).n = 0 then 4 else if bK m x = true then (if cK m x = true then 0 else 3) else 3) else 3) else 1
theorem im_t {m : Mx} {x : Q} (h : m.ok = true) (hx : x.ok = true) : imC m x = if tK m x = true then (if (tV m x).n = 0 then 4 else if bK m x = true then (if cK m x = true then 0 else 3) else 3) else 3 := by unfold imC; rw [h, hx]; rfl
theorem bV_bd (m : Mx) (x : Q) : -1000000000 ≤ (bV m x).n ∧ (bV m x).n ≤ 1000000000 := dQ_bd _ _ _
set_option maxRecDepth 20000 in
set_option maxHeartbeats 1600000 in
theorem simg_0 (m : Mx) (x : Q) (w : World) (h0 : m.ok = false) : Calls Try.prog 6 #[.agg #[.int .i64 m.A.n, .int .i64 m.A.d, .int .i64 m.B.n, .int .i64 m.B.d, .int .i64 m.C.n, .int .i64 m.C.d, .int .i64 m.D.n, .int .i64 m.D.d], .agg #[.int .i64 x.n, .int .i64 x.d]] w fun e w' => e = .returned (.agg #[.int .i64 1, .int .i64 0, .int .i64 0, .int .i64 0, .int .i64 0]) ∧ Below w.heap.size w w' := by
  go_enter Try.func6, Try.ntmps6
  go_wp2_with fail
  refine (sgood m _).mono ?_
  rintro e w1 ⟨rfl, hb⟩
  have HO : Hid (Below w.heap.size w w1) := by refine box_step ?_ hb (by simp <;> omega); go_grown
  have X0 : Blk w1 (w.heap.size) #[.int .i64 m.A.n, .int .i64 m.A.d, .int .i64 m.B.n, .int .i64 m.B.d, .int .i64 m.C.n, .int .i64 m.C.d, .int .i64 m.D.n, .int .i64 m.D.d] 27 := Blk.old ((Blk.alloc (Blk.alloc (Blk.new (by simp)) _) _)) hb
  have K0 : Hid (w1.cell? ⟨w.heap.size, 0, none⟩ = some (.int .i64 m.A.n)) := X0.cell rfl
  have K1 : Hid (w1.cell? ⟨w.heap.size, 1, none⟩ = some (.int .i64 m.A.d)) := X0.cell rfl
  have K2 : Hid (w1.cell? ⟨w.heap.size, 2, none⟩ = some (.int .i64 m.B.n)) := X0.cell rfl
  have K3 : Hid (w1.cell? ⟨w.heap.size, 3, none⟩ = some (.int .i64 m.B.d)) := X0.cell rfl
  have K4 : Hid (w1.cell? ⟨w.heap.size, 4, none⟩ = some (.int .i64 m.C.n)) := X0.cell rfl
  have K5 : Hid (w1.cell? ⟨w.heap.size, 5, none⟩ = some (.int .i64 m.C.d)) := X0.cell rfl
  have K6 : Hid (w1.cell? ⟨w.heap.size, 6, none⟩ = some (.int .i64 m.D.n)) := X0.cell rfl
  have K7 : Hid (w1.cell? ⟨w.heap.size, 7, none⟩ = some (.int .i64 m.D.d)) := X0.cell rfl
  clear X0
  have X1 : Blk w1 (w.heap.size + 1) #[.int .i64 x.n, .int .i64 x.d] 25 := Blk.old ((Blk.alloc (Blk.new (by simp)) _)) hb
  have K8 : Hid (w1.cell? ⟨w.heap.size + 1, 0, none⟩ = some (.int .i64 x.n)) := X1.cell rfl
  have K9 : Hid (w1.cell? ⟨w.heap.size + 1, 1, none⟩ = some (.int .i64 x.d)) := X1.cell rfl
  clear X1
  have RB : Hid (Blk w1 (w.heap.size + 1 + 1) #[.int .i64 0, .int .i64 0, .int .i64 0, .int .i64 0, .int .i64 0] 31) := Blk.old (Blk.new (by simp)) hb
  clear hb
  have r0 := RB.out.cell (j := 0) rfl
  have r1 := RB.out.cell (j := 1) rfl
  have r2 := RB.out.cell (j := 2) rfl
  have r3 := RB.out.cell (j := 3) rfl
  have r4 := RB.out.cell (j := 4) rfl
  have rf := RB.out.frozen
  go_wp2
  refine bodyPost_ret (v := .agg #[.int .i64 1, .int .i64 0, .int .i64 0, .int .i64 0, .int .i64 0]) (by simp [results, Try.results6, go_sem, r0, r1, r2, r3, r4, World.cell?_alloc_lt, RB.out.lt] <;> (repeat' (first | rfl | apply And.intro))) rfl ⟨rfl, ?_⟩
  have h := HO.out
  have hlt := RB.out.lt
  have hsz := h.size
  go_grown
set_option maxRecDepth 20000 in
set_option maxHeartbeats 1600000 in
theorem simg_1 (m : Mx) (x : Q) (w : World) (h0 : m.ok = true) (h1 : x.ok = false) : Calls Try.prog 6 #[.agg #[.int .i64 m.A.n, .int .i64 m.A.d, .int .i64 m.B.n, .int .i64 m.B.d, .int .i64 m.C.n, .int .i64 m.C.d, .int .i64 m.D.n, .int .i64 m.D.d], .agg #[.int .i64 x.n, .int .i64 x.d]] w fun e w' => e = .returned (.agg #[.int .i64 1, .int .i64 0, .int .i64 0, .int .i64 0, .int .i64 0]) ∧ Below w.heap.size w w' := by
  have qx := fault_ne x.n x.d
  rw [show rightB x.n x.d = x.ok from rfl, h1] at qx
  go_enter Try.func6, Try.ntmps6
  go_wp2_with fail
  refine (sgood m _).mono ?_
  rintro e w1 ⟨rfl, hb⟩
  have HO : Hid (Below w.heap.size w w1) := by refine box_step ?_ hb (by simp <;> omega); go_grown
  have X0 : Blk w1 (w.heap.size) #[.int .i64 m.A.n, .int .i64 m.A.d, .int .i64 m.B.n, .int .i64 m.B.d, .int .i64 m.C.n, .int .i64 m.C.d, .int .i64 m.D.n, .int .i64 m.D.d] 27 := Blk.old ((Blk.alloc (Blk.alloc (Blk.new (by simp)) _) _)) hb
  have K0 : Hid (w1.cell? ⟨w.heap.size, 0, none⟩ = some (.int .i64 m.A.n)) := X0.cell rfl
  have K1 : Hid (w1.cell? ⟨w.heap.size, 1, none⟩ = some (.int .i64 m.A.d)) := X0.cell rfl
  have K2 : Hid (w1.cell? ⟨w.heap.size, 2, none⟩ = some (.int .i64 m.B.n)) := X0.cell rfl
  have K3 : Hid (w1.cell? ⟨w.heap.size, 3, none⟩ = some (.int .i64 m.B.d)) := X0.cell rfl
  have K4 : Hid (w1.cell? ⟨w.heap.size, 4, none⟩ = some (.int .i64 m.C.n)) := X0.cell rfl
  have K5 : Hid (w1.cell? ⟨w.heap.size, 5, none⟩ = some (.int .i64 m.C.d)) := X0.cell rfl
  have K6 : Hid (w1.cell? ⟨w.heap.size, 6, none⟩ = some (.int .i64 m.D.n)) := X0.cell rfl
  have K7 : Hid (w1.cell? ⟨w.heap.size, 7, none⟩ = some (.int .i64 m.D.d)) := X0.cell rfl
  clear X0
  have X1 : Blk w1 (w.heap.size + 1) #[.int .i64 x.n, .int .i64 x.d] 25 := Blk.old ((Blk.alloc (Blk.new (by simp)) _)) hb
  have K8 : Hid (w1.cell? ⟨w.heap.size + 1, 0, none⟩ = some (.int .i64 x.n)) := X1.cell rfl
  have K9 : Hid (w1.cell? ⟨w.heap.size + 1, 1, none⟩ = some (.int .i64 x.d)) := X1.cell rfl
  clear X1
  have RB : Hid (Blk w1 (w.heap.size + 1 + 1) #[.int .i64 0, .int .i64 0, .int .i64 0, .int .i64 0, .int .i64 0] 31) := Blk.old (Blk.new (by simp)) hb
  clear hb
  have c8 := K8.out
  have c9 := K9.out
  have r0 := RB.out.cell (j := 0) rfl
  have r1 := RB.out.cell (j := 1) rfl
  have r2 := RB.out.cell (j := 2) rfl
  have r3 := RB.out.cell (j := 3) rfl
  have r4 := RB.out.cell (j := 4) rfl
  have rf := RB.out.frozen
  go_wp2_with fail
  refine (sfaultq x _).mono ?_
  rintro e w2 ⟨rfl, hb⟩
  clear c8 c9 r0 r1 r2 r3 r4 rf
  have HO : Hid (Below w.heap.size w w2) := by have h := HO.out; have hs := h.size; refine box_step ?_ hb (by first | exact hs | (simp <;> omega)); go_grown
  have RB : Hid (Blk w2 (w.heap.size + 1 + 1) #[.int .i64 0, .int .i64 0, .int .i64 0, .int .i64 0, .int .i64 0] 31) := Blk.old (RB.out) hb
  have K10 : Hid (w2.cell? ⟨w.heap.size, 0, none⟩ = some (.int .i64 m.A.n)) := kold hb (K0.out)
  have K11 : Hid (w2.cell? ⟨w.heap.size, 1, none⟩ = some (.int .i64 m.A.d)) := kold hb (K1.out)
  have K12 : Hid (w2.cell? ⟨w.heap.size, 2, none⟩ = some (.int .i64 m.B.n)) := kold hb (K2.out)
  have K13 : Hid (w2.cell? ⟨w.heap.size, 3, none⟩ = some (.int .i64 m.B.d)) := kold hb (K3.out)
  have K14 : Hid (w2.cell? ⟨w.heap.size, 4, none⟩ = some (.int .i64 m.C.n)) := kold hb (K4.out)
  have K15 : Hid (w2.cell? ⟨w.heap.size, 5, none⟩ = some (.int .i64 m.C.d)) := kold hb (K5.out)
  have K16 : Hid (w2.cell? ⟨w.heap.size, 6, none⟩ = some (.int .i64 m.D.n)) := kold hb (K6.out)
  have K17 : Hid (w2.cell? ⟨w.heap.size, 7, none⟩ = some (.int .i64 m.D.d)) := kold hb (K7.out)
  have K18 : Hid (w2.cell? ⟨w.heap.size + 1, 0, none⟩ = some (.int .i64 x.n)) := kold hb (K8.out)
  have K19 : Hid (w2.cell? ⟨w.heap.size + 1, 1, none⟩ = some (.int .i64 x.d)) := kold hb (K9.out)
  clear K0 K1 K2 K3 K4 K5 K6 K7 K8 K9
  clear hb
  have r0 := RB.out.cell (j := 0) rfl
  have r1 := RB.out.cell (j := 1) rfl
  have r2 := RB.out.cell (j := 2) rfl
  have r3 := RB.out.cell (j := 3) rfl
  have r4 := RB.out.cell (j := 4) rfl
  have rf := RB.out.frozen
  go_wp2
  refine bodyPost_ret (v := .agg #[.int .i64 1, .int .i64 0, .int .i64 0, .int .i64 0, .int .i64 0]) (by simp [results, Try.results6, go_sem, r0, r1, r2, r3, r4, World.cell?_alloc_lt, RB.out.lt] <;> (repeat' (first | rfl | apply And.intro))) rfl ⟨rfl, ?_⟩
  have h := HO.out
  have hlt := RB.out.lt
  have hsz := h.size
  go_grown
set_option maxRecDepth 20000 in
set_option maxHeartbeats 6400000 in
theorem simg_2 (m : Mx) (x : Q) (w : World) (h0 : m.ok = true) (h1 : x.ok = true) : Calls Try.prog 6 #[.agg #[.int .i64 m.A.n, .int .i64 m.A.d, .int .i64 m.B.n, .int .i64 m.B.d, .int .i64 m.C.n, .int .i64 m.C.d, .int .i64 m.D.n, .int .i64 m.D.d], .agg #[.int .i64 x.n, .int .i64 x.d]] w fun e w' => e = .returned (.agg #[.int .i64 (imC m x), .int .i64 (sel (imC m x) (nQ (bV m x))).n, .int .i64 (sel (imC m x) (nQ (bV m x))).d, .int .i64 (sel (imC m x) (cV m x)).n, .int .i64 (sel (imC m x) (cV m x)).d]) ∧ Below w.heap.size w w' := by
  have qx := fault_ne x.n x.d
  rw [show rightB x.n x.d = x.ok from rfl, h1] at qx
  go_enter Try.func6, Try.ntmps6
  go_wp2_with fail
  refine (sgood m _).mono ?_
  rintro e w1 ⟨rfl, hb⟩
  have HO : Hid (Below w.heap.size w w1) := by refine box_step ?_ hb (by simp <;> omega); go_grown
  have X0 : Blk w1 (w.heap.size) #[.int .i64 m.A.n, .int .i64 m.A.d, .int .i64 m.B.n, .int .i64 m.B.d, .int .i64 m.C.n, .int .i64 m.C.d, .int .i64 m.D.n, .int .i64 m.D.d] 27 := Blk.old ((Blk.alloc (Blk.alloc (Blk.new (by simp)) _) _)) hb
  have K0 : Hid (w1.cell? ⟨w.heap.size, 0, none⟩ = some (.int .i64 m.A.n)) := X0.cell rfl
  have K1 : Hid (w1.cell? ⟨w.heap.size, 1, none⟩ = some (.int .i64 m.A.d)) := X0.cell rfl
  have K2 : Hid (w1.cell? ⟨w.heap.size, 2, none⟩ = some (.int .i64 m.B.n)) := X0.cell rfl
  have K3 : Hid (w1.cell? ⟨w.heap.size, 3, none⟩ = some (.int .i64 m.B.d)) := X0.cell rfl
  have K4 : Hid (w1.cell? ⟨w.heap.size, 4, none⟩ = some (.int .i64 m.C.n)) := X0.cell rfl
  have K5 : Hid (w1.cell? ⟨w.heap.size, 5, none⟩ = some (.int .i64 m.C.d)) := X0.cell rfl
  have K6 : Hid (w1.cell? ⟨w.heap.size, 6, none⟩ = some (.int .i64 m.D.n)) := X0.cell rfl
  have K7 : Hid (w1.cell? ⟨w.heap.size, 7, none⟩ = some (.int .i64 m.D.d)) := X0.cell rfl
  clear X0
  have X1 : Blk w1 (w.heap.size + 1) #[.int .i64 x.n, .int .i64 x.d] 25 := Blk.old ((Blk.alloc (Blk.new (by simp)) _)) hb
  have K8 : Hid (w1.cell? ⟨w.heap.size + 1, 0, none⟩ = some (.int .i64 x.n)) := X1.cell rfl
  have K9 : Hid (w1.cell? ⟨w.heap.size + 1, 1, none⟩ = some (.int .i64 x.d)) := X1.cell rfl
  clear X1
  have RB : Hid (Blk w1 (w.heap.size + 1 + 1) #[.int .i64 0, .int .i64 0, .int .i64 0, .int .i64 0, .int .i64 0] 31) := Blk.old (Blk.new (by simp)) hb
  clear hb
  have c8 := K8.out
  have c9 := K9.out
  have r0 := RB.out.cell (j := 0) rfl
  have r1 := RB.out.cell (j := 1) rfl
  have r2 := RB.out.cell (j := 2) rfl
  have r3 := RB.out.cell (j := 3) rfl
  have r4 := RB.out.cell (j := 4) rfl
  have rf := RB.out.frozen
  go_wp2_with fail
  refine (sfaultq x _).mono ?_
  rintro e w2 ⟨rfl, hb⟩
  clear c8 c9 r0 r1 r2 r3 r4 rf
  have HO : Hid (Below w.heap.size w w2) := by have h := HO.out; have hs := h.size; refine box_step ?_ hb (by first | exact hs | (simp <;> omega)); go_grown
  have RB : Hid (Blk w2 (w.heap.size + 1 + 1) #[.int .i64 0, .int .i64 0, .int .i64 0, .int .i64 0, .int .i64 0] 31) := Blk.old (RB.out) hb
  have K10 : Hid (w2.cell? ⟨w.heap.size, 0, none⟩ = some (.int .i64 m.A.n)) := kold hb (K0.out)
  have K11 : Hid (w2.cell? ⟨w.heap.size, 1, none⟩ = some (.int .i64 m.A.d)) := kold hb (K1.out)
  have K12 : Hid (w2.cell? ⟨w.heap.size, 2, none⟩ = some (.int .i64 m.B.n)) := kold hb (K2.out)
  have K13 : Hid (w2.cell? ⟨w.heap.size, 3, none⟩ = some (.int .i64 m.B.d)) := kold hb (K3.out)
  have K14 : Hid (w2.cell? ⟨w.heap.size, 4, none⟩ = some (.int .i64 m.C.n)) := kold hb (K4.out)
  have K15 : Hid (w2.cell? ⟨w.heap.size, 5, none⟩ = some (.int .i64 m.C.d)) := kold hb (K5.out)
  have K16 : Hid (w2.cell? ⟨w.heap.size, 6, none⟩ = some (.int .i64 m.D.n)) := kold hb (K6.out)
  have K17 : Hid (w2.cell? ⟨w.heap.size, 7, none⟩ = some (.int .i64 m.D.d)) := kold hb (K7.out)
  have K18 : Hid (w2.cell? ⟨w.heap.size + 1, 0, none⟩ = some (.int .i64 x.n)) := kold hb (K8.out)
  have K19 : Hid (w2.cell? ⟨w.heap.size + 1, 1, none⟩ = some (.int .i64 x.d)) := kold hb (K9.out)
  clear K0 K1 K2 K3 K4 K5 K6 K7 K8 K9
  clear hb
  have u1 : aK (mulK m.C x) (mulQ m.C x) m.D.ok m.D = tK m x := rfl
  have u2 : aQ (mulK m.C x) (mulQ m.C x) m.D.ok m.D = tV m x := rfl
  have k0 : ∀ W, Below w2.heap.size w2 W → W.cell? ⟨w.heap.size, 0, none⟩ = some (.int .i64 m.A.n) := fun _ h => kold h K10.out
  have k1 : ∀ W, Below w2.heap.size w2 W → W.cell? ⟨w.heap.size, 1, none⟩ = some (.int .i64 m.A.d) := fun _ h => kold h K11.out
  have k2 : ∀ W, Below w2.heap.size w2 W → W.cell? ⟨w.heap.size, 2, none⟩ = some (.int .i64 m.B.n) := fun _ h => kold h K12.out
  have k3 : ∀ W, Below w2.heap.size w2 W → W.cell? ⟨w.heap.size, 3, none⟩ = some (.int .i64 m.B.d) := fun _ h => kold h K13.out
  have k4 : ∀ W, Below w2.heap.size w2 W → W.cell? ⟨w.heap.size, 4, none⟩ = some (.int .i64 m.C.n) := fun _ h => kold h K14.out
  have k5 : ∀ W, Below w2.heap.size w2 W → W.cell? ⟨w.heap.size, 5, none⟩ = some (.int .i64 m.C.d) := fun _ h => kold h K15.out
  have k6 : ∀ W, Below w2.heap.size w2 W → W.cell? ⟨w.heap.size, 6, none⟩ = some (.int .i64 m.D.n) := fun _ h => kold h K16.out
  have k7 : ∀ W, Below w2.heap.size w2 W → W.cell? ⟨w.heap.size, 7, none⟩ = some (.int .i64 m.D.d) := fun _ h => kold h K17.out
  have k8 : ∀ W, Below w2.heap.size w2 W → W.cell? ⟨w.heap.size + 1, 0, none⟩ = some (.int .i64 x.n) := fun _ h => kold h K18.out
  have k9 : ∀ W, Below w2.heap.size w2 W → W.cell? ⟨w.heap.size + 1, 1, none⟩ = some (.int .i64 x.d) := fun _ h => kold h K19.out
  have hR0 : Below w2.heap.size w2 w2 := Below.refl _ _
  go_wp2_with fail
  go_cut [5] (fun p wx => ∃ k : Nat, p = .pointer (some ⟨k, 0, none⟩) ∧ w2.heap.size ≤ k ∧ k < wx.heap.size ∧ Below w2.heap.size w2 wx ∧ wx.cell? ⟨k, 0, none⟩ = some (.bool (tK m x)) ∧ wx.cell? ⟨k, 1, none⟩ = some (.int .i64 (tV m x).n) ∧ wx.cell? ⟨k, 2, none⟩ = some (.int .i64 (tV m x).d))
  case first =>
    go_region_held3 (fun W => Below w2.heap.size w2 W) (go_grown) (first | (go_at_call 18; refine (smul7 _ _ _).mono ?_; rintro e wz ⟨rfl, hb1⟩; have hs1 := hb1.size; (try simp at hs1); have hR1 : Below w2.heap.size w2 wz := (by refine box_step ?_ hb1 (by go_size); go_grown); (first | (have hZ := box_step hZ hb1 (Nat.le_refl _)) | (have hZ := hb1)); obtain ⟨ho1, hf1, hz1⟩ := olds' hZ) | (go_at_call 19; refine (sof _ _).mono ?_; rintro e wz ⟨rfl, hb1⟩; have hs1 := hb1.size; (try simp at hs1); have hR1 : Below w2.heap.size w2 wz := (by refine box_step ?_ hb1 (by go_size); go_grown); (first | (have hZ := box_step hZ hb1 (Nat.le_refl _)) | (have hZ := hb1)); obtain ⟨ho1, hf1, hz1⟩ := olds' hZ) | (go_at_call 17; refine (sadd7 _ _ _ _ _).mono ?_; rintro e wz ⟨rfl, hb1⟩; have hs1 := hb1.size; (try simp at hs1); have hR1 : Below w2.heap.size w2 wz := (by refine box_step ?_ hb1 (by go_size); go_grown); (first | (have hZ := box_step hZ hb1 (Nat.le_refl _)) | (have hZ := hb1)); obtain ⟨ho1, hf1, hz1⟩ := olds' hZ))
    all_goals
      go_wp2_with fail
      go_meet
      case rel =>
        refine ⟨_, rfl, ?_, ?_, ?_, ?_, ?_, ?_⟩
        · omega
        · simp [World.setCell] <;> omega
        · go_grown
        · go_simp
        · go_simp
        · go_simp
  case rest =>
    obtain ⟨b3, rfl, hk1, hk2, hB, d0, d1, d2⟩ := hcut
    clear k0 k1 k2 k3 k4 k5 k6 k7 k8 k9 hR0
    obtain ⟨w3, hv⟩ : ∃ v, v = wc := ⟨_, rfl⟩
    subst hv
    have HO : Hid (Below w.heap.size w w3) := box_step HO.out hB (by first | exact Nat.le_refl _ | exact HO.out.size)
    have RB : Hid (Blk w3 (w.heap.size + 1 + 1) #[.int .i64 0, .int .i64 0, .int .i64 0, .int .i64 0, .int .i64 0] 31) := Blk.old RB.out hB
    have K20 : Hid (w3.cell? ⟨w.heap.size, 0, none⟩ = some (.int .i64 m.A.n)) := kold hB (K10.out)
    have K21 : Hid (w3.cell? ⟨w.heap.size, 1, none⟩ = some (.int .i64 m.A.d)) := kold hB (K11.out)
    have K22 : Hid (w3.cell? ⟨w.heap.size, 2, none⟩ = some (.int .i64 m.B.n)) := kold hB (K12.out)
    have K23 : Hid (w3.cell? ⟨w.heap.size, 3, none⟩ = some (.int .i64 m.B.d)) := kold hB (K13.out)
    have K24 : Hid (w3.cell? ⟨w.heap.size, 4, none⟩ = some (.int .i64 m.C.n)) := kold hB (K14.out)
    have K25 : Hid (w3.cell? ⟨w.heap.size, 5, none⟩ = some (.int .i64 m.C.d)) := kold hB (K15.out)
    have K26 : Hid (w3.cell? ⟨w.heap.size, 6, none⟩ = some (.int .i64 m.D.n)) := kold hB (K16.out)
    have K27 : Hid (w3.cell? ⟨w.heap.size, 7, none⟩ = some (.int .i64 m.D.d)) := kold hB (K17.out)
    have K28 : Hid (w3.cell? ⟨w.heap.size + 1, 0, none⟩ = some (.int .i64 x.n)) := kold hB (K18.out)
    have K29 : Hid (w3.cell? ⟨w.heap.size + 1, 1, none⟩ = some (.int .i64 x.d)) := kold hB (K19.out)
    clear K10 K11 K12 K13 K14 K15 K16 K17 K18 K19
    have K30 : Hid (w3.cell? ⟨b3, 0, none⟩ = some (.bool (tK m x))) := d0
    have K31 : Hid (w3.cell? ⟨b3, 1, none⟩ = some (.int .i64 (tV m x).n)) := d1
    have K32 : Hid (w3.cell? ⟨b3, 2, none⟩ = some (.int .i64 (tV m x).d)) := d2
    clear hB hk1 hk2 d0 d1 d2
    clear qx
    have hI := im_t h0 h1
    cases ht : tK m x
    case false =>
      have hc : imC m x = 3 := by rw [hI, ht]; rfl
      clear hI
      have c10 := K30.out
      have c11 := K31.out
      have c12 := K32.out
      have r0 := RB.out.cell (j := 0) rfl
      have r1 := RB.out.cell (j := 1) rfl
      have r2 := RB.out.cell (j := 2) rfl
      have r3 := RB.out.cell (j := 3) rfl
      have r4 := RB.out.cell (j := 4) rfl
      have rf := RB.out.frozen
      repeat go_step
      refine bodyPost_ret (v := .agg #[.int .i64 3, .int .i64 0, .int .i64 0, .int .i64 0, .int .i64 0]) (by simp [results, Try.results6, go_sem, r0, r1, r2, r3, r4, World.cell?_alloc_lt, RB.out.lt] <;> (repeat' (first | rfl | apply And.intro))) rfl ⟨by rw [hc]; rfl, ?_⟩
      have h := HO.out
      have hlt := RB.out.lt
      have hsz := h.size
      go_grown
    case true =>
      cases hz : ((tV m x).n == 0)
      case true =>
        have hc : imC m x = 4 := by rw [hI, ht, if_pos rfl, if_pos (by simpa using hz)]
        clear hI
        have c10 := K30.out
        have c11 := K31.out
        have c12 := K32.out
        have r0 := RB.out.cell (j := 0) rfl
        have r1 := RB.out.cell (j := 1) rfl
        have r2 := RB.out.cell (j := 2) rfl
        have r3 := RB.out.cell (j := 3) rfl
        have r4 := RB.out.cell (j := 4) rfl
        have rf := RB.out.frozen
        repeat go_step
        refine bodyPost_ret (v := .agg #[.int .i64 4, .int .i64 0, .int .i64 0, .int .i64 0, .int .i64 0]) (by simp [results, Try.results6, go_sem, r0, r1, r2, r3, r4, World.cell?_alloc_lt, RB.out.lt] <;> (repeat' (first | rfl | apply And.intro))) rfl ⟨by rw [hc]; rfl, ?_⟩
        have h := HO.out
        have hlt := RB.out.lt
        have hsz := h.size
        go_grown
      case false =>
        have hI2 : imC m x = if bK m x = true then (if cK m x = true then 0 else 3) else 3 := by rw [hI, ht, if_pos rfl, if_neg (by simpa using hz)]
        clear hI
        have c10 := K30.out
        have c11 := K31.out
        have c12 := K32.out
        have r0 := RB.out.cell (j := 0) rfl
        have r1 := RB.out.cell (j := 1) rfl
        have r2 := RB.out.cell (j := 2) rfl
        have r3 := RB.out.cell (j := 3) rfl
        have r4 := RB.out.cell (j := 4) rfl
        have rf := RB.out.frozen
        go_upto_region 8 with fail
        clear c10 c11 c12 r0 r1 r2 r3 r4 rf
        clear u1 u2
        have u1 : aK (mulK m.A x) (mulQ m.A x) m.B.ok m.B = hK m x := rfl
        have u2 : aQ (mulK m.A x) (mulQ m.A x) m.B.ok m.B = hV m x := rfl
        have u3 : dK (hK m x) (hV m x) (tV m x) = bK m x := rfl
        have u4 : dQ (hK m x) (hV m x) (tV m x) = bV m x := rfl
        have k0 : ∀ W, Below w3.heap.size w3 W → W.cell? ⟨w.heap.size, 0, none⟩ = some (.int .i64 m.A.n) := fun _ h => kold h K20.out
        have k1 : ∀ W, Below w3.heap.size w3 W → W.cell? ⟨w.heap.size, 1, none⟩ = some (.int .i64 m.A.d) := fun _ h => kold h K21.out
        have k2 : ∀ W, Below w3.heap.size w3 W → W.cell? ⟨w.heap.size, 2, none⟩ = some (.int .i64 m.B.n) := fun _ h => kold h K22.out
        have k3 : ∀ W, Below w3.heap.size w3 W → W.cell? ⟨w.heap.size, 3, none⟩ = some (.int .i64 m.B.d) := fun _ h => kold h K23.out
        have k4 : ∀ W, Below w3.heap.size w3 W → W.cell? ⟨w.heap.size, 4, none⟩ = some (.int .i64 m.C.n) := fun _ h => kold h K24.out
        have k5 : ∀ W, Below w3.heap.size w3 W → W.cell? ⟨w.heap.size, 5, none⟩ = some (.int .i64 m.C.d) := fun _ h => kold h K25.out
        have k6 : ∀ W, Below w3.heap.size w3 W → W.cell? ⟨w.heap.size, 6, none⟩ = some (.int .i64 m.D.n) := fun _ h => kold h K26.out
        have k7 : ∀ W, Below w3.heap.size w3 W → W.cell? ⟨w.heap.size, 7, none⟩ = some (.int .i64 m.D.d) := fun _ h => kold h K27.out
        have k8 : ∀ W, Below w3.heap.size w3 W → W.cell? ⟨w.heap.size + 1, 0, none⟩ = some (.int .i64 x.n) := fun _ h => kold h K28.out
        have k9 : ∀ W, Below w3.heap.size w3 W → W.cell? ⟨w.heap.size + 1, 1, none⟩ = some (.int .i64 x.d) := fun _ h => kold h K29.out
        have k10 : ∀ W, Below w3.heap.size w3 W → W.cell? ⟨b3, 0, none⟩ = some (.bool (tK m x)) := fun _ h => kold h K30.out
        have k11 : ∀ W, Below w3.heap.size w3 W → W.cell? ⟨b3, 1, none⟩ = some (.int .i64 (tV m x).n) := fun _ h => kold h K31.out
        have k12 : ∀ W, Below w3.heap.size w3 W → W.cell? ⟨b3, 2, none⟩ = some (.int .i64 (tV m x).d) := fun _ h => kold h K32.out
        have hR0 : Below w3.heap.size w3 w3 := Below.refl _ _
        go_wp2_with fail
        go_cut [6] (fun p wx => ∃ k : Nat, p = .pointer (some ⟨k, 0, none⟩) ∧ w3.heap.size ≤ k ∧ k < wx.heap.size ∧ Below w3.heap.size w3 wx ∧ wx.cell? ⟨k, 0, none⟩ = some (.bool (bK m x)) ∧ wx.cell? ⟨k, 1, none⟩ = some (.int .i64 (bV m x).n) ∧ wx.cell? ⟨k, 2, none⟩ = some (.int .i64 (bV m x).d))
        case first =>
          go_region_held3 (fun W => Below w3.heap.size w3 W) (go_grown) (first | (go_at_call 18; refine (smul7 _ _ _).mono ?_; rintro e wz ⟨rfl, hb1⟩; have hs1 := hb1.size; (try simp at hs1); have hR1 : Below w3.heap.size w3 wz := (by refine box_step ?_ hb1 (by go_size); go_grown); (first | (have hZ := box_step hZ hb1 (Nat.le_refl _)) | (have hZ := hb1)); obtain ⟨ho1, hf1, hz1⟩ := olds' hZ) | (go_at_call 19; refine (sof _ _).mono ?_; rintro e wz ⟨rfl, hb1⟩; have hs1 := hb1.size; (try simp at hs1); have hR1 : Below w3.heap.size w3 wz := (by refine box_step ?_ hb1 (by go_size); go_grown); (first | (have hZ := box_step hZ hb1 (Nat.le_refl _)) | (have hZ := hb1)); obtain ⟨ho1, hf1, hz1⟩ := olds' hZ) | (go_at_call 17; refine (sadd7 _ _ _ _ _).mono ?_; rintro e wz ⟨rfl, hb1⟩; have hs1 := hb1.size; (try simp at hs1); have hR1 : Below w3.heap.size w3 wz := (by refine box_step ?_ hb1 (by go_size); go_grown); (first | (have hZ := box_step hZ hb1 (Nat.le_refl _)) | (have hZ := hb1)); obtain ⟨ho1, hf1, hz1⟩ := olds' hZ) | (go_at_call 20; refine (sdiv7 _ _ _ _).mono ?_; rintro e wz ⟨rfl, hb1⟩; have hs1 := hb1.size; (try simp at hs1); have hR1 : Below w3.heap.size w3 wz := (by refine box_step ?_ hb1 (by go_size); go_grown); (first | (have hZ := box_step hZ hb1 (Nat.le_refl _)) | (have hZ := hb1)); obtain ⟨ho1, hf1, hz1⟩ := olds' hZ))
          all_goals
            go_wp2_with fail
            go_meet
            case rel =>
              refine ⟨_, rfl, ?_, ?_, ?_, ?_, ?_, ?_⟩
              · omega
              · simp [World.setCell] <;> omega
              · go_grown
              · go_simp
              · go_simp
              · go_simp
        case rest =>
          obtain ⟨b4, rfl, hk1, hk2, hB, d0, d1, d2⟩ := hcut
          clear k0 k1 k2 k3 k4 k5 k6 k7 k8 k9 k10 k11 k12 hR0
          obtain ⟨w4, hv⟩ : ∃ v, v = wc := ⟨_, rfl⟩
          subst hv
          have HO : Hid (Below w.heap.size w w4) := box_step HO.out hB (by first | exact Nat.le_refl _ | exact HO.out.size)
          have RB : Hid (Blk w4 (w.heap.size + 1 + 1) #[.int .i64 0, .int .i64 0, .int .i64 0, .int .i64 0, .int .i64 0] 31) := Blk.old RB.out hB
          have K33 : Hid (w4.cell? ⟨w.heap.size, 0, none⟩ = some (.int .i64 m.A.n)) := kold hB (K20.out)
          have K34 : Hid (w4.cell? ⟨w.heap.size, 1, none⟩ = some (.int .i64 m.A.d)) := kold hB (K21.out)
          have K35 : Hid (w4.cell? ⟨w.heap.size, 2, none⟩ = some (.int .i64 m.B.n)) := kold hB (K22.out)
          have K36 : Hid (w4.cell? ⟨w.heap.size, 3, none⟩ = some (.int .i64 m.B.d)) := kold hB (K23.out)
          have K37 : Hid (w4.cell? ⟨w.heap.size, 4, none⟩ = some (.int .i64 m.C.n)) := kold hB (K24.out)
          have K38 : Hid (w4.cell? ⟨w.heap.size, 5, none⟩ = some (.int .i64 m.C.d)) := kold hB (K25.out)
          have K39 : Hid (w4.cell? ⟨w.heap.size, 6, none⟩ = some (.int .i64 m.D.n)) := kold hB (K26.out)
          have K40 : Hid (w4.cell? ⟨w.heap.size, 7, none⟩ = some (.int .i64 m.D.d)) := kold hB (K27.out)
          have K41 : Hid (w4.cell? ⟨w.heap.size + 1, 0, none⟩ = some (.int .i64 x.n)) := kold hB (K28.out)
          have K42 : Hid (w4.cell? ⟨w.heap.size + 1, 1, none⟩ = some (.int .i64 x.d)) := kold hB (K29.out)
          have K43 : Hid (w4.cell? ⟨b3, 0, none⟩ = some (.bool (tK m x))) := kold hB (K30.out)
          have K44 : Hid (w4.cell? ⟨b3, 1, none⟩ = some (.int .i64 (tV m x).n)) := kold hB (K31.out)
          have K45 : Hid (w4.cell? ⟨b3, 2, none⟩ = some (.int .i64 (tV m x).d)) := kold hB (K32.out)
          clear K20 K21 K22 K23 K24 K25 K26 K27 K28 K29 K30 K31 K32
          have K46 : Hid (w4.cell? ⟨b4, 0, none⟩ = some (.bool (bK m x))) := d0
          have K47 : Hid (w4.cell? ⟨b4, 1, none⟩ = some (.int .i64 (bV m x).n)) := d1
          have K48 : Hid (w4.cell? ⟨b4, 2, none⟩ = some (.int .i64 (bV m x).d)) := d2
          clear hB hk1 hk2 d0 d1 d2
          cases hb2 : bK m x
          case false =>
            have hc : imC m x = 3 := by rw [hI2, hb2]; rfl
            clear hI2
            have c13 := K46.out
            have c14 := K47.out
            have c15 := K48.out
            have r0 := RB.out.cell (j := 0) rfl
            have r1 := RB.out.cell (j := 1) rfl
            have r2 := RB.out.cell (j := 2) rfl
            have r3 := RB.out.cell (j := 3) rfl
            have r4 := RB.out.cell (j := 4) rfl
            have rf := RB.out.frozen
            repeat go_step
            refine bodyPost_ret (v := .agg #[.int .i64 3, .int .i64 0, .int .i64 0, .int .i64 0, .int .i64 0]) (by simp [results, Try.results6, go_sem, r0, r1, r2, r3, r4, World.cell?_alloc_lt, RB.out.lt] <;> (repeat' (first | rfl | apply And.intro))) rfl ⟨by rw [hc]; rfl, ?_⟩
            have h := HO.out
            have hlt := RB.out.lt
            have hsz := h.size
            go_grown
          case true =>
            have hI3 : imC m x = if cK m x = true then 0 else 3 := by rw [hI2, hb2, if_pos rfl]
            clear hI2
            have hbd := bV_bd m x
            have c13 := K46.out
            have c14 := K47.out
            have c15 := K48.out
            have r0 := RB.out.cell (j := 0) rfl
            have r1 := RB.out.cell (j := 1) rfl
            have r2 := RB.out.cell (j := 2) rfl
            have r3 := RB.out.cell (j := 3) rfl
            have r4 := RB.out.cell (j := 4) rfl
            have rf := RB.out.frozen
            go_upto_region 11 with fail
            clear c13 c14 c15 r0 r1 r2 r3 r4 rf
            go_upto_region 11 with fail
            go_cut [7] (fun p wx => ∃ k : Nat, p = .pointer (some ⟨k, 0, none⟩) ∧ w4.heap.size ≤ k ∧ k < wx.heap.size ∧ Below w4.heap.size w4 wx ∧ wx.cell? ⟨k, 0, none⟩ = some (.int .i64 (nQ (bV m x)).n) ∧ wx.cell? ⟨k, 1, none⟩ = some (.int .i64 (nQ (bV m x)).d))
            case first =>
              have c13 := K46.out
              have c14 := K47.out
              have c15 := K48.out
              go_wp2_with fail
              refine (sneg (bV m x) _ hbd.1 hbd.2).mono ?_
              rintro e w1 ⟨rfl, hb⟩
              have hs := hb.size
              clear c13 c14 c15
              go_wp2
              go_meet
              case rel =>
                refine ⟨_, rfl, ?_, ?_, ?_, ?_, ?_⟩
                · first | exact hs | omega
                · simp
                · go_grown
                · go_simp
                · go_simp
            case rest =>
              obtain ⟨b5, rfl, hk1, hk2, hB, d0, d1⟩ := hcut
              obtain ⟨w5, hv⟩ : ∃ v, v = wc := ⟨_, rfl⟩
              subst hv
              have HO : Hid (Below w.heap.size w w5) := box_step HO.out hB (by first | exact Nat.le_refl _ | exact HO.out.size)
              have RB : Hid (Blk w5 (w.heap.size + 1 + 1) #[.int .i64 0, .int .i64 0, .int .i64 0, .int .i64 0, .int .i64 0] 31) := Blk.old RB.out hB
              have K49 : Hid (w5.cell? ⟨w.heap.size, 0, none⟩ = some (.int .i64 m.A.n)) := kold hB (K33.out)
              have K50 : Hid (w5.cell? ⟨w.heap.size, 1, none⟩ = some (.int .i64 m.A.d)) := kold hB (K34.out)
              have K51 : Hid (w5.cell? ⟨w.heap.size, 2, none⟩ = some (.int .i64 m.B.n)) := kold hB (K35.out)
              have K52 : Hid (w5.cell? ⟨w.heap.size, 3, none⟩ = some (.int .i64 m.B.d)) := kold hB (K36.out)
              have K53 : Hid (w5.cell? ⟨w.heap.size, 4, none⟩ = some (.int .i64 m.C.n)) := kold hB (K37.out)
              have K54 : Hid (w5.cell? ⟨w.heap.size, 5, none⟩ = some (.int .i64 m.C.d)) := kold hB (K38.out)
              have K55 : Hid (w5.cell? ⟨w.heap.size, 6, none⟩ = some (.int .i64 m.D.n)) := kold hB (K39.out)
              have K56 : Hid (w5.cell? ⟨w.heap.size, 7, none⟩ = some (.int .i64 m.D.d)) := kold hB (K40.out)
              have K57 : Hid (w5.cell? ⟨w.heap.size + 1, 0, none⟩ = some (.int .i64 x.n)) := kold hB (K41.out)
              have K58 : Hid (w5.cell? ⟨w.heap.size + 1, 1, none⟩ = some (.int .i64 x.d)) := kold hB (K42.out)
              have K59 : Hid (w5.cell? ⟨b3, 0, none⟩ = some (.bool (tK m x))) := kold hB (K43.out)
              have K60 : Hid (w5.cell? ⟨b3, 1, none⟩ = some (.int .i64 (tV m x).n)) := kold hB (K44.out)
              have K61 : Hid (w5.cell? ⟨b3, 2, none⟩ = some (.int .i64 (tV m x).d)) := kold hB (K45.out)
              have K62 : Hid (w5.cell? ⟨b4, 0, none⟩ = some (.bool (bK m x))) := kold hB (K46.out)
              have K63 : Hid (w5.cell? ⟨b4, 1, none⟩ = some (.int .i64 (bV m x).n)) := kold hB (K47.out)
              have K64 : Hid (w5.cell? ⟨b4, 2, none⟩ = some (.int .i64 (bV m x).d)) := kold hB (K48.out)
              clear K33 K34 K35 K36 K37 K38 K39 K40 K41 K42 K43 K44 K45 K46 K47 K48
              have K65 : Hid (w5.cell? ⟨b5, 0, none⟩ = some (.int .i64 (nQ (bV m x)).n)) := d0
              have K66 : Hid (w5.cell? ⟨b5, 1, none⟩ = some (.int .i64 (nQ (bV m x)).d)) := d1
              clear hB hk1 hk2 d0 d1
              clear hbd
              clear u1 u2 u3 u4
              have u1 : aK m.A.ok m.A (mulK m.C (nQ (bV m x))) (mulQ m.C (nQ (bV m x))) = cK m x := rfl
              have u2 : aQ m.A.ok m.A (mulK m.C (nQ (bV m x))) (mulQ m.C (nQ (bV m x))) = cV m x := rfl
              have k0 : ∀ W, Below w5.heap.size w5 W → W.cell? ⟨w.heap.size, 0, none⟩ = some (.int .i64 m.A.n) := fun _ h => kold h K49.out
              have k1 : ∀ W, Below w5.heap.size w5 W → W.cell? ⟨w.heap.size, 1, none⟩ = some (.int .i64 m.A.d) := fun _ h => kold h K50.out
              have k2 : ∀ W, Below w5.heap.size w5 W → W.cell? ⟨w.heap.size, 2, none⟩ = some (.int .i64 m.B.n) := fun _ h => kold h K51.out
              have k3 : ∀ W, Below w5.heap.size w5 W → W.cell? ⟨w.heap.size, 3, none⟩ = some (.int .i64 m.B.d) := fun _ h => kold h K52.out
              have k4 : ∀ W, Below w5.heap.size w5 W → W.cell? ⟨w.heap.size, 4, none⟩ = some (.int .i64 m.C.n) := fun _ h => kold h K53.out
              have k5 : ∀ W, Below w5.heap.size w5 W → W.cell? ⟨w.heap.size, 5, none⟩ = some (.int .i64 m.C.d) := fun _ h => kold h K54.out
              have k6 : ∀ W, Below w5.heap.size w5 W → W.cell? ⟨w.heap.size, 6, none⟩ = some (.int .i64 m.D.n) := fun _ h => kold h K55.out
              have k7 : ∀ W, Below w5.heap.size w5 W → W.cell? ⟨w.heap.size, 7, none⟩ = some (.int .i64 m.D.d) := fun _ h => kold h K56.out
              have k8 : ∀ W, Below w5.heap.size w5 W → W.cell? ⟨w.heap.size + 1, 0, none⟩ = some (.int .i64 x.n) := fun _ h => kold h K57.out
              have k9 : ∀ W, Below w5.heap.size w5 W → W.cell? ⟨w.heap.size + 1, 1, none⟩ = some (.int .i64 x.d) := fun _ h => kold h K58.out
              have k16 : ∀ W, Below w5.heap.size w5 W → W.cell? ⟨b5, 0, none⟩ = some (.int .i64 (nQ (bV m x)).n) := fun _ h => kold h K65.out
              have k17 : ∀ W, Below w5.heap.size w5 W → W.cell? ⟨b5, 1, none⟩ = some (.int .i64 (nQ (bV m x)).d) := fun _ h => kold h K66.out
              have hR0 : Below w5.heap.size w5 w5 := Below.refl _ _
              go_wp2_with fail
              go_cut [8] (fun p wx => ∃ k : Nat, p = .pointer (some ⟨k, 0, none⟩) ∧ w5.heap.size ≤ k ∧ k < wx.heap.size ∧ Below w5.heap.size w5 wx ∧ wx.cell? ⟨k, 0, none⟩ = some (.bool (cK m x)) ∧ wx.cell? ⟨k, 1, none⟩ = some (.int .i64 (cV m x).n) ∧ wx.cell? ⟨k, 2, none⟩ = some (.int .i64 (cV m x).d))
              case first =>
                go_region_held3 (fun W => Below w5.heap.size w5 W) (go_grown) (first | (go_at_call 18; refine (smul7 _ _ _).mono ?_; rintro e wz ⟨rfl, hb1⟩; have hs1 := hb1.size; (try simp at hs1); have hR1 : Below w5.heap.size w5 wz := (by refine box_step ?_ hb1 (by go_size); go_grown); (first | (have hZ := box_step hZ hb1 (Nat.le_refl _)) | (have hZ := hb1)); obtain ⟨ho1, hf1, hz1⟩ := olds' hZ) | (go_at_call 19; refine (sof _ _).mono ?_; rintro e wz ⟨rfl, hb1⟩; have hs1 := hb1.size; (try simp at hs1); have hR1 : Below w5.heap.size w5 wz := (by refine box_step ?_ hb1 (by go_size); go_grown); (first | (have hZ := box_step hZ hb1 (Nat.le_refl _)) | (have hZ := hb1)); obtain ⟨ho1, hf1, hz1⟩ := olds' hZ) | (go_at_call 17; refine (sadd7 _ _ _ _ _).mono ?_; rintro e wz ⟨rfl, hb1⟩; have hs1 := hb1.size; (try simp at hs1); have hR1 : Below w5.heap.size w5 wz := (by refine box_step ?_ hb1 (by go_size); go_grown); (first | (have hZ := box_step hZ hb1 (Nat.le_refl _)) | (have hZ := hb1)); obtain ⟨ho1, hf1, hz1⟩ := olds' hZ))
                all_goals
                  go_wp2_with fail
                  go_meet
                  case rel =>
                    refine ⟨_, rfl, ?_, ?_, ?_, ?_, ?_, ?_⟩
                    · omega
                    · simp [World.setCell] <;> omega
                    · go_grown
                    · go_simp
                    · go_simp
                    · go_simp
              case rest =>
                obtain ⟨b6, rfl, hk1, hk2, hB, d0, d1, d2⟩ := hcut
                clear k0 k1 k2 k3 k4 k5 k6 k7 k8 k9 k16 k17 hR0
                obtain ⟨w6, hv⟩ : ∃ v, v = wc := ⟨_, rfl⟩
                subst hv
                have HO : Hid (Below w.heap.size w w6) := box_step HO.out hB (by first | exact Nat.le_refl _ | exact HO.out.size)
                have RB : Hid (Blk w6 (w.heap.size + 1 + 1) #[.int .i64 0, .int .i64 0, .int .i64 0, .int .i64 0, .int .i64 0] 31) := Blk.old RB.out hB
                have K67 : Hid (w6.cell? ⟨w.heap.size, 0, none⟩ = some (.int .i64 m.A.n)) := kold hB (K49.out)
                have K68 : Hid (w6.cell? ⟨w.heap.size, 1, none⟩ = some (.int .i64 m.A.d)) := kold hB (K50.out)
                have K69 : Hid (w6.cell? ⟨w.heap.size, 2, none⟩ = some (.int .i64 m.B.n)) := kold hB (K51.out)
                have K70 : Hid (w6.cell? ⟨w.heap.size, 3, none⟩ = some (.int .i64 m.B.d)) := kold hB (K52.out)
                have K71 : Hid (w6.cell? ⟨w.heap.size, 4, none⟩ = some (.int .i64 m.C.n)) := kold hB (K53.out)
                have K72 : Hid (w6.cell? ⟨w.heap.size, 5, none⟩ = some (.int .i64 m.C.d)) := kold hB (K54.out)
                have K73 : Hid (w6.cell? ⟨w.heap.size, 6, none⟩ = some (.int .i64 m.D.n)) := kold hB (K55.out)
                have K74 : Hid (w6.cell? ⟨w.heap.size, 7, none⟩ = some (.int .i64 m.D.d)) := kold hB (K56.out)
                have K75 : Hid (w6.cell? ⟨w.heap.size + 1, 0, none⟩ = some (.int .i64 x.n)) := kold hB (K57.out)
                have K76 : Hid (w6.cell? ⟨w.heap.size + 1, 1, none⟩ = some (.int .i64 x.d)) := kold hB (K58.out)
                have K77 : Hid (w6.cell? ⟨b3, 0, none⟩ = some (.bool (tK m x))) := kold hB (K59.out)
                have K78 : Hid (w6.cell? ⟨b3, 1, none⟩ = some (.int .i64 (tV m x).n)) := kold hB (K60.out)
                have K79 : Hid (w6.cell? ⟨b3, 2, none⟩ = some (.int .i64 (tV m x).d)) := kold hB (K61.out)
                have K80 : Hid (w6.cell? ⟨b4, 0, none⟩ = some (.bool (bK m x))) := kold hB (K62.out)
                have K81 : Hid (w6.cell? ⟨b4, 1, none⟩ = some (.int .i64 (bV m x).n)) := kold hB (K63.out)
                have K82 : Hid (w6.cell? ⟨b4, 2, none⟩ = some (.int .i64 (bV m x).d)) := kold hB (K64.out)
                have K83 : Hid (w6.cell? ⟨b5, 0, none⟩ = some (.int .i64 (nQ (bV m x)).n)) := kold hB (K65.out)
                have K84 : Hid (w6.cell? ⟨b5, 1, none⟩ = some (.int .i64 (nQ (bV m x)).d)) := kold hB (K66.out)
                clear K49 K50 K51 K52 K53 K54 K55 K56 K57 K58 K59 K60 K61 K62 K63 K64 K65 K66
                have K85 : Hid (w6.cell? ⟨b6, 0, none⟩ = some (.bool (cK m x))) := d0
                have K86 : Hid (w6.cell? ⟨b6, 1, none⟩ = some (.int .i64 (cV m x).n)) := d1
                have K87 : Hid (w6.cell? ⟨b6, 2, none⟩ = some (.int .i64 (cV m x).d)) := d2
                clear hB hk1 hk2 d0 d1 d2
                cases hc2 : cK m x
                case false =>
                  have hc : imC m x = 3 := by rw [hI3, hc2]; rfl
                  clear hI3
                  have c18 := K85.out
                  have c19 := K86.out
                  have c20 := K87.out
                  have r0 := RB.out.cell (j := 0) rfl
                  have r1 := RB.out.cell (j := 1) rfl
                  have r2 := RB.out.cell (j := 2) rfl
                  have r3 := RB.out.cell (j := 3) rfl
                  have r4 := RB.out.cell (j := 4) rfl
                  have rf := RB.out.frozen
                  repeat go_step
                  refine bodyPost_ret (v := .agg #[.int .i64 3, .int .i64 0, .int .i64 0, .int .i64 0, .int .i64 0]) (by simp [results, Try.results6, go_sem, r0, r1, r2, r3, r4, World.cell?_alloc_lt, RB.out.lt] <;> (repeat' (first | rfl | apply And.intro))) rfl ⟨by rw [hc]; rfl, ?_⟩
                  have h := HO.out
                  have hlt := RB.out.lt
                  have hsz := h.size
                  go_grown
                case true =>
                  have hc : imC m x = 0 := by rw [hI3, hc2]; rfl
                  clear hI3
                  have c16 := K83.out
                  have c17 := K84.out
                  have c18 := K85.out
                  have c19 := K86.out
                  have c20 := K87.out
                  have r0 := RB.out.cell (j := 0) rfl
                  have r1 := RB.out.cell (j := 1) rfl
                  have r2 := RB.out.cell (j := 2) rfl
                  have r3 := RB.out.cell (j := 3) rfl
                  have r4 := RB.out.cell (j := 4) rfl
                  have rf := RB.out.frozen
                  repeat go_step
                  refine bodyPost_ret (v := .agg #[.int .i64 0, .int .i64 (nQ (bV m x)).n, .int .i64 (nQ (bV m x)).d, .int .i64 (cV m x).n, .int .i64 (cV m x).d]) (by simp [results, Try.results6, go_sem, r0, r1, r2, r3, r4, World.cell?_alloc_lt, RB.out.lt] <;> (repeat' (first | rfl | apply And.intro))) rfl ⟨by rw [hc]; rfl, ?_⟩
                  have h := HO.out
                  have hlt := RB.out.lt
                  have hsz := h.size
                  go_grown
theorem simg (m : Mx) (x : Q) (w : World) : Calls Try.prog 6 #[.agg #[.int .i64 m.A.n, .int .i64 m.A.d, .int .i64 m.B.n, .int .i64 m.B.d, .int .i64 m.C.n, .int .i64 m.C.d, .int .i64 m.D.n, .int .i64 m.D.d], .agg #[.int .i64 x.n, .int .i64 x.d]] w fun e w' => e = .returned (.agg #[.int .i64 (imC m x), .int .i64 (sel (imC m x) (nQ (bV m x))).n, .int .i64 (sel (imC m x) (nQ (bV m x))).d, .int .i64 (sel (imC m x) (cV m x)).n, .int .i64 (sel (imC m x) (cV m x)).d]) ∧ Below w.heap.size w w' := by
  cases h : m.ok
  · rw [show imC m x = 1 from by unfold imC; rw [h]; rfl]
    exact simg_0 m x w h
  cases h1 : x.ok
  · rw [show imC m x = 1 from by unfold imC; rw [h, h1]; rfl]
    exact simg_1 m x w h h1
  · exact simg_2 m x w h h1
end Go.Proofs.Ytdmjfphmgpkfcaa
