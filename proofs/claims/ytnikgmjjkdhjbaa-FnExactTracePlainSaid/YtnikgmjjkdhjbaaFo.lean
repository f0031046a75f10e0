/- Foci: both ways. -/
import Derived.Test.YtnikgmjjkdhjbaaIp
namespace Go.Proofs.Ytnikgmjjkdhjbaa
open Go.RowKit
set_option linter.unusedVariables false
set_option linter.unusedSimpArgs false
/-- What the foci come to. -/
def mone : Q := ⟨-1, 1⟩
def foK (m : Mx) : Bool := divK mone m.C && divK (nQ m.D) m.C && divK (nQ m.A) m.C
def foC (m : Mx) : Int := if m.ok = true then (if m.C.n = 0 then 4 else if foK m = true then 0 else 3) else 1
theorem mone_ok : mone.ok = true := by decide
theorem mxok {m : Mx} (h : m.ok = true) : m.A.ok = true ∧ m.B.ok = true ∧ m.C.ok = true ∧ m.D.ok = true := by
  simpa [Mx.ok, and_assoc] using h
theorem dK_t (x y : Q) : dK true x y = divK x y := rfl
theorem dQ_t (x y : Q) : dQ true x y = divQ x y := rfl
set_option maxRecDepth 20000 in
set_option maxHeartbeats 1600000 in
theorem sfoci_0 (m : Mx) (w : World) (h0 : m.ok = false) : Calls Try.prog 44 #[.agg #[.int .i64 m.A.n, .int .i64 m.A.d, .int .i64 m.B.n, .int .i64 m.B.d, .int .i64 m.C.n, .int .i64 m.C.d, .int .i64 m.D.n, .int .i64 m.D.d]] w fun e w' => e = .returned (.agg #[.int .i64 1, .int .i64 0, .int .i64 0, .int .i64 0, .int .i64 0, .int .i64 0, .int .i64 0]) ∧ Below w.heap.size w w' := by
  go_enter Try.func44, Try.ntmps44
  go_wp2_with fail
  refine (sgood m _).mono ?_
  rintro e w1 ⟨rfl, hb⟩
  have HO : Hid (Below w.heap.size w w1) := by refine box_step ?_ hb (by simp <;> omega); go_grown
  have X0 : Blk w1 (w.heap.size) #[.int .i64 m.A.n, .int .i64 m.A.d, .int .i64 m.B.n, .int .i64 m.B.d, .int .i64 m.C.n, .int .i64 m.C.d, .int .i64 m.D.n, .int .i64 m.D.d] 27 := Blk.old ((Blk.alloc (Blk.new (by simp)) _)) hb
  have K0 : Hid (w1.cell? ⟨w.heap.size, 0, none⟩ = some (.int .i64 m.A.n)) := X0.cell rfl
  have K1 : Hid (w1.cell? ⟨w.heap.size, 1, none⟩ = some (.int .i64 m.A.d)) := X0.cell rfl
  have K2 : Hid (w1.cell? ⟨w.heap.size, 2, none⟩ = some (.int .i64 m.B.n)) := X0.cell rfl
  have K3 : Hid (w1.cell? ⟨w.heap.size, 3, none⟩ = some (.int .i64 m.B.d)) := X0.cell rfl
  have K4 : Hid (w1.cell? ⟨w.heap.size, 4, none⟩ = some (.int .i64 m.C.n)) := X0.cell rfl
  have K5 : Hid (w1.cell? ⟨w.heap.size, 5, none⟩ = some (.int .i64 m.C.d)) := X0.cell rfl
  have K6 : Hid (w1.cell? ⟨w.heap.size, 6, none⟩ = some (.int .i64 m.D.n)) := X0.cell rfl
  have K7 : Hid (w1.cell? ⟨w.heap.size, 7, none⟩ = some (.int .i64 m.D.d)) := X0.cell rfl
  clear X0
  have RB : Hid (Blk w1 (w.heap.size + 1) #[.int .i64 0, .int .i64 0, .int .i64 0, .int .i64 0, .int .i64 0, .int .i64 0, .int .i64 0] 79) := Blk.old (Blk.new (by simp)) hb
  clear hb
  have r0 := RB.out.cell (j := 0) rfl
  have r1 := RB.out.cell (j := 1) rfl
  have r2 := RB.out.cell (j := 2) rfl
  have r3 := RB.out.cell (j := 3) rfl
  have r4 := RB.out.cell (j := 4) rfl
  have r5 := RB.out.cell (j := 5) rfl
  have r6 := RB.out.cell (j := 6) rfl
  have rf := RB.out.frozen
  go_wp2
  refine bodyPost_ret (v := .agg #[.int .i64 1, .int .i64 0, .int .i64 0, .int .i64 0, .int .i64 0, .int .i64 0, .int .i64 0]) (by simp [results, Try.results44, go_sem, r0, r1, r2, r3, r4, r5, r6, World.cell?_alloc_lt, RB.out.lt] <;> (repeat' (first | rfl | apply And.intro))) rfl ⟨rfl, ?_⟩
  have h := HO.out
  have hlt := RB.out.lt
  have hsz := h.size
  go_grown
set_option maxRecDepth 20000 in
set_option maxHeartbeats 1600000 in
theorem sfoci_1 (m : Mx) (w : World) (h0 : m.ok = true) (hz : (m.C.n == 0) = true) : Calls Try.prog 44 #[.agg #[.int .i64 m.A.n, .int .i64 m.A.d, .int .i64 m.B.n, .int .i64 m.B.d, .int .i64 m.C.n, .int .i64 m.C.d, .int .i64 m.D.n, .int .i64 m.D.d]] w fun e w' => e = .returned (.agg #[.int .i64 4, .int .i64 0, .int .i64 0, .int .i64 0, .int .i64 0, .int .i64 0, .int .i64 0]) ∧ Below w.heap.size w w' := by
  go_enter Try.func44, Try.ntmps44
  go_wp2_with fail
  refine (sgood m _).mono ?_
  rintro e w1 ⟨rfl, hb⟩
  have HO : Hid (Below w.heap.size w w1) := by refine box_step ?_ hb (by simp <;> omega); go_grown
  have X0 : Blk w1 (w.heap.size) #[.int .i64 m.A.n, .int .i64 m.A.d, .int .i64 m.B.n, .int .i64 m.B.d, .int .i64 m.C.n, .int .i64 m.C.d, .int .i64 m.D.n, .int .i64 m.D.d] 27 := Blk.old ((Blk.alloc (Blk.new (by simp)) _)) hb
  have K0 : Hid (w1.cell? ⟨w.heap.size, 0, none⟩ = some (.int .i64 m.A.n)) := X0.cell rfl
  have K1 : Hid (w1.cell? ⟨w.heap.size, 1, none⟩ = some (.int .i64 m.A.d)) := X0.cell rfl
  have K2 : Hid (w1.cell? ⟨w.heap.size, 2, none⟩ = some (.int .i64 m.B.n)) := X0.cell rfl
  have K3 : Hid (w1.cell? ⟨w.heap.size, 3, none⟩ = some (.int .i64 m.B.d)) := X0.cell rfl
  have K4 : Hid (w1.cell? ⟨w.heap.size, 4, none⟩ = some (.int .i64 m.C.n)) := X0.cell rfl
  have K5 : Hid (w1.cell? ⟨w.heap.size, 5, none⟩ = some (.int .i64 m.C.d)) := X0.cell rfl
  have K6 : Hid (w1.cell? ⟨w.heap.size, 6, none⟩ = some (.int .i64 m.D.n)) := X0.cell rfl
  have K7 : Hid (w1.cell? ⟨w.heap.size, 7, none⟩ = some (.int .i64 m.D.d)) := X0.cell rfl
  clear X0
  have RB : Hid (Blk w1 (w.heap.size + 1) #[.int .i64 0, .int .i64 0, .int .i64 0, .int .i64 0, .int .i64 0, .int .i64 0, .int .i64 0] 79) := Blk.old (Blk.new (by simp)) hb
  clear hb
  have c0 := K0.out
  have c1 := K1.out
  have c2 := K2.out
  have c3 := K3.out
  have c4 := K4.out
  have c5 := K5.out
  have c6 := K6.out
  have c7 := K7.out
  have r0 := RB.out.cell (j := 0) rfl
  have r1 := RB.out.cell (j := 1) rfl
  have r2 := RB.out.cell (j := 2) rfl
  have r3 := RB.out.cell (j := 3) rfl
  have r4 := RB.out.cell (j := 4) rfl
  have r5 := RB.out.cell (j := 5) rfl
  have r6 := RB.out.cell (j := 6) rfl
  have rf := RB.out.frozen
  go_wp2
  refine bodyPost_ret (v := .agg #[.int .i64 4, .int .i64 0, .int .i64 0, .int .i64 0, .int .i64 0, .int .i64 0, .int .i64 0]) (by simp [results, Try.results44, go_sem, r0, r1, r2, r3, r4, r5, r6, World.cell?_alloc_lt, RB.out.lt] <;> (repeat' (first | rfl | apply And.intro))) rfl ⟨rfl, ?_⟩
  have h := HO.out
  have hlt := RB.out.lt
  have hsz := h.size
  go_grown
set_option maxRecDepth 20000 in
set_option maxHeartbeats 3200000 in
theorem sfoci_2 (m : Mx) (w : World) (h0 : m.ok = true) (hz : (m.C.n == 0) = false) : Calls Try.prog 44 #[.agg #[.int .i64 m.A.n, .int .i64 m.A.d, .int .i64 m.B.n, .int .i64 m.B.d, .int .i64 m.C.n, .int .i64 m.C.d, .int .i64 m.D.n, .int .i64 m.D.d]] w fun e w' => e = .returned (.agg #[.int .i64 (foC m), .int .i64 (sel (foC m) (divQ mone m.C)).n, .int .i64 (sel (foC m) (divQ mone m.C)).d, .int .i64 (sel (foC m) (divQ (nQ m.D) m.C)).n, .int .i64 (sel (foC m) (divQ (nQ m.D) m.C)).d, .int .i64 (sel (foC m) (divQ (nQ m.A) m.C)).n, .int .i64 (sel (foC m) (divQ (nQ m.A) m.C)).d]) ∧ Below w.heap.size w w' := by
  obtain ⟨okA, okB, okC, okD⟩ := mxok h0
  have bA := ok_bd okA
  have bD := ok_bd okD
  have e1 : dK mone.ok mone m.C = divK mone m.C := rfl
  have e2 : dQ mone.ok mone m.C = divQ mone m.C := rfl
  have e3 : dK (nQ m.D).ok (nQ m.D) m.C = divK (nQ m.D) m.C := by rw [nQ_ok, okD]; rfl
  have e4 : dQ (nQ m.D).ok (nQ m.D) m.C = divQ (nQ m.D) m.C := by rw [nQ_ok, okD]; rfl
  have e5 : dK (nQ m.A).ok (nQ m.A) m.C = divK (nQ m.A) m.C := by rw [nQ_ok, okA]; rfl
  have e6 : dQ (nQ m.A).ok (nQ m.A) m.C = divQ (nQ m.A) m.C := by rw [nQ_ok, okA]; rfl
  clear okA okB okC okD
  go_enter Try.func44, Try.ntmps44
  go_wp2_with fail
  refine (sgood m _).mono ?_
  rintro e w1 ⟨rfl, hb⟩
  have HO : Hid (Below w.heap.size w w1) := by refine box_step ?_ hb (by simp <;> omega); go_grown
  have X0 : Blk w1 (w.heap.size) #[.int .i64 m.A.n, .int .i64 m.A.d, .int .i64 m.B.n, .int .i64 m.B.d, .int .i64 m.C.n, .int .i64 m.C.d, .int .i64 m.D.n, .int .i64 m.D.d] 27 := Blk.old ((Blk.alloc (Blk.new (by simp)) _)) hb
  have K0 : Hid (w1.cell? ⟨w.heap.size, 0, none⟩ = some (.int .i64 m.A.n)) := X0.cell rfl
  have K1 : Hid (w1.cell? ⟨w.heap.size, 1, none⟩ = some (.int .i64 m.A.d)) := X0.cell rfl
  have K2 : Hid (w1.cell? ⟨w.heap.size, 2, none⟩ = some (.int .i64 m.B.n)) := X0.cell rfl
  have K3 : Hid (w1.cell? ⟨w.heap.size, 3, none⟩ = some (.int .i64 m.B.d)) := X0.cell rfl
  have K4 : Hid (w1.cell? ⟨w.heap.size, 4, none⟩ = some (.int .i64 m.C.n)) := X0.cell rfl
  have K5 : Hid (w1.cell? ⟨w.heap.size, 5, none⟩ = some (.int .i64 m.C.d)) := X0.cell rfl
  have K6 : Hid (w1.cell? ⟨w.heap.size, 6, none⟩ = some (.int .i64 m.D.n)) := X0.cell rfl
  have K7 : Hid (w1.cell? ⟨w.heap.size, 7, none⟩ = some (.int .i64 m.D.d)) := X0.cell rfl
  clear X0
  have RB : Hid (Blk w1 (w.heap.size + 1) #[.int .i64 0, .int .i64 0, .int .i64 0, .int .i64 0, .int .i64 0, .int .i64 0, .int .i64 0] 79) := Blk.old (Blk.new (by simp)) hb
  clear hb
  have c0 := K0.out
  have c1 := K1.out
  have c2 := K2.out
  have c3 := K3.out
  have c4 := K4.out
  have c5 := K5.out
  have c6 := K6.out
  have c7 := K7.out
  have r0 := RB.out.cell (j := 0) rfl
  have r1 := RB.out.cell (j := 1) rfl
  have r2 := RB.out.cell (j := 2) rfl
  have r3 := RB.out.cell (j := 3) rfl
  have r4 := RB.out.cell (j := 4) rfl
  have r5 := RB.out.cell (j := 5) rfl
  have r6 := RB.out.cell (j := 6) rfl
  have rf := RB.out.frozen
  go_upto_region 5 with fail
  clear c0 c1 c2 c3 c4 c5 c6 c7 r0 r1 r2 r3 r4 r5 r6 rf
  have k0 : ∀ W, Below w1.heap.size w1 W → W.cell? ⟨w.heap.size, 0, none⟩ = some (.int .i64 m.A.n) := fun _ h => kold h K0.out
  have k1 : ∀ W, Below w1.heap.size w1 W → W.cell? ⟨w.heap.size, 1, none⟩ = some (.int .i64 m.A.d) := fun _ h => kold h K1.out
  have k2 : ∀ W, Below w1.heap.size w1 W → W.cell? ⟨w.heap.size, 2, none⟩ = some (.int .i64 m.B.n) := fun _ h => kold h K2.out
  have k3 : ∀ W, Below w1.heap.size w1 W → W.cell? ⟨w.heap.size, 3, none⟩ = some (.int .i64 m.B.d) := fun _ h => kold h K3.out
  have k4 : ∀ W, Below w1.heap.size w1 W → W.cell? ⟨w.heap.size, 4, none⟩ = some (.int .i64 m.C.n) := fun _ h => kold h K4.out
  have k5 : ∀ W, Below w1.heap.size w1 W → W.cell? ⟨w.heap.size, 5, none⟩ = some (.int .i64 m.C.d) := fun _ h => kold h K5.out
  have k6 : ∀ W, Below w1.heap.size w1 W → W.cell? ⟨w.heap.size, 6, none⟩ = some (.int .i64 m.D.n) := fun _ h => kold h K6.out
  have k7 : ∀ W, Below w1.heap.size w1 W → W.cell? ⟨w.heap.size, 7, none⟩ = some (.int .i64 m.D.d) := fun _ h => kold h K7.out
  have hR0 : Below w1.heap.size w1 w1 := Below.refl _ _
  go_wp2_with fail
  go_cut [3] (fun p wx => ∃ k : Nat, p = .pointer (some ⟨k, 0, none⟩) ∧ w1.heap.size ≤ k ∧ k < wx.heap.size ∧ Below w1.heap.size w1 wx ∧ wx.cell? ⟨k, 0, none⟩ = some (.bool (divK mone m.C)) ∧ wx.cell? ⟨k, 1, none⟩ = some (.int .i64 (divQ mone m.C).n) ∧ wx.cell? ⟨k, 2, none⟩ = some (.int .i64 (divQ mone m.C).d))
  case first =>
    go_region_held3 (fun W => Below w1.heap.size w1 W) (go_grown) (first | (go_at_call 86; refine (sint _ _).mono ?_; rintro e wz ⟨rfl, hb1⟩; have hs1 := hb1.size; (try simp at hs1); have hR1 : Below w1.heap.size w1 wz := (by refine box_step ?_ hb1 (by go_size); go_grown); (first | (have hZ := box_step hZ hb1 (Nat.le_refl _)) | (have hZ := hb1)); obtain ⟨ho1, hf1, hz1⟩ := olds' hZ) | (go_at_call 58; refine (sof mone _).mono ?_; rintro e wz ⟨rfl, hb1⟩; have hs1 := hb1.size; (try simp at hs1); have hR1 : Below w1.heap.size w1 wz := (by refine box_step ?_ hb1 (by go_size); go_grown); (first | (have hZ := box_step hZ hb1 (Nat.le_refl _)) | (have hZ := hb1)); obtain ⟨ho1, hf1, hz1⟩ := olds' hZ) | (go_at_call 59; refine (sdiv7 _ mone _ _).mono ?_; rintro e wz ⟨rfl, hb1⟩; have hs1 := hb1.size; (try simp at hs1); have hR1 : Below w1.heap.size w1 wz := (by refine box_step ?_ hb1 (by go_size); go_grown); (first | (have hZ := box_step hZ hb1 (Nat.le_refl _)) | (have hZ := hb1)); obtain ⟨ho1, hf1, hz1⟩ := olds' hZ))
    all_goals
      go_wp2_with fail
      go_meet
      case rel =>
        refine ⟨_, rfl, ?_, ?_, ?_, ?_, ?_, ?_⟩
        · omega
        · simp [World.setCell] <;> omega
        · go_grown
        · go_simp
        · go_simp
        · go_simp
  case rest =>
    obtain ⟨b2, rfl, hk1, hk2, hB, d0, d1, d2⟩ := hcut
    clear k0 k1 k2 k3 k4 k5 k6 k7 hR0
    obtain ⟨w2, hv⟩ : ∃ v, v = wc := ⟨_, rfl⟩
    subst hv
    have HO : Hid (Below w.heap.size w w2) := box_step HO.out hB (by first | exact Nat.le_refl _ | exact HO.out.size)
    have RB : Hid (Blk w2 (w.heap.size + 1) #[.int .i64 0, .int .i64 0, .int .i64 0, .int .i64 0, .int .i64 0, .int .i64 0, .int .i64 0] 79) := Blk.old RB.out hB
    have K8 : Hid (w2.cell? ⟨w.heap.size, 0, none⟩ = some (.int .i64 m.A.n)) := kold hB (K0.out)
    have K9 : Hid (w2.cell? ⟨w.heap.size, 1, none⟩ = some (.int .i64 m.A.d)) := kold hB (K1.out)
    have K10 : Hid (w2.cell? ⟨w.heap.size, 2, none⟩ = some (.int .i64 m.B.n)) := kold hB (K2.out)
    have K11 : Hid (w2.cell? ⟨w.heap.size, 3, none⟩ = some (.int .i64 m.B.d)) := kold hB (K3.out)
    have K12 : Hid (w2.cell? ⟨w.heap.size, 4, none⟩ = some (.int .i64 m.C.n)) := kold hB (K4.out)
    have K13 : Hid (w2.cell? ⟨w.heap.size, 5, none⟩ = some (.int .i64 m.C.d)) := kold hB (K5.out)
    have K14 : Hid (w2.cell? ⟨w.heap.size, 6, none⟩ = some (.int .i64 m.D.n)) := kold hB (K6.out)
    have K15 : Hid (w2.cell? ⟨w.heap.size, 7, none⟩ = some (.int .i64 m.D.d)) := kold hB (K7.out)
    clear K0 K1 K2 K3 K4 K5 K6 K7
    have K16 : Hid (w2.cell? ⟨b2, 0, none⟩ = some (.bool (divK mone m.C))) := d0
    have K17 : Hid (w2.cell? ⟨b2, 1, none⟩ = some (.int .i64 (divQ mone m.C).n)) := d1
    have K18 : Hid (w2.cell? ⟨b2, 2, none⟩ = some (.int .i64 (divQ mone m.C).d)) := d2
    clear hB hk1 hk2 d0 d1 d2
    have k0 : ∀ W, Below w2.heap.size w2 W → W.cell? ⟨w.heap.size, 0, none⟩ = some (.int .i64 m.A.n) := fun _ h => kold h K8.out
    have k1 : ∀ W, Below w2.heap.size w2 W → W.cell? ⟨w.heap.size, 1, none⟩ = some (.int .i64 m.A.d) := fun _ h => kold h K9.out
    have k2 : ∀ W, Below w2.heap.size w2 W → W.cell? ⟨w.heap.size, 2, none⟩ = some (.int .i64 m.B.n) := fun _ h => kold h K10.out
    have k3 : ∀ W, Below w2.heap.size w2 W → W.cell? ⟨w.heap.size, 3, none⟩ = some (.int .i64 m.B.d) := fun _ h => kold h K11.out
    have k4 : ∀ W, Below w2.heap.size w2 W → W.cell? ⟨w.heap.size, 4, none⟩ = some (.int .i64 m.C.n) := fun _ h => kold h K12.out
    have k5 : ∀ W, Below w2.heap.size w2 W → W.cell? ⟨w.heap.size, 5, none⟩ = some (.int .i64 m.C.d) := fun _ h => kold h K13.out
    have k6 : ∀ W, Below w2.heap.size w2 W → W.cell? ⟨w.heap.size, 6, none⟩ = some (.int .i64 m.D.n) := fun _ h => kold h K14.out
    have k7 : ∀ W, Below w2.heap.size w2 W → W.cell? ⟨w.heap.size, 7, none⟩ = some (.int .i64 m.D.d) := fun _ h => kold h K15.out
    have hR0 : Below w2.heap.size w2 w2 := Below.refl _ _
    go_wp2_with fail
    go_cut [4] (fun p wx => ∃ k : Nat, p = .pointer (some ⟨k, 0, none⟩) ∧ w2.heap.size ≤ k ∧ k < wx.heap.size ∧ Below w2.heap.size w2 wx ∧ wx.cell? ⟨k, 0, none⟩ = some (.bool (divK (nQ m.D) m.C)) ∧ wx.cell? ⟨k, 1, none⟩ = some (.int .i64 (divQ (nQ m.D) m.C).n) ∧ wx.cell? ⟨k, 2, none⟩ = some (.int .i64 (divQ (nQ m.D) m.C).d))
    case first =>
      go_region_held3 (fun W => Below w2.heap.size w2 W) (go_grown) (first | (go_at_call 60; refine (sneg _ _ bD.1 bD.2).mono ?_; rintro e wz ⟨rfl, hb1⟩; have hs1 := hb1.size; (try simp at hs1); have hR1 : Below w2.heap.size w2 wz := (by refine box_step ?_ hb1 (by go_size); go_grown); (first | (have hZ := box_step hZ hb1 (Nat.le_refl _)) | (have hZ := hb1)); obtain ⟨ho1, hf1, hz1⟩ := olds' hZ) | (go_at_call 58; refine (sof _ _).mono ?_; rintro e wz ⟨rfl, hb1⟩; have hs1 := hb1.size; (try simp at hs1); have hR1 : Below w2.heap.size w2 wz := (by refine box_step ?_ hb1 (by go_size); go_grown); (first | (have hZ := box_step hZ hb1 (Nat.le_refl _)) | (have hZ := hb1)); obtain ⟨ho1, hf1, hz1⟩ := olds' hZ) | (go_at_call 59; refine (sdiv7 _ _ _ _).mono ?_; rintro e wz ⟨rfl, hb1⟩; have hs1 := hb1.size; (try simp at hs1); have hR1 : Below w2.heap.size w2 wz := (by refine box_step ?_ hb1 (by go_size); go_grown); (first | (have hZ := box_step hZ hb1 (Nat.le_refl _)) | (have hZ := hb1)); obtain ⟨ho1, hf1, hz1⟩ := olds' hZ))
      all_goals
        go_wp2_with fail
        go_meet
        case rel =>
          refine ⟨_, rfl, ?_, ?_, ?_, ?_, ?_, ?_⟩
          · omega
          · simp [World.setCell] <;> omega
          · go_grown
          · go_simp
          · go_simp
          · go_simp
    case rest =>
      obtain ⟨b3, rfl, hk1, hk2, hB, d0, d1, d2⟩ := hcut
      clear k0 k1 k2 k3 k4 k5 k6 k7 hR0
      obtain ⟨w3, hv⟩ : ∃ v, v = wc := ⟨_, rfl⟩
      subst hv
      have HO : Hid (Below w.heap.size w w3) := box_step HO.out hB (by first | exact Nat.le_refl _ | exact HO.out.size)
      have RB : Hid (Blk w3 (w.heap.size + 1) #[.int .i64 0, .int .i64 0, .int .i64 0, .int .i64 0, .int .i64 0, .int .i64 0, .int .i64 0] 79) := Blk.old RB.out hB
      have K19 : Hid (w3.cell? ⟨w.heap.size, 0, none⟩ = some (.int .i64 m.A.n)) := kold hB (K8.out)
      have K20 : Hid (w3.cell? ⟨w.heap.size, 1, none⟩ = some (.int .i64 m.A.d)) := kold hB (K9.out)
      have K21 : Hid (w3.cell? ⟨w.heap.size, 2, none⟩ = some (.int .i64 m.B.n)) := kold hB (K10.out)
      have K22 : Hid (w3.cell? ⟨w.heap.size, 3, none⟩ = some (.int .i64 m.B.d)) := kold hB (K11.out)
      have K23 : Hid (w3.cell? ⟨w.heap.size, 4, none⟩ = some (.int .i64 m.C.n)) := kold hB (K12.out)
      have K24 : Hid (w3.cell? ⟨w.heap.size, 5, none⟩ = some (.int .i64 m.C.d)) := kold hB (K13.out)
      have K25 : Hid (w3.cell? ⟨w.heap.size, 6, none⟩ = some (.int .i64 m.D.n)) := kold hB (K14.out)
      have K26 : Hid (w3.cell? ⟨w.heap.size, 7, none⟩ = some (.int .i64 m.D.d)) := kold hB (K15.out)
      have K27 : Hid (w3.cell? ⟨b2, 0, none⟩ = some (.bool (divK mone m.C))) := kold hB (K16.out)
      have K28 : Hid (w3.cell? ⟨b2, 1, none⟩ = some (.int .i64 (divQ mone m.C).n)) := kold hB (K17.out)
      have K29 : Hid (w3.cell? ⟨b2, 2, none⟩ = some (.int .i64 (divQ mone m.C).d)) := kold hB (K18.out)
      clear K8 K9 K10 K11 K12 K13 K14 K15 K16 K17 K18
      have K30 : Hid (w3.cell? ⟨b3, 0, none⟩ = some (.bool (divK (nQ m.D) m.C))) := d0
      have K31 : Hid (w3.cell? ⟨b3, 1, none⟩ = some (.int .i64 (divQ (nQ m.D) m.C).n)) := d1
      have K32 : Hid (w3.cell? ⟨b3, 2, none⟩ = some (.int .i64 (divQ (nQ m.D) m.C).d)) := d2
      clear hB hk1 hk2 d0 d1 d2
      have k0 : ∀ W, Below w3.heap.size w3 W → W.cell? ⟨w.heap.size, 0, none⟩ = some (.int .i64 m.A.n) := fun _ h => kold h K19.out
      have k1 : ∀ W, Below w3.heap.size w3 W → W.cell? ⟨w.heap.size, 1, none⟩ = some (.int .i64 m.A.d) := fun _ h => kold h K20.out
      have k2 : ∀ W, Below w3.heap.size w3 W → W.cell? ⟨w.heap.size, 2, none⟩ = some (.int .i64 m.B.n) := fun _ h => kold h K21.out
      have k3 : ∀ W, Below w3.heap.size w3 W → W.cell? ⟨w.heap.size, 3, none⟩ = some (.int .i64 m.B.d) := fun _ h => kold h K22.out
      have k4 : ∀ W, Below w3.heap.size w3 W → W.cell? ⟨w.heap.size, 4, none⟩ = some (.int .i64 m.C.n) := fun _ h => kold h K23.out
      have k5 : ∀ W, Below w3.heap.size w3 W → W.cell? ⟨w.heap.size, 5, none⟩ = some (.int .i64 m.C.d) := fun _ h => kold h K24.out
      have k6 : ∀ W, Below w3.heap.size w3 W → W.cell? ⟨w.heap.size, 6, none⟩ = some (.int .i64 m.D.n) := fun _ h => kold h K25.out
      have k7 : ∀ W, Below w3.heap.size w3 W → W.cell? ⟨w.heap.size, 7, none⟩ = some (.int .i64 m.D.d) := fun _ h => kold h K26.out
      have hR0 : Below w3.heap.size w3 w3 := Below.refl _ _
      go_wp2_with fail
      go_cut [5] (fun p wx => ∃ k : Nat, p = .pointer (some ⟨k, 0, none⟩) ∧ w3.heap.size ≤ k ∧ k < wx.heap.size ∧ Below w3.heap.size w3 wx ∧ wx.cell? ⟨k, 0, none⟩ = some (.bool (divK (nQ m.A) m.C)) ∧ wx.cell? ⟨k, 1, none⟩ = some (.int .i64 (divQ (nQ m.A) m.C).n) ∧ wx.cell? ⟨k, 2, none⟩ = some (.int .i64 (divQ (nQ m.A) m.C).d))
      case first =>
        go_region_held3 (fun W => Below w3.heap.size w3 W) (go_grown) (first | (go_at_call 60; refine (sneg _ _ bA.1 bA.2).mono ?_; rintro e wz ⟨rfl, hb1⟩; have hs1 := hb1.size; (try simp at hs1); have hR1 : Below w3.heap.size w3 wz := (by refine box_step ?_ hb1 (by go_size); go_grown); (first | (have hZ := box_step hZ hb1 (Nat.le_refl _)) | (have hZ := hb1)); obtain ⟨ho1, hf1, hz1⟩ := olds' hZ) | (go_at_call 58; refine (sof _ _).mono ?_; rintro e wz ⟨rfl, hb1⟩; have hs1 := hb1.size; (try simp at hs1); have hR1 : Below w3.heap.size w3 wz := (by refine box_step ?_ hb1 (by go_size); go_grown); (first | (have hZ := box_step hZ hb1 (Nat.le_refl _)) | (have hZ := hb1)); obtain ⟨ho1, hf1, hz1⟩ := olds' hZ) | (go_at_call 59; refine (sdiv7 _ _ _ _).mono ?_; rintro e wz ⟨rfl, hb1⟩; have hs1 := hb1.size; (try simp at hs1); have hR1 : Below w3.heap.size w3 wz := (by refine box_step ?_ hb1 (by go_size); go_grown); (first | (have hZ := box_step hZ hb1 (Nat.le_refl _)) | (have hZ := hb1)); obtain ⟨ho1, hf1, hz1⟩ := olds' hZ))
        all_goals
          go_wp2_with fail
          go_meet
          case rel =>
            refine ⟨_, rfl, ?_, ?_, ?_, ?_, ?_, ?_⟩
            · omega
            · simp [World.setCell] <;> omega
            · go_grown
            · go_simp
            · go_simp
            · go_simp
      case rest =>
        obtain ⟨b4, rfl, hk1, hk2, hB, d0, d1, d2⟩ := hcut
        clear k0 k1 k2 k3 k4 k5 k6 k7 hR0
        obtain ⟨w4, hv⟩ : ∃ v, v = wc := ⟨_, rfl⟩
        subst hv
        have HO : Hid (Below w.heap.size w w4) := box_step HO.out hB (by first | exact Nat.le_refl _ | exact HO.out.size)
        have RB : Hid (Blk w4 (w.heap.size + 1) #[.int .i64 0, .int .i64 0, .int .i64 0, .int .i64 0, .int .i64 0, .int .i64 0, .int .i64 0] 79) := Blk.old RB.out hB
        have K33 : Hid (w4.cell? ⟨w.heap.size, 0, none⟩ = some (.int .i64 m.A.n)) := kold hB (K19.out)
        have K34 : Hid (w4.cell? ⟨w.heap.size, 1, none⟩ = some (.int .i64 m.A.d)) := kold hB (K20.out)
        have K35 : Hid (w4.cell? ⟨w.heap.size, 2, none⟩ = some (.int .i64 m.B.n)) := kold hB (K21.out)
        have K36 : Hid (w4.cell? ⟨w.heap.size, 3, none⟩ = some (.int .i64 m.B.d)) := kold hB (K22.out)
        have K37 : Hid (w4.cell? ⟨w.heap.size, 4, none⟩ = some (.int .i64 m.C.n)) := kold hB (K23.out)
        have K38 : Hid (w4.cell? ⟨w.heap.size, 5, none⟩ = some (.int .i64 m.C.d)) := kold hB (K24.out)
        have K39 : Hid (w4.cell? ⟨w.heap.size, 6, none⟩ = some (.int .i64 m.D.n)) := kold hB (K25.out)
        have K40 : Hid (w4.cell? ⟨w.heap.size, 7, none⟩ = some (.int .i64 m.D.d)) := kold hB (K26.out)
        have K41 : Hid (w4.cell? ⟨b2, 0, none⟩ = some (.bool (divK mone m.C))) := kold hB (K27.out)
        have K42 : Hid (w4.cell? ⟨b2, 1, none⟩ = some (.int .i64 (divQ mone m.C).n)) := kold hB (K28.out)
        have K43 : Hid (w4.cell? ⟨b2, 2, none⟩ = some (.int .i64 (divQ mone m.C).d)) := kold hB (K29.out)
        have K44 : Hid (w4.cell? ⟨b3, 0, none⟩ = some (.bool (divK (nQ m.D) m.C))) := kold hB (K30.out)
        have K45 : Hid (w4.cell? ⟨b3, 1, none⟩ = some (.int .i64 (divQ (nQ m.D) m.C).n)) := kold hB (K31.out)
        have K46 : Hid (w4.cell? ⟨b3, 2, none⟩ = some (.int .i64 (divQ (nQ m.D) m.C).d)) := kold hB (K32.out)
        clear K19 K20 K21 K22 K23 K24 K25 K26 K27 K28 K29 K30 K31 K32
        have K47 : Hid (w4.cell? ⟨b4, 0, none⟩ = some (.bool (divK (nQ m.A) m.C))) := d0
        have K48 : Hid (w4.cell? ⟨b4, 1, none⟩ = some (.int .i64 (divQ (nQ m.A) m.C).n)) := d1
        have K49 : Hid (w4.cell? ⟨b4, 2, none⟩ = some (.int .i64 (divQ (nQ m.A) m.C).d)) := d2
        clear hB hk1 hk2 d0 d1 d2
        have hz2 : ¬ m.C.n = 0 := by simpa using hz
        have hfo : foC m = if foK m = true then 0 else 3 := by unfold foC; rw [if_pos h0, if_neg hz2]
        clear bA bD hz2 e1 e2 e3 e4 e5 e6
        cases h1 : divK mone m.C
        case false =>
          have hc : foC m = 3 := by rw [hfo]; unfold foK; rw [h1]; rfl
          have c8 := K41.out
          have c9 := K42.out
          have c10 := K43.out
          have c11 := K44.out
          have c12 := K45.out
          have c13 := K46.out
          have c14 := K47.out
          have c15 := K48.out
          have c16 := K49.out
          have r0 := RB.out.cell (j := 0) rfl
          have r1 := RB.out.cell (j := 1) rfl
          have r2 := RB.out.cell (j := 2) rfl
          have r3 := RB.out.cell (j := 3) rfl
          have r4 := RB.out.cell (j := 4) rfl
          have r5 := RB.out.cell (j := 5) rfl
          have r6 := RB.out.cell (j := 6) rfl
          have rf := RB.out.frozen
          repeat go_step
          refine bodyPost_ret (v := .agg #[.int .i64 3, .int .i64 0, .int .i64 0, .int .i64 0, .int .i64 0, .int .i64 0, .int .i64 0]) (by simp [results, Try.results44, go_sem, r0, r1, r2, r3, r4, r5, r6, World.cell?_alloc_lt, RB.out.lt] <;> (repeat' (first | rfl | apply And.intro))) rfl ⟨by rw [hc]; rfl, ?_⟩
          have h := HO.out
          have hlt := RB.out.lt
          have hsz := h.size
          go_grown
        case true =>
          cases h2 : divK (nQ m.D) m.C
          case false =>
            have hc : foC m = 3 := by rw [hfo]; unfold foK; rw [h1, h2]; rfl
            have c8 := K41.out
            have c9 := K42.out
            have c10 := K43.out
            have c11 := K44.out
            have c12 := K45.out
            have c13 := K46.out
            have c14 := K47.out
            have c15 := K48.out
            have c16 := K49.out
            have r0 := RB.out.cell (j := 0) rfl
            have r1 := RB.out.cell (j := 1) rfl
            have r2 := RB.out.cell (j := 2) rfl
            have r3 := RB.out.cell (j := 3) rfl
            have r4 := RB.out.cell (j := 4) rfl
            have r5 := RB.out.cell (j := 5) rfl
            have r6 := RB.out.cell (j := 6) rfl
            have rf := RB.out.frozen
            repeat go_step
            refine bodyPost_ret (v := .agg #[.int .i64 3, .int .i64 0, .int .i64 0, .int .i64 0, .int .i64 0, .int .i64 0, .int .i64 0]) (by simp [results, Try.results44, go_sem, r0, r1, r2, r3, r4, r5, r6, World.cell?_alloc_lt, RB.out.lt] <;> (repeat' (first | rfl | apply And.intro))) rfl ⟨by rw [hc]; rfl, ?_⟩
            have h := HO.out
            have hlt := RB.out.lt
            have hsz := h.size
            go_grown
          case true =>
            cases h3 : divK (nQ m.A) m.C
            case false =>
              have hc : foC m = 3 := by rw [hfo]; unfold foK; rw [h1, h2, h3]; rfl
              have c8 := K41.out
              have c9 := K42.out
              have c10 := K43.out
              have c11 := K44.out
              have c12 := K45.out
              have c13 := K46.out
              have c14 := K47.out
              have c15 := K48.out
              have c16 := K49.out
              have r0 := RB.out.cell (j := 0) rfl
              have r1 := RB.out.cell (j := 1) rfl
              have r2 := RB.out.cell (j := 2) rfl
              have r3 := RB.out.cell (j := 3) rfl
              have r4 := RB.out.cell (j := 4) rfl
              have r5 := RB.out.cell (j := 5) rfl
              have r6 := RB.out.cell (j := 6) rfl
              have rf := RB.out.frozen
              repeat go_step
              refine bodyPost_ret (v := .agg #[.int .i64 3, .int .i64 0, .int .i64 0, .int .i64 0, .int .i64 0, .int .i64 0, .int .i64 0]) (by simp [results, Try.results44, go_sem, r0, r1, r2, r3, r4, r5, r6, World.cell?_alloc_lt, RB.out.lt] <;> (repeat' (first | rfl | apply And.intro))) rfl ⟨by rw [hc]; rfl, ?_⟩
              have h := HO.out
              have hlt := RB.out.lt
              have hsz := h.size
              go_grown
            case true =>
              have hc : foC m = 0 := by rw [hfo]; unfold foK; rw [h1, h2, h3]; rfl
              have c8 := K41.out
              have c9 := K42.out
              have c10 := K43.out
              have c11 := K44.out
              have c12 := K45.out
              have c13 := K46.out
              have c14 := K47.out
              have c15 := K48.out
              have c16 := K49.out
              have r0 := RB.out.cell (j := 0) rfl
              have r1 := RB.out.cell (j := 1) rfl
              have r2 := RB.out.cell (j := 2) rfl
              have r3 := RB.out.cell (j := 3) rfl
              have r4 := RB.out.cell (j := 4) rfl
              have r5 := RB.out.cell (j := 5) rfl
              have r6 := RB.out.cell (j := 6) rfl
              have rf := RB.out.frozen
              repeat go_step
              refine bodyPost_ret (v := .agg #[.int .i64 0, .int .i64 (divQ mone m.C).n, .int .i64 (divQ mone m.C).d, .int .i64 (divQ (nQ m.D) m.C).n, .int .i64 (divQ (nQ m.D) m.C).d, .int .i64 (divQ (nQ m.A) m.C).n, .int .i64 (divQ (nQ m.A) m.C).d]) (by simp [results, Try.results44, go_sem, r0, r1, r2, r3, r4, r5, r6, World.cell?_alloc_lt, RB.out.lt] <;> (repeat' (first | rfl | apply And.intro))) rfl ⟨by rw [hc]; rfl, ?_⟩
              have h := HO.out
              have hlt := RB.out.lt
              have hsz := h.size
              go_grown
theorem sfoci (m : Mx) (w : World) : Calls Try.prog 44 #[.agg #[.int .i64 m.A.n, .int .i64 m.A.d, .int .i64 m.B.n, .int .i64 m.B.d, .int .i64 m.C.n, .int .i64 m.C.d, .int .i64 m.D.n, .int .i64 m.D.d]] w fun e w' => e = .returned (.agg #[.int .i64 (foC m), .int .i64 (sel (foC m) (divQ mone m.C)).n, .int .i64 (sel (foC m) (divQ mone m.C)).d, .int .i64 (sel (foC m) (divQ (nQ m.D) m.C)).n, .int .i64 (sel (foC m) (divQ (nQ m.D) m.C)).d, .int .i64 (sel (foC m) (divQ (nQ m.A) m.C)).n, .int .i64 (sel (foC m) (divQ (nQ m.A) m.C)).d]) ∧ Below w.heap.size w w' := by
  cases h : m.ok
  · rw [show foC m = 1 from by unfold foC; rw [h]; rfl]
    exact sfoci_0 m w h
  by_cases hz : m.C.n = 0
  · rw [show foC m = 4 from by unfold foC; rw [h, if_pos rfl, if_pos hz]]
    exact sfoci_1 m w h (by simpa using hz)
  · exact sfoci_2 m w h (by simpa using hz)
end Go.Proofs.Ytnikgmjjkdhjbaa
