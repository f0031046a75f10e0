/- Foci: the program's way. -/
import Derived.Test.YtnikgmjjkdhjbaaFo
namespace Go.Proofs.Ytnikgmjjkdhjbaa
open Go.RowKit
set_option linter.unusedVariables false
set_option linter.unusedSimpArgs false
theorem fo_flag (m : Mx) (h : m.ok = true) (hz : ¬ m.C.n = 0) : foC m = if (((false || !divK mone m.C) || !divK (nQ m.D) m.C) || !divK (nQ m.A) m.C) = true then 3 else 0 := by
  unfold foC foK
  rw [if_pos h, if_neg hz]
  cases divK mone m.C <;> cases divK (nQ m.D) m.C <;> cases divK (nQ m.A) m.C <;> rfl
theorem nil_den {x : Q} (h : x.ok = true) (hn : x.n = 0) : x.d = 1 := by
  obtain ⟨h1, _, _, _, hg⟩ := right_t h
  rw [hn] at hg
  simp at hg
  omega
theorem iint_mone (w : World) : Calls Try.prog 65 #[.int .i64 (-1)] w fun e w' => e = .returned (.agg #[.int .i64 mone.n, .int .i64 mone.d]) ∧ Below w.heap.size w w' := iint (-1) w
theorem iint_nil (w : World) : Calls Try.prog 65 #[.int .i64 0] w fun e w' => e = .returned (.agg #[.int .i64 nil.n, .int .i64 nil.d]) ∧ Below w.heap.size w w' := iint 0 w
set_option maxRecDepth 20000 in
set_option maxHeartbeats 1600000 in
theorem ifoci_0 (m : Mx) (w : World) (h0 : m.ok = false) : Calls Try.prog 45 #[.agg #[.int .i64 m.A.n, .int .i64 m.A.d, .int .i64 m.B.n, .int .i64 m.B.d, .int .i64 m.C.n, .int .i64 m.C.d, .int .i64 m.D.n, .int .i64 m.D.d]] w fun e w' => e = .returned (.agg #[.int .i64 1, .int .i64 0, .int .i64 0, .int .i64 0, .int .i64 0, .int .i64 0, .int .i64 0]) ∧ Below w.heap.size w w' := by
  have qm := mfault_ne m
  rw [h0] at qm
  go_enter Try.func45, Try.ntmps45
  go_wp2_with fail
  refine (imfault m _).mono ?_
  rintro e w1 ⟨rfl, hb⟩
  have HO : Hid (Below w.heap.size w w1) := by refine box_step ?_ hb (by simp <;> omega); go_grown
  have X0 : Blk w1 (w.heap.size) #[.int .i64 m.A.n, .int .i64 m.A.d, .int .i64 m.B.n, .int .i64 m.B.d, .int .i64 m.C.n, .int .i64 m.C.d, .int .i64 m.D.n, .int .i64 m.D.d] 27 := Blk.old ((Blk.alloc (Blk.new (by simp)) _)) hb
  have K0 : Hid (w1.cell? ⟨w.heap.size, 0, none⟩ = some (.int .i64 m.A.n)) := X0.cell rfl
  have K1 : Hid (w1.cell? ⟨w.heap.size, 1, none⟩ = some (.int .i64 m.A.d)) := X0.cell rfl
  have K2 : Hid (w1.cell? ⟨w.heap.size, 2, none⟩ = some (.int .i64 m.B.n)) := X0.cell rfl
  have K3 : Hid (w1.cell? ⟨w.heap.size, 3, none⟩ = some (.int .i64 m.B.d)) := X0.cell rfl
  have K4 : Hid (w1.cell? ⟨w.heap.size, 4, none⟩ = some (.int .i64 m.C.n)) := X0.cell rfl
  have K5 : Hid (w1.cell? ⟨w.heap.size, 5, none⟩ = some (.int .i64 m.C.d)) := X0.cell rfl
  have K6 : Hid (w1.cell? ⟨w.heap.size, 6, none⟩ = some (.int .i64 m.D.n)) := X0.cell rfl
  have K7 : Hid (w1.cell? ⟨w.heap.size, 7, none⟩ = some (.int .i64 m.D.d)) := X0.cell rfl
  clear X0
  have RB : Hid (Blk w1 (w.heap.size + 1) #[.int .i64 0, .int .i64 0, .int .i64 0, .int .i64 0, .int .i64 0, .int .i64 0, .int .i64 0] 79) := Blk.old (Blk.new (by simp)) hb
  clear hb
  have r0 := RB.out.cell (j := 0) rfl
  have r1 := RB.out.cell (j := 1) rfl
  have r2 := RB.out.cell (j := 2) rfl
  have r3 := RB.out.cell (j := 3) rfl
  have r4 := RB.out.cell (j := 4) rfl
  have r5 := RB.out.cell (j := 5) rfl
  have r6 := RB.out.cell (j := 6) rfl
  have rf := RB.out.frozen
  go_wp2
  refine bodyPost_ret (v := .agg #[.int .i64 1, .int .i64 0, .int .i64 0, .int .i64 0, .int .i64 0, .int .i64 0, .int .i64 0]) (by simp [results, Try.results45, go_sem, r0, r1, r2, r3, r4, r5, r6, World.cell?_alloc_lt, RB.out.lt] <;> (repeat' (first | rfl | apply And.intro))) rfl ⟨rfl, ?_⟩
  have h := HO.out
  have hlt := RB.out.lt
  have hsz := h.size
  go_grown
set_option maxRecDepth 20000 in
set_option maxHeartbeats 6400000 in
theorem ifoci_1 (m : Mx) (w : World) (h0 : m.ok = true) : Calls Try.prog 45 #[.agg #[.int .i64 m.A.n, .int .i64 m.A.d, .int .i64 m.B.n, .int .i64 m.B.d, .int .i64 m.C.n, .int .i64 m.C.d, .int .i64 m.D.n, .int .i64 m.D.d]] w fun e w' => e = .returned (.agg #[.int .i64 (foC m), .int .i64 (sel (foC m) (divQ mone m.C)).n, .int .i64 (sel (foC m) (divQ mone m.C)).d, .int .i64 (sel (foC m) (divQ (nQ m.D) m.C)).n, .int .i64 (sel (foC m) (divQ (nQ m.D) m.C)).d, .int .i64 (sel (foC m) (divQ (nQ m.A) m.C)).n, .int .i64 (sel (foC m) (divQ (nQ m.A) m.C)).d]) ∧ Below w.heap.size w w' := by
  have qm := mfault_ne m
  rw [h0] at qm
  obtain ⟨okA, okB, okC, okD⟩ := mxok h0
  have bA := ok_bd okA
  have bD := ok_bd okD
  have st := st25
  go_enter Try.func45, Try.ntmps45
  go_wp2_with fail
  refine (imfault m _).mono ?_
  rintro e w1 ⟨rfl, hb⟩
  have HO : Hid (Below w.heap.size w w1) := by refine box_step ?_ hb (by simp <;> omega); go_grown
  have X0 : Blk w1 (w.heap.size) #[.int .i64 m.A.n, .int .i64 m.A.d, .int .i64 m.B.n, .int .i64 m.B.d, .int .i64 m.C.n, .int .i64 m.C.d, .int .i64 m.D.n, .int .i64 m.D.d] 27 := Blk.old ((Blk.alloc (Blk.new (by simp)) _)) hb
  have K0 : Hid (w1.cell? ⟨w.heap.size, 0, none⟩ = some (.int .i64 m.A.n)) := X0.cell rfl
  have K1 : Hid (w1.cell? ⟨w.heap.size, 1, none⟩ = some (.int .i64 m.A.d)) := X0.cell rfl
  have K2 : Hid (w1.cell? ⟨w.heap.size, 2, none⟩ = some (.int .i64 m.B.n)) := X0.cell rfl
  have K3 : Hid (w1.cell? ⟨w.heap.size, 3, none⟩ = some (.int .i64 m.B.d)) := X0.cell rfl
  have K4 : Hid (w1.cell? ⟨w.heap.size, 4, none⟩ = some (.int .i64 m.C.n)) := X0.cell rfl
  have K5 : Hid (w1.cell? ⟨w.heap.size, 5, none⟩ = some (.int .i64 m.C.d)) := X0.cell rfl
  have K6 : Hid (w1.cell? ⟨w.heap.size, 6, none⟩ = some (.int .i64 m.D.n)) := X0.cell rfl
  have K7 : Hid (w1.cell? ⟨w.heap.size, 7, none⟩ = some (.int .i64 m.D.d)) := X0.cell rfl
  clear X0
  have RB : Hid (Blk w1 (w.heap.size + 1) #[.int .i64 0, .int .i64 0, .int .i64 0, .int .i64 0, .int .i64 0, .int .i64 0, .int .i64 0] 79) := Blk.old (Blk.new (by simp)) hb
  clear hb
  have k0 : ∀ W, Below w1.heap.size w1 W → W.cell? ⟨w.heap.size, 0, none⟩ = some (.int .i64 m.A.n) := fun _ h => kold h K0.out
  have k1 : ∀ W, Below w1.heap.size w1 W → W.cell? ⟨w.heap.size, 1, none⟩ = some (.int .i64 m.A.d) := fun _ h => kold h K1.out
  have k2 : ∀ W, Below w1.heap.size w1 W → W.cell? ⟨w.heap.size, 2, none⟩ = some (.int .i64 m.B.n) := fun _ h => kold h K2.out
  have k3 : ∀ W, Below w1.heap.size w1 W → W.cell? ⟨w.heap.size, 3, none⟩ = some (.int .i64 m.B.d) := fun _ h => kold h K3.out
  have k4 : ∀ W, Below w1.heap.size w1 W → W.cell? ⟨w.heap.size, 4, none⟩ = some (.int .i64 m.C.n) := fun _ h => kold h K4.out
  have k5 : ∀ W, Below w1.heap.size w1 W → W.cell? ⟨w.heap.size, 5, none⟩ = some (.int .i64 m.C.d) := fun _ h => kold h K5.out
  have k6 : ∀ W, Below w1.heap.size w1 W → W.cell? ⟨w.heap.size, 6, none⟩ = some (.int .i64 m.D.n) := fun _ h => kold h K6.out
  have k7 : ∀ W, Below w1.heap.size w1 W → W.cell? ⟨w.heap.size, 7, none⟩ = some (.int .i64 m.D.d) := fun _ h => kold h K7.out
  have hR0 : Below w1.heap.size w1 w1 := Below.refl _ _
  go_wp2_with fail
  go_cut [12] (fun c wx => c = .bool (m.C.n == 0) ∧ Below w1.heap.size w1 wx)
  case first =>
    cases hx : (m.C.n == 0)
    case false =>
      go_region_held3 (fun W => Below w1.heap.size w1 W) (go_grown) (first | (go_at_call 65; refine (iint _ _).mono ?_; rintro e wz ⟨rfl, hb1⟩; have hs1 := hb1.size; (try simp at hs1); have hR1 : Below w1.heap.size w1 wz := (by refine box_step ?_ hb1 (by go_size); go_grown)))
      all_goals
        go_wp2_with fail
        go_meet
        case rel =>
          refine ⟨by first | rfl | (rw [hx]), ?_⟩
          go_grown
    case true =>
      have hd : (m.C.d == 1) = true := by have h3 := nil_den okC (by simpa using hx); simpa using h3
      go_region_held3 (fun W => Below w1.heap.size w1 W) (go_grown) (first | (go_at_call 65; refine (iint _ _).mono ?_; rintro e wz ⟨rfl, hb1⟩; have hs1 := hb1.size; (try simp at hs1); have hR1 : Below w1.heap.size w1 wz := (by refine box_step ?_ hb1 (by go_size); go_grown)))
      all_goals
        go_wp2_with fail
        go_meet
        case rel =>
          refine ⟨by first | rfl | (rw [hx]), ?_⟩
          go_grown
  case rest =>
    obtain ⟨rfl, hB⟩ := hcut
    clear k0 k1 k2 k3 k4 k5 k6 k7 hR0
    obtain ⟨w2, hv⟩ : ∃ v, v = wc := ⟨_, rfl⟩
    subst hv
    have HO : Hid (Below w.heap.size w w2) := box_step HO.out hB (by first | exact Nat.le_refl _ | exact HO.out.size)
    have RB : Hid (Blk w2 (w.heap.size + 1) #[.int .i64 0, .int .i64 0, .int .i64 0, .int .i64 0, .int .i64 0, .int .i64 0, .int .i64 0] 79) := Blk.old RB.out hB
    have K8 : Hid (w2.cell? ⟨w.heap.size, 0, none⟩ = some (.int .i64 m.A.n)) := kold hB (K0.out)
    have K9 : Hid (w2.cell? ⟨w.heap.size, 1, none⟩ = some (.int .i64 m.A.d)) := kold hB (K1.out)
    have K10 : Hid (w2.cell? ⟨w.heap.size, 2, none⟩ = some (.int .i64 m.B.n)) := kold hB (K2.out)
    have K11 : Hid (w2.cell? ⟨w.heap.size, 3, none⟩ = some (.int .i64 m.B.d)) := kold hB (K3.out)
    have K12 : Hid (w2.cell? ⟨w.heap.size, 4, none⟩ = some (.int .i64 m.C.n)) := kold hB (K4.out)
    have K13 : Hid (w2.cell? ⟨w.heap.size, 5, none⟩ = some (.int .i64 m.C.d)) := kold hB (K5.out)
    have K14 : Hid (w2.cell? ⟨w.heap.size, 6, none⟩ = some (.int .i64 m.D.n)) := kold hB (K6.out)
    have K15 : Hid (w2.cell? ⟨w.heap.size, 7, none⟩ = some (.int .i64 m.D.d)) := kold hB (K7.out)
    clear K0 K1 K2 K3 K4 K5 K6 K7
    clear hB
    cases hz : (m.C.n == 0)
    case true =>
      have hc : foC m = 4 := by unfold foC; rw [if_pos h0, if_pos (by simpa using hz)]
      clear okA okB okC okD bA bD st
      have r0 := RB.out.cell (j := 0) rfl
      have r1 := RB.out.cell (j := 1) rfl
      have r2 := RB.out.cell (j := 2) rfl
      have r3 := RB.out.cell (j := 3) rfl
      have r4 := RB.out.cell (j := 4) rfl
      have r5 := RB.out.cell (j := 5) rfl
      have r6 := RB.out.cell (j := 6) rfl
      have rf := RB.out.frozen
      repeat go_step
      refine bodyPost_ret (v := .agg #[.int .i64 4, .int .i64 0, .int .i64 0, .int .i64 0, .int .i64 0, .int .i64 0, .int .i64 0]) (by simp [results, Try.results45, go_sem, r0, r1, r2, r3, r4, r5, r6, World.cell?_alloc_lt, RB.out.lt] <;> (repeat' (first | rfl | apply And.intro))) rfl ⟨by rw [hc]; rfl, ?_⟩
      have h := HO.out
      have hlt := RB.out.lt
      have hsz := h.size
      go_grown
    case false =>
      go_upto_region 6 with fail
      obtain ⟨r, hr⟩ : ∃ r, r = w2.heap.size := ⟨_, rfl⟩
      obtain ⟨w3, hY⟩ : ∃ Y, Y = w2.alloc (.cells #[.bool false] 101) := ⟨_, rfl⟩
      rw [← hY, ← hr]
      have FL : Hid (flag r false w3) := by rw [hY, hr]; exact Blk.new rfl
      have hrl : r < w3.heap.size := FL.out.lt
      have hrw : w.heap.size ≤ r := by rw [hr]; exact HO.out.size
      have HO : Hid (Below w.heap.size w w3) := by rw [hY]; exact HO.out.alloc HO.out.size _
      have ne0 : Hid (w.heap.size ≠ r) := by have hh : w.heap.size < w2.heap.size := World.block_lt_of_cell? _ _ K8.out; show w.heap.size ≠ r; omega
      have neR : Hid (w.heap.size + 1 ≠ r) := by have := RB.out.lt; show w.heap.size + 1 ≠ r; omega
      have RB : Hid (Blk w3 (w.heap.size + 1) #[.int .i64 0, .int .i64 0, .int .i64 0, .int .i64 0, .int .i64 0, .int .i64 0, .int .i64 0] 79) := by rw [hY]; exact Blk.alloc RB.out _
      have K16 : Hid (w3.cell? ⟨w.heap.size, 0, none⟩ = some (.int .i64 m.A.n)) := by rw [hY]; exact cell_old K8.out
      have K17 : Hid (w3.cell? ⟨w.heap.size, 1, none⟩ = some (.int .i64 m.A.d)) := by rw [hY]; exact cell_old K9.out
      have K18 : Hid (w3.cell? ⟨w.heap.size, 2, none⟩ = some (.int .i64 m.B.n)) := by rw [hY]; exact cell_old K10.out
      have K19 : Hid (w3.cell? ⟨w.heap.size, 3, none⟩ = some (.int .i64 m.B.d)) := by rw [hY]; exact cell_old K11.out
      have K20 : Hid (w3.cell? ⟨w.heap.size, 4, none⟩ = some (.int .i64 m.C.n)) := by rw [hY]; exact cell_old K12.out
      have K21 : Hid (w3.cell? ⟨w.heap.size, 5, none⟩ = some (.int .i64 m.C.d)) := by rw [hY]; exact cell_old K13.out
      have K22 : Hid (w3.cell? ⟨w.heap.size, 6, none⟩ = some (.int .i64 m.D.n)) := by rw [hY]; exact cell_old K14.out
      have K23 : Hid (w3.cell? ⟨w.heap.size, 7, none⟩ = some (.int .i64 m.D.d)) := by rw [hY]; exact cell_old K15.out
      clear K8 K9 K10 K11 K12 K13 K14 K15 hY hr
      have k0 : ∀ W, But r w3.heap.size w3 W → W.cell? ⟨w.heap.size, 0, none⟩ = some (.int .i64 m.A.n) := fun _ h => kbut h K16.out ne0.out
      have k1 : ∀ W, But r w3.heap.size w3 W → W.cell? ⟨w.heap.size, 1, none⟩ = some (.int .i64 m.A.d) := fun _ h => kbut h K17.out ne0.out
      have k2 : ∀ W, But r w3.heap.size w3 W → W.cell? ⟨w.heap.size, 2, none⟩ = some (.int .i64 m.B.n) := fun _ h => kbut h K18.out ne0.out
      have k3 : ∀ W, But r w3.heap.size w3 W → W.cell? ⟨w.heap.size, 3, none⟩ = some (.int .i64 m.B.d) := fun _ h => kbut h K19.out ne0.out
      have k4 : ∀ W, But r w3.heap.size w3 W → W.cell? ⟨w.heap.size, 4, none⟩ = some (.int .i64 m.C.n) := fun _ h => kbut h K20.out ne0.out
      have k5 : ∀ W, But r w3.heap.size w3 W → W.cell? ⟨w.heap.size, 5, none⟩ = some (.int .i64 m.C.d) := fun _ h => kbut h K21.out ne0.out
      have k6 : ∀ W, But r w3.heap.size w3 W → W.cell? ⟨w.heap.size, 6, none⟩ = some (.int .i64 m.D.n) := fun _ h => kbut h K22.out ne0.out
      have k7 : ∀ W, But r w3.heap.size w3 W → W.cell? ⟨w.heap.size, 7, none⟩ = some (.int .i64 m.D.d) := fun _ h => kbut h K23.out ne0.out
      have hR0 : But r w3.heap.size w3 w3 := But.refl _ _ _
      have F0 : flag r (false) w3 := FL.out
      have hn0 : w3.heap.size ≠ r := by omega
      go_wp2_with fail
      go_cut [4] (fun p wx => ∃ k : Nat, p = .pointer (some ⟨k, 0, none⟩) ∧ w3.heap.size ≤ k ∧ k < wx.heap.size ∧ But r w3.heap.size w3 wx ∧ flag r (((false || !divK mone m.C) || !divK (nQ m.D) m.C) || !divK (nQ m.A) m.C) wx ∧ wx.cell? ⟨k, 0, none⟩ = some (.int .i64 0) ∧ wx.cell? ⟨k, 1, none⟩ = some (.int .i64 (divQ mone m.C).n) ∧ wx.cell? ⟨k, 2, none⟩ = some (.int .i64 (divQ mone m.C).d) ∧ wx.cell? ⟨k, 3, none⟩ = some (.int .i64 (divQ (nQ m.D) m.C).n) ∧ wx.cell? ⟨k, 4, none⟩ = some (.int .i64 (divQ (nQ m.D) m.C).d) ∧ wx.cell? ⟨k, 5, none⟩ = some (.int .i64 (divQ (nQ m.A) m.C).n) ∧ wx.cell? ⟨k, 6, none⟩ = some (.int .i64 (divQ (nQ m.A) m.C).d))
      case first =>
        go_region_held3 (fun W => But r w3.heap.size w3 W) ((repeat' (first | (with_reducible exact But.refl _ _ _) | (with_reducible assumption) | (with_reducible refine But.setFlag ?_ _) | (with_reducible refine But.alloc ?_ ?_ _) | (with_reducible refine But.drew ?_) | (with_reducible refine But.setCell ?_ ?_ _) | go_size))) (first | (go_at_call 65; refine Calls.mono (iint_mone _) ?_; rintro e wz ⟨rfl, hb2⟩; have F1 := flag.below (r := r) (by (repeat' (first | (with_reducible assumption) | (with_reducible apply flag.set) | (with_reducible apply flag.alloc) | (with_reducible apply flag.drew) | (with_reducible apply flag.setOther) | omega | (simp; omega) | (simp; done)))) hb2 (by first | omega | (simp; omega) | (simp; done)); have hb1 := But.of_below (r := r) hb2; clear hb2; have hs1 := hb1.size; (try simp at hs1); have hR1 : But r w3.heap.size w3 wz := (by refine But.call ?_ hb1 (by go_size); (repeat' (first | (with_reducible exact But.refl _ _ _) | (with_reducible assumption) | (with_reducible refine But.setFlag ?_ _) | (with_reducible refine But.alloc ?_ ?_ _) | (with_reducible refine But.drew ?_) | (with_reducible refine But.setCell ?_ ?_ _) | go_size))); have hn1 : wz.heap.size ≠ r := (by have := hR1.size; omega); (first | (have hZ := But.trans hZ (But.mono hb1 hZ.size)) | (have hZ := hb1)); obtain ⟨ho1, hf1, hz1⟩ := oldsB hZ) | (go_at_call 87; refine Calls.mono (ineg _ _ (by first | exact bD.1 | exact bA.1) (by first | exact bD.2 | exact bA.2)) ?_; rintro e wz ⟨rfl, hb2⟩; have F1 := flag.below (r := r) (by (repeat' (first | (with_reducible assumption) | (with_reducible apply flag.set) | (with_reducible apply flag.alloc) | (with_reducible apply flag.drew) | (with_reducible apply flag.setOther) | omega | (simp; omega) | (simp; done)))) hb2 (by first | omega | (simp; omega) | (simp; done)); have hb1 := But.of_below (r := r) hb2; clear hb2; have hs1 := hb1.size; (try simp at hs1); have hR1 : But r w3.heap.size w3 wz := (by refine But.call ?_ hb1 (by go_size); (repeat' (first | (with_reducible exact But.refl _ _ _) | (with_reducible assumption) | (with_reducible refine But.setFlag ?_ _) | (with_reducible refine But.alloc ?_ ?_ _) | (with_reducible refine But.drew ?_) | (with_reducible refine But.setCell ?_ ?_ _) | go_size))); have hn1 : wz.heap.size ≠ r := (by have := hR1.size; omega); (first | (have hZ := But.trans hZ (But.mono hb1 hZ.size)) | (have hZ := hb1)); obtain ⟨ho1, hf1, hz1⟩ := oldsB hZ) | (go_at_call 67; refine Calls.mono (rquot _ _ r _ _ (by (repeat' (first | (with_reducible assumption) | (with_reducible apply flag.set) | (with_reducible apply flag.alloc) | (with_reducible apply flag.drew) | (with_reducible apply flag.setOther) | omega | (simp; omega) | (simp; done))))) ?_; rintro e wz ⟨rfl, hb1, F1⟩; have hs1 := hb1.size; (try simp at hs1); have hR1 : But r w3.heap.size w3 wz := (by refine But.call ?_ hb1 (by go_size); (repeat' (first | (with_reducible exact But.refl _ _ _) | (with_reducible assumption) | (with_reducible refine But.setFlag ?_ _) | (with_reducible refine But.alloc ?_ ?_ _) | (with_reducible refine But.drew ?_) | (with_reducible refine But.setCell ?_ ?_ _) | go_size))); have hn1 : wz.heap.size ≠ r := (by have := hR1.size; omega); (first | (have hZ := But.trans hZ (But.mono hb1 hZ.size)) | (have hZ := hb1)); obtain ⟨ho1, hf1, hz1⟩ := oldsB hZ))
        all_goals
          go_wp2_with fail
          go_meet
          case rel =>
            refine ⟨_, rfl, ?_, ?_, ?_, ?_, ?_, ?_, ?_, ?_, ?_, ?_, ?_⟩
            · omega
            · simp [World.setCell] <;> omega
            · (repeat' (first | (with_reducible exact But.refl _ _ _) | (with_reducible assumption) | (with_reducible refine But.setFlag ?_ _) | (with_reducible refine But.alloc ?_ ?_ _) | (with_reducible refine But.drew ?_) | (with_reducible refine But.setCell ?_ ?_ _) | go_size))
            · (repeat' (first | (with_reducible assumption) | (with_reducible apply flag.set) | (with_reducible apply flag.alloc) | (with_reducible apply flag.drew) | (with_reducible apply flag.setOther) | omega | (simp; omega) | (simp; done)))
            · go_simp
            · go_simp
            · go_simp
            · go_simp
            · go_simp
            · go_simp
            · go_simp
      case rest =>
        obtain ⟨b4, rfl, hk1, hk2, hB, hF, d0, d1, d2, d3, d4, d5, d6⟩ := hcut
        clear k0 k1 k2 k3 k4 k5 k6 k7 hR0 F0 hn0
        obtain ⟨w4, hv⟩ : ∃ v, v = wc := ⟨_, rfl⟩
        subst hv
        have HO : Hid (Below w.heap.size w w4) := HO.out.trans ((hB.mono HO.out.size).below hrw)
        have RB : Hid (Blk w4 (w.heap.size + 1) #[.int .i64 0, .int .i64 0, .int .i64 0, .int .i64 0, .int .i64 0, .int .i64 0, .int .i64 0] 79) := Blk.but RB.out hB neR.out
        have FL : Hid (flag r (((false || !divK mone m.C) || !divK (nQ m.D) m.C) || !divK (nQ m.A) m.C) w4) := hF
        have nb4 : Hid (b4 ≠ r) := by show b4 ≠ r; omega
        have hrl : r < w4.heap.size := FL.out.lt
        have K24 : Hid (w4.cell? ⟨w.heap.size, 0, none⟩ = some (.int .i64 m.A.n)) := kbut hB K16.out ne0.out
        have K25 : Hid (w4.cell? ⟨w.heap.size, 1, none⟩ = some (.int .i64 m.A.d)) := kbut hB K17.out ne0.out
        have K26 : Hid (w4.cell? ⟨w.heap.size, 2, none⟩ = some (.int .i64 m.B.n)) := kbut hB K18.out ne0.out
        have K27 : Hid (w4.cell? ⟨w.heap.size, 3, none⟩ = some (.int .i64 m.B.d)) := kbut hB K19.out ne0.out
        have K28 : Hid (w4.cell? ⟨w.heap.size, 4, none⟩ = some (.int .i64 m.C.n)) := kbut hB K20.out ne0.out
        have K29 : Hid (w4.cell? ⟨w.heap.size, 5, none⟩ = some (.int .i64 m.C.d)) := kbut hB K21.out ne0.out
        have K30 : Hid (w4.cell? ⟨w.heap.size, 6, none⟩ = some (.int .i64 m.D.n)) := kbut hB K22.out ne0.out
        have K31 : Hid (w4.cell? ⟨w.heap.size, 7, none⟩ = some (.int .i64 m.D.d)) := kbut hB K23.out ne0.out
        clear K16 K17 K18 K19 K20 K21 K22 K23
        have K32 : Hid (w4.cell? ⟨b4, 0, none⟩ = some (.int .i64 0)) := d0
        have K33 : Hid (w4.cell? ⟨b4, 1, none⟩ = some (.int .i64 (divQ mone m.C).n)) := d1
        have K34 : Hid (w4.cell? ⟨b4, 2, none⟩ = some (.int .i64 (divQ mone m.C).d)) := d2
        have K35 : Hid (w4.cell? ⟨b4, 3, none⟩ = some (.int .i64 (divQ (nQ m.D) m.C).n)) := d3
        have K36 : Hid (w4.cell? ⟨b4, 4, none⟩ = some (.int .i64 (divQ (nQ m.D) m.C).d)) := d4
        have K37 : Hid (w4.cell? ⟨b4, 5, none⟩ = some (.int .i64 (divQ (nQ m.A) m.C).n)) := d5
        have K38 : Hid (w4.cell? ⟨b4, 6, none⟩ = some (.int .i64 (divQ (nQ m.A) m.C).d)) := d6
        clear hB hF hk1 hk2 d0 d1 d2 d3 d4 d5 d6
        have hF := FL.out.cell
        have hj := fo_flag m h0 (by simpa using hz)
        clear okA okB okC okD bA bD st
        cases hk : (((false || !divK mone m.C) || !divK (nQ m.D) m.C) || !divK (nQ m.A) m.C)
        case true =>
          have hc : foC m = 3 := hj.trans (if_pos hk)
          rw [hk] at hF
          clear hj hk
          have r0 := RB.out.cell (j := 0) rfl
          have r1 := RB.out.cell (j := 1) rfl
          have r2 := RB.out.cell (j := 2) rfl
          have r3 := RB.out.cell (j := 3) rfl
          have r4 := RB.out.cell (j := 4) rfl
          have r5 := RB.out.cell (j := 5) rfl
          have r6 := RB.out.cell (j := 6) rfl
          have rf := RB.out.frozen
          repeat go_step
          refine bodyPost_ret (v := .agg #[.int .i64 3, .int .i64 0, .int .i64 0, .int .i64 0, .int .i64 0, .int .i64 0, .int .i64 0]) (by simp [results, Try.results45, go_sem, r0, r1, r2, r3, r4, r5, r6, World.cell?_alloc_lt, RB.out.lt] <;> (repeat' (first | rfl | apply And.intro))) rfl ⟨by rw [hc]; rfl, ?_⟩
          have h := HO.out
          have hlt := RB.out.lt
          have hsz := h.size
          go_grown
        case false =>
          have hc : foC m = 0 := hj.trans (if_neg (fun h => Bool.noConfusion (hk.symm.trans h)))
          rw [hk] at hF
          clear hj hk
          have c8 := K32.out
          have c9 := K33.out
          have c10 := K34.out
          have c11 := K35.out
          have c12 := K36.out
          have c13 := K37.out
          have c14 := K38.out
          have r0 := RB.out.cell (j := 0) rfl
          have r1 := RB.out.cell (j := 1) rfl
          have r2 := RB.out.cell (j := 2) rfl
          have r3 := RB.out.cell (j := 3) rfl
          have r4 := RB.out.cell (j := 4) rfl
          have r5 := RB.out.cell (j := 5) rfl
          have r6 := RB.out.cell (j := 6) rfl
          have rf := RB.out.frozen
          repeat go_step
          refine bodyPost_ret (v := .agg #[.int .i64 0, .int .i64 (divQ mone m.C).n, .int .i64 (divQ mone m.C).d, .int .i64 (divQ (nQ m.D) m.C).n, .int .i64 (divQ (nQ m.D) m.C).d, .int .i64 (divQ (nQ m.A) m.C).n, .int .i64 (divQ (nQ m.A) m.C).d]) (by simp [results, Try.results45, go_sem, r0, r1, r2, r3, r4, r5, r6, World.cell?_alloc_lt, RB.out.lt] <;> (repeat' (first | rfl | apply And.intro))) rfl ⟨by rw [hc]; rfl, ?_⟩
          have h := HO.out
          have hlt := RB.out.lt
          have hsz := h.size
          go_grown
theorem ifoci (m : Mx) (w : World) : Calls Try.prog 45 #[.agg #[.int .i64 m.A.n, .int .i64 m.A.d, .int .i64 m.B.n, .int .i64 m.B.d, .int .i64 m.C.n, .int .i64 m.C.d, .int .i64 m.D.n, .int .i64 m.D.d]] w fun e w' => e = .returned (.agg #[.int .i64 (foC m), .int .i64 (sel (foC m) (divQ mone m.C)).n, .int .i64 (sel (foC m) (divQ mone m.C)).d, .int .i64 (sel (foC m) (divQ (nQ m.D) m.C)).n, .int .i64 (sel (foC m) (divQ (nQ m.D) m.C)).d, .int .i64 (sel (foC m) (divQ (nQ m.A) m.C)).n, .int .i64 (sel (foC m) (divQ (nQ m.A) m.C)).d]) ∧ Below w.heap.size w w' := by
  cases h : m.ok
  · rw [show foC m = 1 from by unfold foC; rw [h]; rfl]
    exact ifoci_0 m w h
  · exact ifoci_1 m w h
end Go.Proofs.Ytnikgmjjkdhjbaa
