/- Cavities: the specification, where something cannot be reckoned. -/
import Derived.Test.YtkkajcdjkfbcgaaCc
import Derived.Handy
namespace Go.Proofs.Ytkkajcdjkfbcgaa
open Go.RowKit
set_option linter.unusedVariables false
set_option linter.unusedSimpArgs false
set_option maxRecDepth 20000 in
set_option maxHeartbeats 3200000 in
theorem scv_A (L A B a b m d f : Q) (ks kh : Bool) (cm : Int) (w : World) (kb : Bool) (SC : Hid (∀ W, Calls Try.prog 60 #[.agg #[.int .i64 L.n, .int .i64 L.d], .agg #[.int .i64 A.n, .int .i64 A.d], .agg #[.int .i64 B.n, .int .i64 B.d]] W fun e w' => e = .returned (.bool true) ∧ Below W.heap.size W w')) (SA : Hid (∀ W, Calls Try.prog 61 #[.agg #[.int .i64 L.n, .int .i64 L.d], .agg #[.int .i64 A.n, .int .i64 A.d]] W fun e w' => e = .returned (.agg #[.bool false, .int .i64 a.n, .int .i64 a.d]) ∧ Below W.heap.size W w')) (SB : Hid (∀ W, Calls Try.prog 61 #[.agg #[.int .i64 L.n, .int .i64 L.d], .agg #[.int .i64 B.n, .int .i64 B.d]] W fun e w' => e = .returned (.agg #[.bool kb, .int .i64 b.n, .int .i64 b.d]) ∧ Below W.heap.size W w')) : Calls Try.prog 19 #[.agg #[.int .i64 L.n, .int .i64 L.d], .agg #[.int .i64 A.n, .int .i64 A.d], .agg #[.int .i64 B.n, .int .i64 B.d]] w fun e w' => e = .returned (.agg #[.int .i64 3, .int .i64 0, .int .i64 0, .int .i64 0, .int .i64 0, .int .i64 0, .int .i64 0, .bool false]) ∧ Below w.heap.size w w' := by
  go_enter Try.func19, Try.ntmps19
  go_wp2_with fail
  refine (SC.out _).mono ?_
  rintro e w1 ⟨rfl, hb⟩
  have HO : Hid (Below w.heap.size w w1) := by refine box_step ?_ hb (by simp <;> omega); go_grown
  have X0 : Blk w1 (w.heap.size) #[.int .i64 L.n, .int .i64 L.d] 32 := Blk.old ((Blk.alloc (Blk.alloc (Blk.alloc (Blk.new (by simp)) _) _) _)) hb
  have K0 : Hid (w1.cell? ⟨w.heap.size, 0, none⟩ = some (.int .i64 L.n)) := X0.cell rfl
  have K1 : Hid (w1.cell? ⟨w.heap.size, 1, none⟩ = some (.int .i64 L.d)) := X0.cell rfl
  clear X0
  have X1 : Blk w1 (w.heap.size + 1) #[.int .i64 A.n, .int .i64 A.d] 32 := Blk.old ((Blk.alloc (Blk.alloc (Blk.new (by simp)) _) _)) hb
  have K2 : Hid (w1.cell? ⟨w.heap.size + 1, 0, none⟩ = some (.int .i64 A.n)) := X1.cell rfl
  have K3 : Hid (w1.cell? ⟨w.heap.size + 1, 1, none⟩ = some (.int .i64 A.d)) := X1.cell rfl
  clear X1
  have X2 : Blk w1 (w.heap.size + 1 + 1) #[.int .i64 B.n, .int .i64 B.d] 32 := Blk.old ((Blk.alloc (Blk.new (by simp)) _)) hb
  have K4 : Hid (w1.cell? ⟨w.heap.size + 1 + 1, 0, none⟩ = some (.int .i64 B.n)) := X2.cell rfl
  have K5 : Hid (w1.cell? ⟨w.heap.size + 1 + 1, 1, none⟩ = some (.int .i64 B.d)) := X2.cell rfl
  clear X2
  have RB : Hid (Blk w1 (w.heap.size + 1 + 1 + 1) #[.int .i64 0, .int .i64 0, .int .i64 0, .int .i64 0, .int .i64 0, .int .i64 0, .int .i64 0, .bool false] 36) := Blk.old (Blk.new (by simp)) hb
  clear hb
  go_upto_region 3 with fail
  go_cut [7] (fun p wx => ∃ k : Nat, p = .pointer (some ⟨k, 0, none⟩) ∧ w1.heap.size ≤ k ∧ k < wx.heap.size ∧ Below w1.heap.size w1 wx ∧ wx.cell? ⟨k, 0, none⟩ = some (.bool false) ∧ wx.cell? ⟨k, 1, none⟩ = some (.int .i64 a.n) ∧ wx.cell? ⟨k, 2, none⟩ = some (.int .i64 a.d))
  case first =>
    have c0 := K0.out
    have c1 := K1.out
    have c2 := K2.out
    have c3 := K3.out
    go_wp2_with fail
    refine (SA.out _).mono ?_
    rintro e w1 ⟨rfl, hb⟩
    have hs := hb.size
    clear c0 c1 c2 c3
    go_wp2
    go_meet
    case rel =>
      refine ⟨_, rfl, ?_, ?_, ?_, ?_, ?_, ?_⟩
      · first | exact hs | omega
      · simp
      · go_grown
      · go_simp
      · go_simp
      · go_simp
  case rest =>
    obtain ⟨b2, rfl, hk1, hk2, hB, d0, d1, d2⟩ := hcut
    obtain ⟨w2, hv⟩ : ∃ v, v = wc := ⟨_, rfl⟩
    subst hv
    have HO : Hid (Below w.heap.size w w2) := box_step HO.out hB (by first | exact Nat.le_refl _ | exact HO.out.size)
    have RB : Hid (Blk w2 (w.heap.size + 1 + 1 + 1) #[.int .i64 0, .int .i64 0, .int .i64 0, .int .i64 0, .int .i64 0, .int .i64 0, .int .i64 0, .bool false] 36) := Blk.old RB.out hB
    have K6 : Hid (w2.cell? ⟨w.heap.size, 0, none⟩ = some (.int .i64 L.n)) := kold hB (K0.out)
    have K7 : Hid (w2.cell? ⟨w.heap.size, 1, none⟩ = some (.int .i64 L.d)) := kold hB (K1.out)
    have K8 : Hid (w2.cell? ⟨w.heap.size + 1, 0, none⟩ = some (.int .i64 A.n)) := kold hB (K2.out)
    have K9 : Hid (w2.cell? ⟨w.heap.size + 1, 1, none⟩ = some (.int .i64 A.d)) := kold hB (K3.out)
    have K10 : Hid (w2.cell? ⟨w.heap.size + 1 + 1, 0, none⟩ = some (.int .i64 B.n)) := kold hB (K4.out)
    have K11 : Hid (w2.cell? ⟨w.heap.size + 1 + 1, 1, none⟩ = some (.int .i64 B.d)) := kold hB (K5.out)
    clear K0 K1 K2 K3 K4 K5
    have K12 : Hid (w2.cell? ⟨b2, 0, none⟩ = some (.bool false)) := d0
    have K13 : Hid (w2.cell? ⟨b2, 1, none⟩ = some (.int .i64 a.n)) := d1
    have K14 : Hid (w2.cell? ⟨b2, 2, none⟩ = some (.int .i64 a.d)) := d2
    clear hB hk1 hk2 d0 d1 d2
    go_upto_region 4 with fail
    go_cut [8] (fun p wx => ∃ k : Nat, p = .pointer (some ⟨k, 0, none⟩) ∧ w2.heap.size ≤ k ∧ k < wx.heap.size ∧ Below w2.heap.size w2 wx ∧ wx.cell? ⟨k, 0, none⟩ = some (.bool kb) ∧ wx.cell? ⟨k, 1, none⟩ = some (.int .i64 b.n) ∧ wx.cell? ⟨k, 2, none⟩ = some (.int .i64 b.d))
    case first =>
      have c0 := K6.out
      have c1 := K7.out
      have c4 := K10.out
      have c5 := K11.out
      go_wp2_with fail
      refine (SB.out _).mono ?_
      rintro e w1 ⟨rfl, hb⟩
      have hs := hb.size
      clear c0 c1 c4 c5
      go_wp2
      go_meet
      case rel =>
        refine ⟨_, rfl, ?_, ?_, ?_, ?_, ?_, ?_⟩
        · first | exact hs | omega
        · simp
        · go_grown
        · go_simp
        · go_simp
        · go_simp
    case rest =>
      obtain ⟨b3, rfl, hk1, hk2, hB, d0, d1, d2⟩ := hcut
      obtain ⟨w3, hv⟩ : ∃ v, v = wc := ⟨_, rfl⟩
      subst hv
      have HO : Hid (Below w.heap.size w w3) := box_step HO.out hB (by first | exact Nat.le_refl _ | exact HO.out.size)
      have RB : Hid (Blk w3 (w.heap.size + 1 + 1 + 1) #[.int .i64 0, .int .i64 0, .int .i64 0, .int .i64 0, .int .i64 0, .int .i64 0, .int .i64 0, .bool false] 36) := Blk.old RB.out hB
      have K15 : Hid (w3.cell? ⟨w.heap.size, 0, none⟩ = some (.int .i64 L.n)) := kold hB (K6.out)
      have K16 : Hid (w3.cell? ⟨w.heap.size, 1, none⟩ = some (.int .i64 L.d)) := kold hB (K7.out)
      have K17 : Hid (w3.cell? ⟨w.heap.size + 1, 0, none⟩ = some (.int .i64 A.n)) := kold hB (K8.out)
      have K18 : Hid (w3.cell? ⟨w.heap.size + 1, 1, none⟩ = some (.int .i64 A.d)) := kold hB (K9.out)
      have K19 : Hid (w3.cell? ⟨w.heap.size + 1 + 1, 0, none⟩ = some (.int .i64 B.n)) := kold hB (K10.out)
      have K20 : Hid (w3.cell? ⟨w.heap.size + 1 + 1, 1, none⟩ = some (.int .i64 B.d)) := kold hB (K11.out)
      have K21 : Hid (w3.cell? ⟨b2, 0, none⟩ = some (.bool false)) := kold hB (K12.out)
      have K22 : Hid (w3.cell? ⟨b2, 1, none⟩ = some (.int .i64 a.n)) := kold hB (K13.out)
      have K23 : Hid (w3.cell? ⟨b2, 2, none⟩ = some (.int .i64 a.d)) := kold hB (K14.out)
      clear K6 K7 K8 K9 K10 K11 K12 K13 K14
      have K24 : Hid (w3.cell? ⟨b3, 0, none⟩ = some (.bool kb)) := d0
      have K25 : Hid (w3.cell? ⟨b3, 1, none⟩ = some (.int .i64 b.n)) := d1
      have K26 : Hid (w3.cell? ⟨b3, 2, none⟩ = some (.int .i64 b.d)) := d2
      clear hB hk1 hk2 d0 d1 d2
      have c6 := K21.out
      have c7 := K22.out
      have c8 := K23.out
      have c9 := K24.out
      have c10 := K25.out
      have c11 := K26.out
      have r0 := RB.out.cell (j := 0) rfl
      have r1 := RB.out.cell (j := 1) rfl
      have r2 := RB.out.cell (j := 2) rfl
      have r3 := RB.out.cell (j := 3) rfl
      have r4 := RB.out.cell (j := 4) rfl
      have r5 := RB.out.cell (j := 5) rfl
      have r6 := RB.out.cell (j := 6) rfl
      have r7 := RB.out.cell (j := 7) rfl
      have rf := RB.out.frozen
      go_wp2
      refine bodyPost_ret (v := .agg #[.int .i64 3, .int .i64 0, .int .i64 0, .int .i64 0, .int .i64 0, .int .i64 0, .int .i64 0, .bool false]) (by simp [results, Try.results19, go_sem, r0, r1, r2, r3, r4, r5, r6, r7, World.cell?_alloc_lt, RB.out.lt] <;> (repeat' (first | rfl | apply And.intro))) rfl ⟨rfl, ?_⟩
      have h := HO.out
      have hlt := RB.out.lt
      have hsz := h.size
      go_grown
set_option maxRecDepth 20000 in
set_option maxHeartbeats 3200000 in
theorem scv_B (L A B a b m d f : Q) (ks kh : Bool) (cm : Int) (w : World) (SC : Hid (∀ W, Calls Try.prog 60 #[.agg #[.int .i64 L.n, .int .i64 L.d], .agg #[.int .i64 A.n, .int .i64 A.d], .agg #[.int .i64 B.n, .int .i64 B.d]] W fun e w' => e = .returned (.bool true) ∧ Below W.heap.size W w')) (SA : Hid (∀ W, Calls Try.prog 61 #[.agg #[.int .i64 L.n, .int .i64 L.d], .agg #[.int .i64 A.n, .int .i64 A.d]] W fun e w' => e = .returned (.agg #[.bool true, .int .i64 a.n, .int .i64 a.d]) ∧ Below W.heap.size W w')) (SB : Hid (∀ W, Calls Try.prog 61 #[.agg #[.int .i64 L.n, .int .i64 L.d], .agg #[.int .i64 B.n, .int .i64 B.d]] W fun e w' => e = .returned (.agg #[.bool false, .int .i64 b.n, .int .i64 b.d]) ∧ Below W.heap.size W w')) : Calls Try.prog 19 #[.agg #[.int .i64 L.n, .int .i64 L.d], .agg #[.int .i64 A.n, .int .i64 A.d], .agg #[.int .i64 B.n, .int .i64 B.d]] w fun e w' => e = .returned (.agg #[.int .i64 3, .int .i64 0, .int .i64 0, .int .i64 0, .int .i64 0, .int .i64 0, .int .i64 0, .bool false]) ∧ Below w.heap.size w w' := by
  go_enter Try.func19, Try.ntmps19
  go_wp2_with fail
  refine (SC.out _).mono ?_
  rintro e w1 ⟨rfl, hb⟩
  have HO : Hid (Below w.heap.size w w1) := by refine box_step ?_ hb (by simp <;> omega); go_grown
  have X0 : Blk w1 (w.heap.size) #[.int .i64 L.n, .int .i64 L.d] 32 := Blk.old ((Blk.alloc (Blk.alloc (Blk.alloc (Blk.new (by simp)) _) _) _)) hb
  have K0 : Hid (w1.cell? ⟨w.heap.size, 0, none⟩ = some (.int .i64 L.n)) := X0.cell rfl
  have K1 : Hid (w1.cell? ⟨w.heap.size, 1, none⟩ = some (.int .i64 L.d)) := X0.cell rfl
  clear X0
  have X1 : Blk w1 (w.heap.size + 1) #[.int .i64 A.n, .int .i64 A.d] 32 := Blk.old ((Blk.alloc (Blk.alloc (Blk.new (by simp)) _) _)) hb
  have K2 : Hid (w1.cell? ⟨w.heap.size + 1, 0, none⟩ = some (.int .i64 A.n)) := X1.cell rfl
  have K3 : Hid (w1.cell? ⟨w.heap.size + 1, 1, none⟩ = some (.int .i64 A.d)) := X1.cell rfl
  clear X1
  have X2 : Blk w1 (w.heap.size + 1 + 1) #[.int .i64 B.n, .int .i64 B.d] 32 := Blk.old ((Blk.alloc (Blk.new (by simp)) _)) hb
  have K4 : Hid (w1.cell? ⟨w.heap.size + 1 + 1, 0, none⟩ = some (.int .i64 B.n)) := X2.cell rfl
  have K5 : Hid (w1.cell? ⟨w.heap.size + 1 + 1, 1, none⟩ = some (.int .i64 B.d)) := X2.cell rfl
  clear X2
  have RB : Hid (Blk w1 (w.heap.size + 1 + 1 + 1) #[.int .i64 0, .int .i64 0, .int .i64 0, .int .i64 0, .int .i64 0, .int .i64 0, .int .i64 0, .bool false] 36) := Blk.old (Blk.new (by simp)) hb
  clear hb
  go_upto_region 3 with fail
  go_cut [7] (fun p wx => ∃ k : Nat, p = .pointer (some ⟨k, 0, none⟩) ∧ w1.heap.size ≤ k ∧ k < wx.heap.size ∧ Below w1.heap.size w1 wx ∧ wx.cell? ⟨k, 0, none⟩ = some (.bool true) ∧ wx.cell? ⟨k, 1, none⟩ = some (.int .i64 a.n) ∧ wx.cell? ⟨k, 2, none⟩ = some (.int .i64 a.d))
  case first =>
    have c0 := K0.out
    have c1 := K1.out
    have c2 := K2.out
    have c3 := K3.out
    go_wp2_with fail
    refine (SA.out _).mono ?_
    rintro e w1 ⟨rfl, hb⟩
    have hs := hb.size
    clear c0 c1 c2 c3
    go_wp2
    go_meet
    case rel =>
      refine ⟨_, rfl, ?_, ?_, ?_, ?_, ?_, ?_⟩
      · first | exact hs | omega
      · simp
      · go_grown
      · go_simp
      · go_simp
      · go_simp
  case rest =>
    obtain ⟨b2, rfl, hk1, hk2, hB, d0, d1, d2⟩ := hcut
    obtain ⟨w2, hv⟩ : ∃ v, v = wc := ⟨_, rfl⟩
    subst hv
    have HO : Hid (Below w.heap.size w w2) := box_step HO.out hB (by first | exact Nat.le_refl _ | exact HO.out.size)
    have RB : Hid (Blk w2 (w.heap.size + 1 + 1 + 1) #[.int .i64 0, .int .i64 0, .int .i64 0, .int .i64 0, .int .i64 0, .int .i64 0, .int .i64 0, .bool false] 36) := Blk.old RB.out hB
    have K6 : Hid (w2.cell? ⟨w.heap.size, 0, none⟩ = some (.int .i64 L.n)) := kold hB (K0.out)
    have K7 : Hid (w2.cell? ⟨w.heap.size, 1, none⟩ = some (.int .i64 L.d)) := kold hB (K1.out)
    have K8 : Hid (w2.cell? ⟨w.heap.size + 1, 0, none⟩ = some (.int .i64 A.n)) := kold hB (K2.out)
    have K9 : Hid (w2.cell? ⟨w.heap.size + 1, 1, none⟩ = some (.int .i64 A.d)) := kold hB (K3.out)
    have K10 : Hid (w2.cell? ⟨w.heap.size + 1 + 1, 0, none⟩ = some (.int .i64 B.n)) := kold hB (K4.out)
    have K11 : Hid (w2.cell? ⟨w.heap.size + 1 + 1, 1, none⟩ = some (.int .i64 B.d)) := kold hB (K5.out)
    clear K0 K1 K2 K3 K4 K5
    have K12 : Hid (w2.cell? ⟨b2, 0, none⟩ = some (.bool true)) := d0
    have K13 : Hid (w2.cell? ⟨b2, 1, none⟩ = some (.int .i64 a.n)) := d1
    have K14 : Hid (w2.cell? ⟨b2, 2, none⟩ = some (.int .i64 a.d)) := d2
    clear hB hk1 hk2 d0 d1 d2
    go_upto_region 4 with fail
    go_cut [8] (fun p wx => ∃ k : Nat, p = .pointer (some ⟨k, 0, none⟩) ∧ w2.heap.size ≤ k ∧ k < wx.heap.size ∧ Below w2.heap.size w2 wx ∧ wx.cell? ⟨k, 0, none⟩ = some (.bool false) ∧ wx.cell? ⟨k, 1, none⟩ = some (.int .i64 b.n) ∧ wx.cell? ⟨k, 2, none⟩ = some (.int .i64 b.d))
    case first =>
      have c0 := K6.out
      have c1 := K7.out
      have c4 := K10.out
      have c5 := K11.out
      go_wp2_with fail
      refine (SB.out _).mono ?_
      rintro e w1 ⟨rfl, hb⟩
      have hs := hb.size
      clear c0 c1 c4 c5
      go_wp2
      go_meet
      case rel =>
        refine ⟨_, rfl, ?_, ?_, ?_, ?_, ?_, ?_⟩
        · first | exact hs | omega
        · simp
        · go_grown
        · go_simp
        · go_simp
        · go_simp
    case rest =>
      obtain ⟨b3, rfl, hk1, hk2, hB, d0, d1, d2⟩ := hcut
      obtain ⟨w3, hv⟩ : ∃ v, v = wc := ⟨_, rfl⟩
      subst hv
      have HO : Hid (Below w.heap.size w w3) := box_step HO.out hB (by first | exact Nat.le_refl _ | exact HO.out.size)
      have RB : Hid (Blk w3 (w.heap.size + 1 + 1 + 1) #[.int .i64 0, .int .i64 0, .int .i64 0, .int .i64 0, .int .i64 0, .int .i64 0, .int .i64 0, .bool false] 36) := Blk.old RB.out hB
      have K15 : Hid (w3.cell? ⟨w.heap.size, 0, none⟩ = some (.int .i64 L.n)) := kold hB (K6.out)
      have K16 : Hid (w3.cell? ⟨w.heap.size, 1, none⟩ = some (.int .i64 L.d)) := kold hB (K7.out)
      have K17 : Hid (w3.cell? ⟨w.heap.size + 1, 0, none⟩ = some (.int .i64 A.n)) := kold hB (K8.out)
      have K18 : Hid (w3.cell? ⟨w.heap.size + 1, 1, none⟩ = some (.int .i64 A.d)) := kold hB (K9.out)
      have K19 : Hid (w3.cell? ⟨w.heap.size + 1 + 1, 0, none⟩ = some (.int .i64 B.n)) := kold hB (K10.out)
      have K20 : Hid (w3.cell? ⟨w.heap.size + 1 + 1, 1, none⟩ = some (.int .i64 B.d)) := kold hB (K11.out)
      have K21 : Hid (w3.cell? ⟨b2, 0, none⟩ = some (.bool true)) := kold hB (K12.out)
      have K22 : Hid (w3.cell? ⟨b2, 1, none⟩ = some (.int .i64 a.n)) := kold hB (K13.out)
      have K23 : Hid (w3.cell? ⟨b2, 2, none⟩ = some (.int .i64 a.d)) := kold hB (K14.out)
      clear K6 K7 K8 K9 K10 K11 K12 K13 K14
      have K24 : Hid (w3.cell? ⟨b3, 0, none⟩ = some (.bool false)) := d0
      have K25 : Hid (w3.cell? ⟨b3, 1, none⟩ = some (.int .i64 b.n)) := d1
      have K26 : Hid (w3.cell? ⟨b3, 2, none⟩ = some (.int .i64 b.d)) := d2
      clear hB hk1 hk2 d0 d1 d2
      have c6 := K21.out
      have c7 := K22.out
      have c8 := K23.out
      have c9 := K24.out
      have c10 := K25.out
      have c11 := K26.out
      have r0 := RB.out.cell (j := 0) rfl
      have r1 := RB.out.cell (j := 1) rfl
      have r2 := RB.out.cell (j := 2) rfl
      have r3 := RB.out.cell (j := 3) rfl
      have r4 := RB.out.cell (j := 4) rfl
      have r5 := RB.out.cell (j := 5) rfl
      have r6 := RB.out.cell (j := 6) rfl
      have r7 := RB.out.cell (j := 7) rfl
      have rf := RB.out.frozen
      go_wp2
      refine bodyPost_ret (v := .agg #[.int .i64 3, .int .i64 0, .int .i64 0, .int .i64 0, .int .i64 0, .int .i64 0, .int .i64 0, .bool false]) (by simp [results, Try.results19, go_sem, r0, r1, r2, r3, r4, r5, r6, r7, World.cell?_alloc_lt, RB.out.lt] <;> (repeat' (first | rfl | apply And.intro))) rfl ⟨rfl, ?_⟩
      have h := HO.out
      have hlt := RB.out.lt
      have hsz := h.size
      go_grown
set_option maxRecDepth 20000 in
set_option maxHeartbeats 3200000 in
theorem scv_M (L A B a b m d f : Q) (ks kh : Bool) (cm : Int) (w : World) (SC : Hid (∀ W, Calls Try.prog 60 #[.agg #[.int .i64 L.n, .int .i64 L.d], .agg #[.int .i64 A.n, .int .i64 A.d], .agg #[.int .i64 B.n, .int .i64 B.d]] W fun e w' => e = .returned (.bool true) ∧ Below W.heap.size W w')) (SA : Hid (∀ W, Calls Try.prog 61 #[.agg #[.int .i64 L.n, .int .i64 L.d], .agg #[.int .i64 A.n, .int .i64 A.d]] W fun e w' => e = .returned (.agg #[.bool true, .int .i64 a.n, .int .i64 a.d]) ∧ Below W.heap.size W w')) (SB : Hid (∀ W, Calls Try.prog 61 #[.agg #[.int .i64 L.n, .int .i64 L.d], .agg #[.int .i64 B.n, .int .i64 B.d]] W fun e w' => e = .returned (.agg #[.bool true, .int .i64 b.n, .int .i64 b.d]) ∧ Below W.heap.size W w')) (SM : Hid (∀ W, Calls Try.prog 62 #[.agg #[.int .i64 a.n, .int .i64 a.d], .agg #[.int .i64 b.n, .int .i64 b.d]] W fun e w' => e = .returned (.agg #[.bool false, .int .i64 m.n, .int .i64 m.d]) ∧ Below W.heap.size W w')) (S2 : Hid (∀ W, Calls Try.prog 64 #[.agg #[.bool false, .int .i64 m.n, .int .i64 m.d], .agg #[.bool false, .int .i64 m.n, .int .i64 m.d]] W fun e w' => e = .returned (.agg #[.bool ks, .int .i64 d.n, .int .i64 d.d]) ∧ Below W.heap.size W w')) (SI : Hid (∀ W, Calls Try.prog 66 #[.int .i64 1] W fun e w' => e = .returned (.agg #[.int .i64 1, .int .i64 1]) ∧ Below W.heap.size W w')) (SO : Hid (∀ W, Calls Try.prog 65 #[.agg #[.int .i64 1, .int .i64 1]] W fun e w' => e = .returned (.agg #[.bool true, .int .i64 1, .int .i64 1]) ∧ Below W.heap.size W w')) (SL : Hid (∀ W, Calls Try.prog 63 #[.agg #[.bool ks, .int .i64 d.n, .int .i64 d.d], .agg #[.bool true, .int .i64 1, .int .i64 1]] W fun e w' => e = .returned (.agg #[.bool kh, .int .i64 f.n, .int .i64 f.d]) ∧ Below W.heap.size W w')) : Calls Try.prog 19 #[.agg #[.int .i64 L.n, .int .i64 L.d], .agg #[.int .i64 A.n, .int .i64 A.d], .agg #[.int .i64 B.n, .int .i64 B.d]] w fun e w' => e = .returned (.agg #[.int .i64 3, .int .i64 0, .int .i64 0, .int .i64 0, .int .i64 0, .int .i64 0, .int .i64 0, .bool false]) ∧ Below w.heap.size w w' := by
  go_enter Try.func19, Try.ntmps19
  go_wp2_with fail
  refine (SC.out _).mono ?_
  rintro e w1 ⟨rfl, hb⟩
  have HO : Hid (Below w.heap.size w w1) := by refine box_step ?_ hb (by simp <;> omega); go_grown
  have X0 : Blk w1 (w.heap.size) #[.int .i64 L.n, .int .i64 L.d] 32 := Blk.old ((Blk.alloc (Blk.alloc (Blk.alloc (Blk.new (by simp)) _) _) _)) hb
  have K0 : Hid (w1.cell? ⟨w.heap.size, 0, none⟩ = some (.int .i64 L.n)) := X0.cell rfl
  have K1 : Hid (w1.cell? ⟨w.heap.size, 1, none⟩ = some (.int .i64 L.d)) := X0.cell rfl
  clear X0
  have X1 : Blk w1 (w.heap.size + 1) #[.int .i64 A.n, .int .i64 A.d] 32 := Blk.old ((Blk.alloc (Blk.alloc (Blk.new (by simp)) _) _)) hb
  have K2 : Hid (w1.cell? ⟨w.heap.size + 1, 0, none⟩ = some (.int .i64 A.n)) := X1.cell rfl
  have K3 : Hid (w1.cell? ⟨w.heap.size + 1, 1, none⟩ = some (.int .i64 A.d)) := X1.cell rfl
  clear X1
  have X2 : Blk w1 (w.heap.size + 1 + 1) #[.int .i64 B.n, .int .i64 B.d] 32 := Blk.old ((Blk.alloc (Blk.new (by simp)) _)) hb
  have K4 : Hid (w1.cell? ⟨w.heap.size + 1 + 1, 0, none⟩ = some (.int .i64 B.n)) := X2.cell rfl
  have K5 : Hid (w1.cell? ⟨w.heap.size + 1 + 1, 1, none⟩ = some (.int .i64 B.d)) := X2.cell rfl
  clear X2
  have RB : Hid (Blk w1 (w.heap.size + 1 + 1 + 1) #[.int .i64 0, .int .i64 0, .int .i64 0, .int .i64 0, .int .i64 0, .int .i64 0, .int .i64 0, .bool false] 36) := Blk.old (Blk.new (by simp)) hb
  clear hb
  go_upto_region 3 with fail
  go_cut [7] (fun p wx => ∃ k : Nat, p = .pointer (some ⟨k, 0, none⟩) ∧ w1.heap.size ≤ k ∧ k < wx.heap.size ∧ Below w1.heap.size w1 wx ∧ wx.cell? ⟨k, 0, none⟩ = some (.bool true) ∧ wx.cell? ⟨k, 1, none⟩ = some (.int .i64 a.n) ∧ wx.cell? ⟨k, 2, none⟩ = some (.int .i64 a.d))
  case first =>
    have c0 := K0.out
    have c1 := K1.out
    have c2 := K2.out
    have c3 := K3.out
    go_wp2_with fail
    refine (SA.out _).mono ?_
    rintro e w1 ⟨rfl, hb⟩
    have hs := hb.size
    clear c0 c1 c2 c3
    go_wp2
    go_meet
    case rel =>
      refine ⟨_, rfl, ?_, ?_, ?_, ?_, ?_, ?_⟩
      · first | exact hs | omega
      · simp
      · go_grown
      · go_simp
      · go_simp
      · go_simp
  case rest =>
    obtain ⟨b2, rfl, hk1, hk2, hB, d0, d1, d2⟩ := hcut
    obtain ⟨w2, hv⟩ : ∃ v, v = wc := ⟨_, rfl⟩
    subst hv
    have HO : Hid (Below w.heap.size w w2) := box_step HO.out hB (by first | exact Nat.le_refl _ | exact HO.out.size)
    have RB : Hid (Blk w2 (w.heap.size + 1 + 1 + 1) #[.int .i64 0, .int .i64 0, .int .i64 0, .int .i64 0, .int .i64 0, .int .i64 0, .int .i64 0, .bool false] 36) := Blk.old RB.out hB
    have K6 : Hid (w2.cell? ⟨w.heap.size, 0, none⟩ = some (.int .i64 L.n)) := kold hB (K0.out)
    have K7 : Hid (w2.cell? ⟨w.heap.size, 1, none⟩ = some (.int .i64 L.d)) := kold hB (K1.out)
    have K8 : Hid (w2.cell? ⟨w.heap.size + 1, 0, none⟩ = some (.int .i64 A.n)) := kold hB (K2.out)
    have K9 : Hid (w2.cell? ⟨w.heap.size + 1, 1, none⟩ = some (.int .i64 A.d)) := kold hB (K3.out)
    have K10 : Hid (w2.cell? ⟨w.heap.size + 1 + 1, 0, none⟩ = some (.int .i64 B.n)) := kold hB (K4.out)
    have K11 : Hid (w2.cell? ⟨w.heap.size + 1 + 1, 1, none⟩ = some (.int .i64 B.d)) := kold hB (K5.out)
    clear K0 K1 K2 K3 K4 K5
    have K12 : Hid (w2.cell? ⟨b2, 0, none⟩ = some (.bool true)) := d0
    have K13 : Hid (w2.cell? ⟨b2, 1, none⟩ = some (.int .i64 a.n)) := d1
    have K14 : Hid (w2.cell? ⟨b2, 2, none⟩ = some (.int .i64 a.d)) := d2
    clear hB hk1 hk2 d0 d1 d2
    go_upto_region 4 with fail
    go_cut [8] (fun p wx => ∃ k : Nat, p = .pointer (some ⟨k, 0, none⟩) ∧ w2.heap.size ≤ k ∧ k < wx.heap.size ∧ Below w2.heap.size w2 wx ∧ wx.cell? ⟨k, 0, none⟩ = some (.bool true) ∧ wx.cell? ⟨k, 1, none⟩ = some (.int .i64 b.n) ∧ wx.cell? ⟨k, 2, none⟩ = some (.int .i64 b.d))
    case first =>
      have c0 := K6.out
      have c1 := K7.out
      have c4 := K10.out
      have c5 := K11.out
      go_wp2_with fail
      refine (SB.out _).mono ?_
      rintro e w1 ⟨rfl, hb⟩
      have hs := hb.size
      clear c0 c1 c4 c5
      go_wp2
      go_meet
      case rel =>
        refine ⟨_, rfl, ?_, ?_, ?_, ?_, ?_, ?_⟩
        · first | exact hs | omega
        · simp
        · go_grown
        · go_simp
        · go_simp
        · go_simp
    case rest =>
      obtain ⟨b3, rfl, hk1, hk2, hB, d0, d1, d2⟩ := hcut
      obtain ⟨w3, hv⟩ : ∃ v, v = wc := ⟨_, rfl⟩
      subst hv
      have HO : Hid (Below w.heap.size w w3) := box_step HO.out hB (by first | exact Nat.le_refl _ | exact HO.out.size)
      have RB : Hid (Blk w3 (w.heap.size + 1 + 1 + 1) #[.int .i64 0, .int .i64 0, .int .i64 0, .int .i64 0, .int .i64 0, .int .i64 0, .int .i64 0, .bool false] 36) := Blk.old RB.out hB
      have K15 : Hid (w3.cell? ⟨w.heap.size, 0, none⟩ = some (.int .i64 L.n)) := kold hB (K6.out)
      have K16 : Hid (w3.cell? ⟨w.heap.size, 1, none⟩ = some (.int .i64 L.d)) := kold hB (K7.out)
      have K17 : Hid (w3.cell? ⟨w.heap.size + 1, 0, none⟩ = some (.int .i64 A.n)) := kold hB (K8.out)
      have K18 : Hid (w3.cell? ⟨w.heap.size + 1, 1, none⟩ = some (.int .i64 A.d)) := kold hB (K9.out)
      have K19 : Hid (w3.cell? ⟨w.heap.size + 1 + 1, 0, none⟩ = some (.int .i64 B.n)) := kold hB (K10.out)
      have K20 : Hid (w3.cell? ⟨w.heap.size + 1 + 1, 1, none⟩ = some (.int .i64 B.d)) := kold hB (K11.out)
      have K21 : Hid (w3.cell? ⟨b2, 0, none⟩ = some (.bool true)) := kold hB (K12.out)
      have K22 : Hid (w3.cell? ⟨b2, 1, none⟩ = some (.int .i64 a.n)) := kold hB (K13.out)
      have K23 : Hid (w3.cell? ⟨b2, 2, none⟩ = some (.int .i64 a.d)) := kold hB (K14.out)
      clear K6 K7 K8 K9 K10 K11 K12 K13 K14
      have K24 : Hid (w3.cell? ⟨b3, 0, none⟩ = some (.bool true)) := d0
      have K25 : Hid (w3.cell? ⟨b3, 1, none⟩ = some (.int .i64 b.n)) := d1
      have K26 : Hid (w3.cell? ⟨b3, 2, none⟩ = some (.int .i64 b.d)) := d2
      clear hB hk1 hk2 d0 d1 d2
      have c6 := K21.out
      have c7 := K22.out
      have c8 := K23.out
      have c9 := K24.out
      have c10 := K25.out
      have c11 := K26.out
      have r0 := RB.out.cell (j := 0) rfl
      have r1 := RB.out.cell (j := 1) rfl
      have r2 := RB.out.cell (j := 2) rfl
      have r3 := RB.out.cell (j := 3) rfl
      have r4 := RB.out.cell (j := 4) rfl
      have r5 := RB.out.cell (j := 5) rfl
      have r6 := RB.out.cell (j := 6) rfl
      have r7 := RB.out.cell (j := 7) rfl
      have rf := RB.out.frozen
      go_upto_region 7 with fail
      clear c6 c7 c8 c9 c10 c11 r0 r1 r2 r3 r4 r5 r6 r7 rf
      go_cut [9] (fun p wx => ∃ k : Nat, p = .pointer (some ⟨k, 0, none⟩) ∧ w3.heap.size ≤ k ∧ k < wx.heap.size ∧ Below w3.heap.size w3 wx ∧ wx.cell? ⟨k, 0, none⟩ = some (.bool false) ∧ wx.cell? ⟨k, 1, none⟩ = some (.int .i64 m.n) ∧ wx.cell? ⟨k, 2, none⟩ = some (.int .i64 m.d))
      case first =>
        have c6 := K21.out
        have c7 := K22.out
        have c8 := K23.out
        have c9 := K24.out
        have c10 := K25.out
        have c11 := K26.out
        go_wp2_with fail
        refine (SM.out _).mono ?_
        rintro e w1 ⟨rfl, hb⟩
        have hs := hb.size
        clear c6 c7 c8 c9 c10 c11
        go_wp2
        go_meet
        case rel =>
          refine ⟨_, rfl, ?_, ?_, ?_, ?_, ?_, ?_⟩
          · first | exact hs | omega
          · simp
          · go_grown
          · go_simp
          · go_simp
          · go_simp
      case rest =>
        obtain ⟨b4, rfl, hk1, hk2, hB, d0, d1, d2⟩ := hcut
        obtain ⟨w4, hv⟩ : ∃ v, v = wc := ⟨_, rfl⟩
        subst hv
        have HO : Hid (Below w.heap.size w w4) := box_step HO.out hB (by first | exact Nat.le_refl _ | exact HO.out.size)
        have RB : Hid (Blk w4 (w.heap.size + 1 + 1 + 1) #[.int .i64 0, .int .i64 0, .int .i64 0, .int .i64 0, .int .i64 0, .int .i64 0, .int .i64 0, .bool false] 36) := Blk.old RB.out hB
        have K27 : Hid (w4.cell? ⟨w.heap.size, 0, none⟩ = some (.int .i64 L.n)) := kold hB (K15.out)
        have K28 : Hid (w4.cell? ⟨w.heap.size, 1, none⟩ = some (.int .i64 L.d)) := kold hB (K16.out)
        have K29 : Hid (w4.cell? ⟨w.heap.size + 1, 0, none⟩ = some (.int .i64 A.n)) := kold hB (K17.out)
        have K30 : Hid (w4.cell? ⟨w.heap.size + 1, 1, none⟩ = some (.int .i64 A.d)) := kold hB (K18.out)
        have K31 : Hid (w4.cell? ⟨w.heap.size + 1 + 1, 0, none⟩ = some (.int .i64 B.n)) := kold hB (K19.out)
        have K32 : Hid (w4.cell? ⟨w.heap.size + 1 + 1, 1, none⟩ = some (.int .i64 B.d)) := kold hB (K20.out)
        have K33 : Hid (w4.cell? ⟨b2, 0, none⟩ = some (.bool true)) := kold hB (K21.out)
        have K34 : Hid (w4.cell? ⟨b2, 1, none⟩ = some (.int .i64 a.n)) := kold hB (K22.out)
        have K35 : Hid (w4.cell? ⟨b2, 2, none⟩ = some (.int .i64 a.d)) := kold hB (K23.out)
        have K36 : Hid (w4.cell? ⟨b3, 0, none⟩ = some (.bool true)) := kold hB (K24.out)
        have K37 : Hid (w4.cell? ⟨b3, 1, none⟩ = some (.int .i64 b.n)) := kold hB (K25.out)
        have K38 : Hid (w4.cell? ⟨b3, 2, none⟩ = some (.int .i64 b.d)) := kold hB (K26.out)
        clear K15 K16 K17 K18 K19 K20 K21 K22 K23 K24 K25 K26
        have K39 : Hid (w4.cell? ⟨b4, 0, none⟩ = some (.bool false)) := d0
        have K40 : Hid (w4.cell? ⟨b4, 1, none⟩ = some (.int .i64 m.n)) := d1
        have K41 : Hid (w4.cell? ⟨b4, 2, none⟩ = some (.int .i64 m.d)) := d2
        clear hB hk1 hk2 d0 d1 d2
        have c12 := K39.out
        have c13 := K40.out
        have c14 := K41.out
        have r0 := RB.out.cell (j := 0) rfl
        have r1 := RB.out.cell (j := 1) rfl
        have r2 := RB.out.cell (j := 2) rfl
        have r3 := RB.out.cell (j := 3) rfl
        have r4 := RB.out.cell (j := 4) rfl
        have r5 := RB.out.cell (j := 5) rfl
        have r6 := RB.out.cell (j := 6) rfl
        have r7 := RB.out.cell (j := 7) rfl
        have rf := RB.out.frozen
        go_wp2_with fail
        refine (S2.out _).mono ?_
        rintro e w5 ⟨rfl, hb⟩
        clear c12 c13 c14 r0 r1 r2 r3 r4 r5 r6 r7 rf
        have HO : Hid (Below w.heap.size w w5) := by have h := HO.out; have hs := h.size; refine box_step ?_ hb (by first | exact hs | (simp <;> omega)); go_grown
        have RB : Hid (Blk w5 (w.heap.size + 1 + 1 + 1) #[.int .i64 0, .int .i64 0, .int .i64 0, .int .i64 0, .int .i64 0, .int .i64 0, .int .i64 0, .bool false] 36) := Blk.old (RB.out) hb
        have K42 : Hid (w5.cell? ⟨w.heap.size, 0, none⟩ = some (.int .i64 L.n)) := kold hb (K27.out)
        have K43 : Hid (w5.cell? ⟨w.heap.size, 1, none⟩ = some (.int .i64 L.d)) := kold hb (K28.out)
        have K44 : Hid (w5.cell? ⟨w.heap.size + 1, 0, none⟩ = some (.int .i64 A.n)) := kold hb (K29.out)
        have K45 : Hid (w5.cell? ⟨w.heap.size + 1, 1, none⟩ = some (.int .i64 A.d)) := kold hb (K30.out)
        have K46 : Hid (w5.cell? ⟨w.heap.size + 1 + 1, 0, none⟩ = some (.int .i64 B.n)) := kold hb (K31.out)
        have K47 : Hid (w5.cell? ⟨w.heap.size + 1 + 1, 1, none⟩ = some (.int .i64 B.d)) := kold hb (K32.out)
        have K48 : Hid (w5.cell? ⟨b2, 0, none⟩ = some (.bool true)) := kold hb (K33.out)
        have K49 : Hid (w5.cell? ⟨b2, 1, none⟩ = some (.int .i64 a.n)) := kold hb (K34.out)
        have K50 : Hid (w5.cell? ⟨b2, 2, none⟩ = some (.int .i64 a.d)) := kold hb (K35.out)
        have K51 : Hid (w5.cell? ⟨b3, 0, none⟩ = some (.bool true)) := kold hb (K36.out)
        have K52 : Hid (w5.cell? ⟨b3, 1, none⟩ = some (.int .i64 b.n)) := kold hb (K37.out)
        have K53 : Hid (w5.cell? ⟨b3, 2, none⟩ = some (.int .i64 b.d)) := kold hb (K38.out)
        have K54 : Hid (w5.cell? ⟨b4, 0, none⟩ = some (.bool false)) := kold hb (K39.out)
        have K55 : Hid (w5.cell? ⟨b4, 1, none⟩ = some (.int .i64 m.n)) := kold hb (K40.out)
        have K56 : Hid (w5.cell? ⟨b4, 2, none⟩ = some (.int .i64 m.d)) := kold hb (K41.out)
        clear K27 K28 K29 K30 K31 K32 K33 K34 K35 K36 K37 K38 K39 K40 K41
        clear hb
        have r0 := RB.out.cell (j := 0) rfl
        have r1 := RB.out.cell (j := 1) rfl
        have r2 := RB.out.cell (j := 2) rfl
        have r3 := RB.out.cell (j := 3) rfl
        have r4 := RB.out.cell (j := 4) rfl
        have r5 := RB.out.cell (j := 5) rfl
        have r6 := RB.out.cell (j := 6) rfl
        have r7 := RB.out.cell (j := 7) rfl
        have rf := RB.out.frozen
        go_wp2_with fail
        refine (SI.out _).mono ?_
        rintro e w6 ⟨rfl, hb⟩
        clear r0 r1 r2 r3 r4 r5 r6 r7 rf
        have HO : Hid (Below w.heap.size w w6) := by have h := HO.out; have hs := h.size; refine box_step ?_ hb (by first | exact hs | (simp <;> omega)); go_grown
        have RB : Hid (Blk w6 (w.heap.size + 1 + 1 + 1) #[.int .i64 0, .int .i64 0, .int .i64 0, .int .i64 0, .int .i64 0, .int .i64 0, .int .i64 0, .bool false] 36) := Blk.old (RB.out) hb
        have K57 : Hid (w6.cell? ⟨w.heap.size, 0, none⟩ = some (.int .i64 L.n)) := kold hb (K42.out)
        have K58 : Hid (w6.cell? ⟨w.heap.size, 1, none⟩ = some (.int .i64 L.d)) := kold hb (K43.out)
        have K59 : Hid (w6.cell? ⟨w.heap.size + 1, 0, none⟩ = some (.int .i64 A.n)) := kold hb (K44.out)
        have K60 : Hid (w6.cell? ⟨w.heap.size + 1, 1, none⟩ = some (.int .i64 A.d)) := kold hb (K45.out)
        have K61 : Hid (w6.cell? ⟨w.heap.size + 1 + 1, 0, none⟩ = some (.int .i64 B.n)) := kold hb (K46.out)
        have K62 : Hid (w6.cell? ⟨w.heap.size + 1 + 1, 1, none⟩ = some (.int .i64 B.d)) := kold hb (K47.out)
        have K63 : Hid (w6.cell? ⟨b2, 0, none⟩ = some (.bool true)) := kold hb (K48.out)
        have K64 : Hid (w6.cell? ⟨b2, 1, none⟩ = some (.int .i64 a.n)) := kold hb (K49.out)
        have K65 : Hid (w6.cell? ⟨b2, 2, none⟩ = some (.int .i64 a.d)) := kold hb (K50.out)
        have K66 : Hid (w6.cell? ⟨b3, 0, none⟩ = some (.bool true)) := kold hb (K51.out)
        have K67 : Hid (w6.cell? ⟨b3, 1, none⟩ = some (.int .i64 b.n)) := kold hb (K52.out)
        have K68 : Hid (w6.cell? ⟨b3, 2, none⟩ = some (.int .i64 b.d)) := kold hb (K53.out)
        have K69 : Hid (w6.cell? ⟨b4, 0, none⟩ = some (.bool false)) := kold hb (K54.out)
        have K70 : Hid (w6.cell? ⟨b4, 1, none⟩ = some (.int .i64 m.n)) := kold hb (K55.out)
        have K71 : Hid (w6.cell? ⟨b4, 2, none⟩ = some (.int .i64 m.d)) := kold hb (K56.out)
        clear K42 K43 K44 K45 K46 K47 K48 K49 K50 K51 K52 K53 K54 K55 K56
        clear hb
        have r0 := RB.out.cell (j := 0) rfl
        have r1 := RB.out.cell (j := 1) rfl
        have r2 := RB.out.cell (j := 2) rfl
        have r3 := RB.out.cell (j := 3) rfl
        have r4 := RB.out.cell (j := 4) rfl
        have r5 := RB.out.cell (j := 5) rfl
        have r6 := RB.out.cell (j := 6) rfl
        have r7 := RB.out.cell (j := 7) rfl
        have rf := RB.out.frozen
        go_wp2_with fail
        refine (SO.out _).mono ?_
        rintro e w7 ⟨rfl, hb⟩
        clear r0 r1 r2 r3 r4 r5 r6 r7 rf
        have HO : Hid (Below w.heap.size w w7) := by have h := HO.out; have hs := h.size; refine box_step ?_ hb (by first | exact hs | (simp <;> omega)); go_grown
        have RB : Hid (Blk w7 (w.heap.size + 1 + 1 + 1) #[.int .i64 0, .int .i64 0, .int .i64 0, .int .i64 0, .int .i64 0, .int .i64 0, .int .i64 0, .bool false] 36) := Blk.old (RB.out) hb
        have K72 : Hid (w7.cell? ⟨w.heap.size, 0, none⟩ = some (.int .i64 L.n)) := kold hb (K57.out)
        have K73 : Hid (w7.cell? ⟨w.heap.size, 1, none⟩ = some (.int .i64 L.d)) := kold hb (K58.out)
        have K74 : Hid (w7.cell? ⟨w.heap.size + 1, 0, none⟩ = some (.int .i64 A.n)) := kold hb (K59.out)
        have K75 : Hid (w7.cell? ⟨w.heap.size + 1, 1, none⟩ = some (.int .i64 A.d)) := kold hb (K60.out)
        have K76 : Hid (w7.cell? ⟨w.heap.size + 1 + 1, 0, none⟩ = some (.int .i64 B.n)) := kold hb (K61.out)
        have K77 : Hid (w7.cell? ⟨w.heap.size + 1 + 1, 1, none⟩ = some (.int .i64 B.d)) := kold hb (K62.out)
        have K78 : Hid (w7.cell? ⟨b2, 0, none⟩ = some (.bool true)) := kold hb (K63.out)
        have K79 : Hid (w7.cell? ⟨b2, 1, none⟩ = some (.int .i64 a.n)) := kold hb (K64.out)
        have K80 : Hid (w7.cell? ⟨b2, 2, none⟩ = some (.int .i64 a.d)) := kold hb (K65.out)
        have K81 : Hid (w7.cell? ⟨b3, 0, none⟩ = some (.bool true)) := kold hb (K66.out)
        have K82 : Hid (w7.cell? ⟨b3, 1, none⟩ = some (.int .i64 b.n)) := kold hb (K67.out)
        have K83 : Hid (w7.cell? ⟨b3, 2, none⟩ = some (.int .i64 b.d)) := kold hb (K68.out)
        have K84 : Hid (w7.cell? ⟨b4, 0, none⟩ = some (.bool false)) := kold hb (K69.out)
        have K85 : Hid (w7.cell? ⟨b4, 1, none⟩ = some (.int .i64 m.n)) := kold hb (K70.out)
        have K86 : Hid (w7.cell? ⟨b4, 2, none⟩ = some (.int .i64 m.d)) := kold hb (K71.out)
        clear K57 K58 K59 K60 K61 K62 K63 K64 K65 K66 K67 K68 K69 K70 K71
        clear hb
        have r0 := RB.out.cell (j := 0) rfl
        have r1 := RB.out.cell (j := 1) rfl
        have r2 := RB.out.cell (j := 2) rfl
        have r3 := RB.out.cell (j := 3) rfl
        have r4 := RB.out.cell (j := 4) rfl
        have r5 := RB.out.cell (j := 5) rfl
        have r6 := RB.out.cell (j := 6) rfl
        have r7 := RB.out.cell (j := 7) rfl
        have rf := RB.out.frozen
        go_wp2_with fail
        refine (SL.out _).mono ?_
        rintro e w8 ⟨rfl, hb⟩
        clear r0 r1 r2 r3 r4 r5 r6 r7 rf
        have HO : Hid (Below w.heap.size w w8) := by have h := HO.out; have hs := h.size; refine box_step ?_ hb (by first | exact hs | (simp <;> omega)); go_grown
        have RB : Hid (Blk w8 (w.heap.size + 1 + 1 + 1) #[.int .i64 0, .int .i64 0, .int .i64 0, .int .i64 0, .int .i64 0, .int .i64 0, .int .i64 0, .bool false] 36) := Blk.old (RB.out) hb
        have K87 : Hid (w8.cell? ⟨w.heap.size, 0, none⟩ = some (.int .i64 L.n)) := kold hb (K72.out)
        have K88 : Hid (w8.cell? ⟨w.heap.size, 1, none⟩ = some (.int .i64 L.d)) := kold hb (K73.out)
        have K89 : Hid (w8.cell? ⟨w.heap.size + 1, 0, none⟩ = some (.int .i64 A.n)) := kold hb (K74.out)
        have K90 : Hid (w8.cell? ⟨w.heap.size + 1, 1, none⟩ = some (.int .i64 A.d)) := kold hb (K75.out)
        have K91 : Hid (w8.cell? ⟨w.heap.size + 1 + 1, 0, none⟩ = some (.int .i64 B.n)) := kold hb (K76.out)
        have K92 : Hid (w8.cell? ⟨w.heap.size + 1 + 1, 1, none⟩ = some (.int .i64 B.d)) := kold hb (K77.out)
        have K93 : Hid (w8.cell? ⟨b2, 0, none⟩ = some (.bool true)) := kold hb (K78.out)
        have K94 : Hid (w8.cell? ⟨b2, 1, none⟩ = some (.int .i64 a.n)) := kold hb (K79.out)
        have K95 : Hid (w8.cell? ⟨b2, 2, none⟩ = some (.int .i64 a.d)) := kold hb (K80.out)
        have K96 : Hid (w8.cell? ⟨b3, 0, none⟩ = some (.bool true)) := kold hb (K81.out)
        have K97 : Hid (w8.cell? ⟨b3, 1, none⟩ = some (.int .i64 b.n)) := kold hb (K82.out)
        have K98 : Hid (w8.cell? ⟨b3, 2, none⟩ = some (.int .i64 b.d)) := kold hb (K83.out)
        have K99 : Hid (w8.cell? ⟨b4, 0, none⟩ = some (.bool false)) := kold hb (K84.out)
        have K100 : Hid (w8.cell? ⟨b4, 1, none⟩ = some (.int .i64 m.n)) := kold hb (K85.out)
        have K101 : Hid (w8.cell? ⟨b4, 2, none⟩ = some (.int .i64 m.d)) := kold hb (K86.out)
        clear K72 K73 K74 K75 K76 K77 K78 K79 K80 K81 K82 K83 K84 K85 K86
        clear hb
        go_upto_region 9 with fail
        obtain ⟨u9, hu⟩ : ∃ W, W = w8.alloc (.cells #[.bool kh, .int .i64 f.n, .int .i64 f.d] 98) := ⟨_, rfl⟩
        have hb : Below w8.heap.size w8 u9 := by rw [hu]; exact (Below.refl _ _).alloc (Nat.le_refl _) _
        have HO : Hid (Below w.heap.size w u9) := HO.out.trans (hb.mono HO.out.size)
        have RB : Hid (Blk u9 (w.heap.size + 1 + 1 + 1) #[.int .i64 0, .int .i64 0, .int .i64 0, .int .i64 0, .int .i64 0, .int .i64 0, .int .i64 0, .bool false] 36) := Blk.old RB.out hb
        have K102 : Hid (u9.cell? ⟨w.heap.size, 0, none⟩ = some (.int .i64 L.n)) := kold hb K87.out
        have K103 : Hid (u9.cell? ⟨w.heap.size, 1, none⟩ = some (.int .i64 L.d)) := kold hb K88.out
        have K104 : Hid (u9.cell? ⟨w.heap.size + 1, 0, none⟩ = some (.int .i64 A.n)) := kold hb K89.out
        have K105 : Hid (u9.cell? ⟨w.heap.size + 1, 1, none⟩ = some (.int .i64 A.d)) := kold hb K90.out
        have K106 : Hid (u9.cell? ⟨w.heap.size + 1 + 1, 0, none⟩ = some (.int .i64 B.n)) := kold hb K91.out
        have K107 : Hid (u9.cell? ⟨w.heap.size + 1 + 1, 1, none⟩ = some (.int .i64 B.d)) := kold hb K92.out
        have K108 : Hid (u9.cell? ⟨b2, 0, none⟩ = some (.bool true)) := kold hb K93.out
        have K109 : Hid (u9.cell? ⟨b2, 1, none⟩ = some (.int .i64 a.n)) := kold hb K94.out
        have K110 : Hid (u9.cell? ⟨b2, 2, none⟩ = some (.int .i64 a.d)) := kold hb K95.out
        have K111 : Hid (u9.cell? ⟨b3, 0, none⟩ = some (.bool true)) := kold hb K96.out
        have K112 : Hid (u9.cell? ⟨b3, 1, none⟩ = some (.int .i64 b.n)) := kold hb K97.out
        have K113 : Hid (u9.cell? ⟨b3, 2, none⟩ = some (.int .i64 b.d)) := kold hb K98.out
        have K114 : Hid (u9.cell? ⟨b4, 0, none⟩ = some (.bool false)) := kold hb K99.out
        have K115 : Hid (u9.cell? ⟨b4, 1, none⟩ = some (.int .i64 m.n)) := kold hb K100.out
        have K116 : Hid (u9.cell? ⟨b4, 2, none⟩ = some (.int .i64 m.d)) := kold hb K101.out
        have PB : Blk u9 (w8.heap.size) #[.bool kh, .int .i64 f.n, .int .i64 f.d] 98 := by rw [hu]; exact Blk.new rfl
        have K117 : Hid (u9.cell? ⟨w8.heap.size, 0, none⟩ = some (.bool kh)) := PB.cell (j := 0) rfl
        have K118 : Hid (u9.cell? ⟨w8.heap.size, 1, none⟩ = some (.int .i64 f.n)) := PB.cell (j := 1) rfl
        have K119 : Hid (u9.cell? ⟨w8.heap.size, 2, none⟩ = some (.int .i64 f.d)) := PB.cell (j := 2) rfl
        rw [← hu]
        clear hu hb PB K87 K88 K89 K90 K91 K92 K93 K94 K95 K96 K97 K98 K99 K100 K101
        have c12 := K114.out
        have c13 := K115.out
        have c14 := K116.out
        have c15 := K117.out
        have c16 := K118.out
        have c17 := K119.out
        have r0 := RB.out.cell (j := 0) rfl
        have r1 := RB.out.cell (j := 1) rfl
        have r2 := RB.out.cell (j := 2) rfl
        have r3 := RB.out.cell (j := 3) rfl
        have r4 := RB.out.cell (j := 4) rfl
        have r5 := RB.out.cell (j := 5) rfl
        have r6 := RB.out.cell (j := 6) rfl
        have r7 := RB.out.cell (j := 7) rfl
        have rf := RB.out.frozen
        go_wp2
        refine bodyPost_ret (v := .agg #[.int .i64 3, .int .i64 0, .int .i64 0, .int .i64 0, .int .i64 0, .int .i64 0, .int .i64 0, .bool false]) (by simp [results, Try.results19, go_sem, r0, r1, r2, r3, r4, r5, r6, r7, World.cell?_alloc_lt, RB.out.lt] <;> (repeat' (first | rfl | apply And.intro))) rfl ⟨rfl, ?_⟩
        have h := HO.out
        have hlt := RB.out.lt
        have hsz := h.size
        go_grown
end Go.Proofs.Ytkkajcdjkfbcgaa
