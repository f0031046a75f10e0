/- Cavities: the program. -/
import Derived.Test.YtkkajcdjkfbcgaaCf
import Derived.Test.YtkkajcdjkfbcgaaLa2
import Derived.Handy
namespace Go.Proofs.Ytkkajcdjkfbcgaa
open Go.RowKit
set_option linter.unusedVariables false
set_option linter.unusedSimpArgs false
set_option maxRecDepth 20000 in
set_option maxHeartbeats 6400000 in
theorem icv_G0 (L A B a b m d f : Q) (ka kb km k2 k3 : Bool) (y0 y1 : Int) (w : World) (FC : Hid (∀ W, Calls Try.prog 67 #[.agg #[.int .i64 L.n, .int .i64 L.d], .agg #[.int .i64 A.n, .int .i64 A.d], .agg #[.int .i64 B.n, .int .i64 B.d]] W fun e w' => e = .returned (.int .i64 0) ∧ Below W.heap.size W w')) (TA : Hid (∀ (r : Nat) (g : Bool) (W : World), flag r g W → Calls Try.prog 68 #[.agg #[.int .i64 L.n, .int .i64 L.d], .agg #[.int .i64 A.n, .int .i64 A.d], .pointer (some ⟨r, 0, none⟩)] W fun e w' => e = .returned (.agg #[.int .i64 a.n, .int .i64 a.d]) ∧ But r W.heap.size W w' ∧ flag r (g || !ka) w')) (TB : Hid (∀ (r : Nat) (g : Bool) (W : World), flag r g W → Calls Try.prog 68 #[.agg #[.int .i64 L.n, .int .i64 L.d], .agg #[.int .i64 B.n, .int .i64 B.d], .pointer (some ⟨r, 0, none⟩)] W fun e w' => e = .returned (.agg #[.int .i64 b.n, .int .i64 b.d]) ∧ But r W.heap.size W w' ∧ flag r (g || !kb) w')) (TM : Hid (∀ (r : Nat) (g : Bool) (W : World), flag r g W → Calls Try.prog 69 #[.pointer (some ⟨r, 0, none⟩), .agg #[.int .i64 a.n, .int .i64 a.d], .agg #[.int .i64 b.n, .int .i64 b.d]] W fun e w' => e = .returned (.agg #[.int .i64 m.n, .int .i64 m.d]) ∧ But r W.heap.size W w' ∧ flag r (g || !km) w')) (T2 : Hid (∀ (r : Nat) (g : Bool) (W : World), flag r g W → Calls Try.prog 71 #[.pointer (some ⟨r, 0, none⟩), .agg #[.int .i64 m.n, .int .i64 m.d], .agg #[.int .i64 m.n, .int .i64 m.d]] W fun e w' => e = .returned (.agg #[.int .i64 d.n, .int .i64 d.d]) ∧ But r W.heap.size W w' ∧ flag r (g || !k2) w')) (TI : Hid (∀ W, Calls Try.prog 72 #[.int .i64 1] W fun e w' => e = .returned (.agg #[.int .i64 1, .int .i64 1]) ∧ Below W.heap.size W w')) (T3 : Hid (∀ (r : Nat) (g : Bool) (W : World), flag r g W → Calls Try.prog 70 #[.pointer (some ⟨r, 0, none⟩), .agg #[.int .i64 d.n, .int .i64 d.d], .agg #[.int .i64 1, .int .i64 1]] W fun e w' => e = .returned (.agg #[.int .i64 f.n, .int .i64 f.d]) ∧ But r W.heap.size W w' ∧ flag r (g || !k3) w')) (hfl : (((((false || !ka) || !kb) || !km) || !k2) || !k3) = false) (hp : ¬ 0 ≤ y0) (hp1 : decide (0 ≤ y0) = false) (TZ : Hid (∀ W, Calls Try.prog 72 #[.int .i64 0] W fun e w' => e = .returned (.agg #[.int .i64 0, .int .i64 1]) ∧ Below W.heap.size W w')) (C0 : Hid (∀ W, Calls Try.prog 73 #[.agg #[.int .i64 m.n, .int .i64 m.d], .agg #[.int .i64 0, .int .i64 1]] W fun e w' => e = .returned (.int .i64 y0) ∧ Below W.heap.size W w')) (C1 : Hid (∀ W, Calls Try.prog 73 #[.agg #[.int .i64 m.n, .int .i64 m.d], .agg #[.int .i64 1, .int .i64 1]] W fun e w' => e = .returned (.int .i64 y1) ∧ Below W.heap.size W w')) : Calls Try.prog 20 #[.agg #[.int .i64 L.n, .int .i64 L.d], .agg #[.int .i64 A.n, .int .i64 A.d], .agg #[.int .i64 B.n, .int .i64 B.d]] w fun e w' => e = .returned (.agg #[.int .i64 0, .int .i64 a.n, .int .i64 a.d, .int .i64 b.n, .int .i64 b.d, .int .i64 f.n, .int .i64 f.d, .bool false]) ∧ Below w.heap.size w w' := by
  go_enter Try.func20, Try.ntmps20
  go_wp2_with fail
  refine (FC.out _).mono ?_
  rintro e w1 ⟨rfl, hb⟩
  have HO : Hid (Below w.heap.size w w1) := by refine box_step ?_ hb (by simp <;> omega); go_grown
  have X0 : Blk w1 (w.heap.size) #[.int .i64 L.n, .int .i64 L.d] 32 := Blk.old ((Blk.alloc (Blk.alloc (Blk.alloc (Blk.new (by simp)) _) _) _)) hb
  have K0 : Hid (w1.cell? ⟨w.heap.size, 0, none⟩ = some (.int .i64 L.n)) := X0.cell rfl
  have K1 : Hid (w1.cell? ⟨w.heap.size, 1, none⟩ = some (.int .i64 L.d)) := X0.cell rfl
  clear X0
  have X1 : Blk w1 (w.heap.size + 1) #[.int .i64 A.n, .int .i64 A.d] 32 := Blk.old ((Blk.alloc (Blk.alloc (Blk.new (by simp)) _) _)) hb
  have K2 : Hid (w1.cell? ⟨w.heap.size + 1, 0, none⟩ = some (.int .i64 A.n)) := X1.cell rfl
  have K3 : Hid (w1.cell? ⟨w.heap.size + 1, 1, none⟩ = some (.int .i64 A.d)) := X1.cell rfl
  clear X1
  have X2 : Blk w1 (w.heap.size + 1 + 1) #[.int .i64 B.n, .int .i64 B.d] 32 := Blk.old ((Blk.alloc (Blk.new (by simp)) _)) hb
  have K4 : Hid (w1.cell? ⟨w.heap.size + 1 + 1, 0, none⟩ = some (.int .i64 B.n)) := X2.cell rfl
  have K5 : Hid (w1.cell? ⟨w.heap.size + 1 + 1, 1, none⟩ = some (.int .i64 B.d)) := X2.cell rfl
  clear X2
  have RB : Hid (Blk w1 (w.heap.size + 1 + 1 + 1) #[.int .i64 0, .int .i64 0, .int .i64 0, .int .i64 0, .int .i64 0, .int .i64 0, .int .i64 0, .bool false] 36) := Blk.old (Blk.new (by simp)) hb
  clear hb
  go_upto_region 5 with fail
  obtain ⟨r, hr⟩ : ∃ r, r = w1.heap.size := ⟨_, rfl⟩
  obtain ⟨w2, hY⟩ : ∃ Y, Y = w1.alloc (.cells #[.bool false] 105) := ⟨_, rfl⟩
  rw [← hY, ← hr]
  have FL : Hid (flag r false w2) := by rw [hY, hr]; exact Blk.new rfl
  have hrl : r < w2.heap.size := FL.out.lt
  have hrw : w.heap.size ≤ r := by rw [hr]; exact HO.out.size
  have HO : Hid (Below w.heap.size w w2) := by rw [hY]; exact HO.out.alloc HO.out.size _
  have ne0 : Hid (w.heap.size ≠ r) := by have hh : w.heap.size < w1.heap.size := World.block_lt_of_cell? _ _ K0.out; show w.heap.size ≠ r; omega
  have ne1 : Hid (w.heap.size + 1 ≠ r) := by have hh : w.heap.size + 1 < w1.heap.size := World.block_lt_of_cell? _ _ K2.out; show w.heap.size + 1 ≠ r; omega
  have ne2 : Hid (w.heap.size + 1 + 1 ≠ r) := by have hh : w.heap.size + 1 + 1 < w1.heap.size := World.block_lt_of_cell? _ _ K4.out; show w.heap.size + 1 + 1 ≠ r; omega
  have neR : Hid (w.heap.size + 1 + 1 + 1 ≠ r) := by have := RB.out.lt; show w.heap.size + 1 + 1 + 1 ≠ r; omega
  have RB : Hid (Blk w2 (w.heap.size + 1 + 1 + 1) #[.int .i64 0, .int .i64 0, .int .i64 0, .int .i64 0, .int .i64 0, .int .i64 0, .int .i64 0, .bool false] 36) := by rw [hY]; exact Blk.alloc RB.out _
  have K6 : Hid (w2.cell? ⟨w.heap.size, 0, none⟩ = some (.int .i64 L.n)) := by rw [hY]; exact cell_old K0.out
  have K7 : Hid (w2.cell? ⟨w.heap.size, 1, none⟩ = some (.int .i64 L.d)) := by rw [hY]; exact cell_old K1.out
  have K8 : Hid (w2.cell? ⟨w.heap.size + 1, 0, none⟩ = some (.int .i64 A.n)) := by rw [hY]; exact cell_old K2.out
  have K9 : Hid (w2.cell? ⟨w.heap.size + 1, 1, none⟩ = some (.int .i64 A.d)) := by rw [hY]; exact cell_old K3.out
  have K10 : Hid (w2.cell? ⟨w.heap.size + 1 + 1, 0, none⟩ = some (.int .i64 B.n)) := by rw [hY]; exact cell_old K4.out
  have K11 : Hid (w2.cell? ⟨w.heap.size + 1 + 1, 1, none⟩ = some (.int .i64 B.d)) := by rw [hY]; exact cell_old K5.out
  clear K0 K1 K2 K3 K4 K5 hY hr
  have HO9 := HO
  have RB9 := RB
  have k0 : ∀ W, But r w2.heap.size w2 W → W.cell? ⟨w.heap.size, 0, none⟩ = some (.int .i64 L.n) := fun _ h => kbut h K6.out ne0.out
  have k1 : ∀ W, But r w2.heap.size w2 W → W.cell? ⟨w.heap.size, 1, none⟩ = some (.int .i64 L.d) := fun _ h => kbut h K7.out ne0.out
  have k2 : ∀ W, But r w2.heap.size w2 W → W.cell? ⟨w.heap.size + 1, 0, none⟩ = some (.int .i64 A.n) := fun _ h => kbut h K8.out ne1.out
  have k3 : ∀ W, But r w2.heap.size w2 W → W.cell? ⟨w.heap.size + 1, 1, none⟩ = some (.int .i64 A.d) := fun _ h => kbut h K9.out ne1.out
  have k4 : ∀ W, But r w2.heap.size w2 W → W.cell? ⟨w.heap.size + 1 + 1, 0, none⟩ = some (.int .i64 B.n) := fun _ h => kbut h K10.out ne2.out
  have k5 : ∀ W, But r w2.heap.size w2 W → W.cell? ⟨w.heap.size + 1 + 1, 1, none⟩ = some (.int .i64 B.d) := fun _ h => kbut h K11.out ne2.out
  have hR0 : But r w2.heap.size w2 w2 := But.refl _ _ _
  have F0 : flag r (false) w2 := FL.out
  have hn0 : w2.heap.size ≠ r := by omega
  go_wp2_with fail
  go_cut [9] (fun p wx => ∃ k : Nat, p = .pointer (some ⟨k, 0, none⟩) ∧ w2.heap.size ≤ k ∧ k < wx.heap.size ∧ But r w2.heap.size w2 wx ∧ flag r ((false || !ka) || !kb) wx ∧ wx.cell? ⟨k, 0, none⟩ = some (.int .i64 0) ∧ wx.cell? ⟨k, 1, none⟩ = some (.int .i64 a.n) ∧ wx.cell? ⟨k, 2, none⟩ = some (.int .i64 a.d) ∧ wx.cell? ⟨k, 3, none⟩ = some (.int .i64 b.n) ∧ wx.cell? ⟨k, 4, none⟩ = some (.int .i64 b.d) ∧ wx.cell? ⟨k, 5, none⟩ = some (.int .i64 0) ∧ wx.cell? ⟨k, 6, none⟩ = some (.int .i64 0) ∧ wx.cell? ⟨k, 7, none⟩ = some (.bool false) ∧ wx.frozen? ⟨k, 5, none⟩ = false ∧ wx.frozen? ⟨k, 6, none⟩ = false ∧ wx.frozen? ⟨k, 7, none⟩ = false)
  case first =>
    go_region_held3 (fun W => But r w2.heap.size w2 W) ((repeat' (first | (with_reducible exact But.refl _ _ _) | (with_reducible assumption) | (with_reducible refine But.setFlag ?_ _) | (with_reducible refine But.alloc ?_ ?_ _) | (with_reducible refine But.drew ?_) | (with_reducible refine But.setCell ?_ ?_ _) | go_size))) (first | (go_at_call_of 68 A.n; refine Calls.mono (TA.out r _ _ (by (repeat' (first | (with_reducible assumption) | (with_reducible apply flag.set) | (with_reducible apply flag.alloc) | (with_reducible apply flag.drew) | (with_reducible apply flag.setOther) | omega | (simp; omega) | (simp; done))))) ?_; rintro e wz ⟨rfl, hb1, F1⟩; have hs1 := hb1.size; (try simp at hs1); have hR1 : But r w2.heap.size w2 wz := (by refine But.call ?_ hb1 (by go_size); (repeat' (first | (with_reducible exact But.refl _ _ _) | (with_reducible assumption) | (with_reducible refine But.setFlag ?_ _) | (with_reducible refine But.alloc ?_ ?_ _) | (with_reducible refine But.drew ?_) | (with_reducible refine But.setCell ?_ ?_ _) | go_size))); have hn1 : wz.heap.size ≠ r := (by have := hR1.size; omega); (first | (have hZ := But.trans hZ (But.mono hb1 hZ.size)) | (have hZ := hb1)); obtain ⟨ho1, hf1, hz1⟩ := oldsB hZ) | (go_at_call_of 68 B.n; refine Calls.mono (TB.out r _ _ (by (repeat' (first | (with_reducible assumption) | (with_reducible apply flag.set) | (with_reducible apply flag.alloc) | (with_reducible apply flag.drew) | (with_reducible apply flag.setOther) | omega | (simp; omega) | (simp; done))))) ?_; rintro e wz ⟨rfl, hb1, F1⟩; have hs1 := hb1.size; (try simp at hs1); have hR1 : But r w2.heap.size w2 wz := (by refine But.call ?_ hb1 (by go_size); (repeat' (first | (with_reducible exact But.refl _ _ _) | (with_reducible assumption) | (with_reducible refine But.setFlag ?_ _) | (with_reducible refine But.alloc ?_ ?_ _) | (with_reducible refine But.drew ?_) | (with_reducible refine But.setCell ?_ ?_ _) | go_size))); have hn1 : wz.heap.size ≠ r := (by have := hR1.size; omega); (first | (have hZ := But.trans hZ (But.mono hb1 hZ.size)) | (have hZ := hb1)); obtain ⟨ho1, hf1, hz1⟩ := oldsB hZ))
    all_goals
      go_wp2_with fail
      go_meet
      case rel =>
        refine ⟨_, rfl, ?_, ?_, ?_, ?_, ?_, ?_, ?_, ?_, ?_, ?_, ?_, ?_, ?_, ?_, ?_⟩
        · omega
        · simp [World.setCell] <;> omega
        · (repeat' (first | (with_reducible exact But.refl _ _ _) | (with_reducible assumption) | (with_reducible refine But.setFlag ?_ _) | (with_reducible refine But.alloc ?_ ?_ _) | (with_reducible refine But.drew ?_) | (with_reducible refine But.setCell ?_ ?_ _) | go_size))
        · (repeat' (first | (with_reducible assumption) | (with_reducible apply flag.set) | (with_reducible apply flag.alloc) | (with_reducible apply flag.drew) | (with_reducible apply flag.setOther) | omega | (simp; omega) | (simp; done)))
        · go_simp
        · go_simp
        · go_simp
        · go_simp
        · go_simp
        · go_simp
        · go_simp
        · go_simp
        · go_simp
        · go_simp
        · go_simp
  case rest =>
    obtain ⟨b3, rfl, hk1, hk2, hB, hF, d0, d1, d2, d3, d4, d5, d6, d7, d8, d9, d10⟩ := hcut
    clear k0 k1 k2 k3 k4 k5 hR0 F0 hn0
    obtain ⟨w3, hv⟩ : ∃ v, v = wc := ⟨_, rfl⟩
    subst hv
    have HO : Hid (Below w.heap.size w w3) := HO.out.trans ((hB.mono HO.out.size).below hrw)
    have RB : Hid (Blk w3 (w.heap.size + 1 + 1 + 1) #[.int .i64 0, .int .i64 0, .int .i64 0, .int .i64 0, .int .i64 0, .int .i64 0, .int .i64 0, .bool false] 36) := Blk.but RB.out hB neR.out
    have FL : Hid (flag r ((false || !ka) || !kb) w3) := hF
    have nb3 : Hid (b3 ≠ r) := by show b3 ≠ r; omega
    have hrl : r < w3.heap.size := FL.out.lt
    have K12 : Hid (w3.cell? ⟨w.heap.size, 0, none⟩ = some (.int .i64 L.n)) := kbut hB K6.out ne0.out
    have K13 : Hid (w3.cell? ⟨w.heap.size, 1, none⟩ = some (.int .i64 L.d)) := kbut hB K7.out ne0.out
    have K14 : Hid (w3.cell? ⟨w.heap.size + 1, 0, none⟩ = some (.int .i64 A.n)) := kbut hB K8.out ne1.out
    have K15 : Hid (w3.cell? ⟨w.heap.size + 1, 1, none⟩ = some (.int .i64 A.d)) := kbut hB K9.out ne1.out
    have K16 : Hid (w3.cell? ⟨w.heap.size + 1 + 1, 0, none⟩ = some (.int .i64 B.n)) := kbut hB K10.out ne2.out
    have K17 : Hid (w3.cell? ⟨w.heap.size + 1 + 1, 1, none⟩ = some (.int .i64 B.d)) := kbut hB K11.out ne2.out
    clear K6 K7 K8 K9 K10 K11
    have K18 : Hid (w3.cell? ⟨b3, 0, none⟩ = some (.int .i64 0)) := d0
    have K19 : Hid (w3.cell? ⟨b3, 1, none⟩ = some (.int .i64 a.n)) := d1
    have K20 : Hid (w3.cell? ⟨b3, 2, none⟩ = some (.int .i64 a.d)) := d2
    have K21 : Hid (w3.cell? ⟨b3, 3, none⟩ = some (.int .i64 b.n)) := d3
    have K22 : Hid (w3.cell? ⟨b3, 4, none⟩ = some (.int .i64 b.d)) := d4
    have K23 : Hid (w3.cell? ⟨b3, 5, none⟩ = some (.int .i64 0)) := d5
    have K24 : Hid (w3.cell? ⟨b3, 6, none⟩ = some (.int .i64 0)) := d6
    have K25 : Hid (w3.cell? ⟨b3, 7, none⟩ = some (.bool false)) := d7
    have lt_b3 : Hid (b3 < w3.heap.size) := hk2
    have Z26 : Hid (w3.frozen? ⟨b3, 5, none⟩ = false) := d8
    have Z27 : Hid (w3.frozen? ⟨b3, 6, none⟩ = false) := d9
    have Z28 : Hid (w3.frozen? ⟨b3, 7, none⟩ = false) := d10
    have lw_b3 : Hid (w.heap.size ≤ b3) := by show _ ≤ _; have h9 := HO9.out.size; omega
    have nR_b3 : Hid (w.heap.size + 1 + 1 + 1 ≠ b3) := by have h9 := RB9.out.lt; show w.heap.size + 1 + 1 + 1 ≠ b3; omega
    clear hB hF hk1 hk2 d0 d1 d2 d3 d4 d5 d6 d7 d8 d9 d10
    have c6 := K18.out
    have c7 := K19.out
    have c8 := K20.out
    have c9 := K21.out
    have c10 := K22.out
    have c11 := K23.out
    have c12 := K24.out
    have c13 := K25.out
    go_wp2_with fail
    refine Calls.mono (TM.out r _ _ FL.out) ?_
    rintro e w4 ⟨rfl, hb, hF⟩
    clear c6 c7 c8 c9 c10 c11 c12 c13
    have HO : Hid (Below w.heap.size w w4) := HO.out.trans ((hb.mono HO.out.size).below hrw)
    have RB : Hid (Blk w4 (w.heap.size + 1 + 1 + 1) #[.int .i64 0, .int .i64 0, .int .i64 0, .int .i64 0, .int .i64 0, .int .i64 0, .int .i64 0, .bool false] 36) := Blk.but RB.out hb neR.out
    have K29 : Hid (w4.cell? ⟨w.heap.size, 0, none⟩ = some (.int .i64 L.n)) := kbut hb K12.out ne0.out
    have K30 : Hid (w4.cell? ⟨w.heap.size, 1, none⟩ = some (.int .i64 L.d)) := kbut hb K13.out ne0.out
    have K31 : Hid (w4.cell? ⟨w.heap.size + 1, 0, none⟩ = some (.int .i64 A.n)) := kbut hb K14.out ne1.out
    have K32 : Hid (w4.cell? ⟨w.heap.size + 1, 1, none⟩ = some (.int .i64 A.d)) := kbut hb K15.out ne1.out
    have K33 : Hid (w4.cell? ⟨w.heap.size + 1 + 1, 0, none⟩ = some (.int .i64 B.n)) := kbut hb K16.out ne2.out
    have K34 : Hid (w4.cell? ⟨w.heap.size + 1 + 1, 1, none⟩ = some (.int .i64 B.d)) := kbut hb K17.out ne2.out
    have K35 : Hid (w4.cell? ⟨b3, 0, none⟩ = some (.int .i64 0)) := kbut hb K18.out nb3.out
    have K36 : Hid (w4.cell? ⟨b3, 1, none⟩ = some (.int .i64 a.n)) := kbut hb K19.out nb3.out
    have K37 : Hid (w4.cell? ⟨b3, 2, none⟩ = some (.int .i64 a.d)) := kbut hb K20.out nb3.out
    have K38 : Hid (w4.cell? ⟨b3, 3, none⟩ = some (.int .i64 b.n)) := kbut hb K21.out nb3.out
    have K39 : Hid (w4.cell? ⟨b3, 4, none⟩ = some (.int .i64 b.d)) := kbut hb K22.out nb3.out
    have K40 : Hid (w4.cell? ⟨b3, 5, none⟩ = some (.int .i64 0)) := kbut hb K23.out nb3.out
    have K41 : Hid (w4.cell? ⟨b3, 6, none⟩ = some (.int .i64 0)) := kbut hb K24.out nb3.out
    have K42 : Hid (w4.cell? ⟨b3, 7, none⟩ = some (.bool false)) := kbut hb K25.out nb3.out
    clear K12 K13 K14 K15 K16 K17 K18 K19 K20 K21 K22 K23 K24 K25
    have Z43 : Hid (w4.frozen? ⟨b3, 5, none⟩ = false) := (hb.frozen (by simp; have := K35.out; have := lt_b3.out; omega) nb3.out).trans Z26.out
    have Z44 : Hid (w4.frozen? ⟨b3, 6, none⟩ = false) := (hb.frozen (by simp; have := K35.out; have := lt_b3.out; omega) nb3.out).trans Z27.out
    have Z45 : Hid (w4.frozen? ⟨b3, 7, none⟩ = false) := (hb.frozen (by simp; have := K35.out; have := lt_b3.out; omega) nb3.out).trans Z28.out
    clear Z26 Z27 Z28
    have lt_b3 : Hid (b3 < w4.heap.size) := Nat.lt_of_lt_of_le lt_b3.out hb.size
    have FL : Hid (flag r _ w4) := hF
    have hrl : r < w4.heap.size := FL.out.lt
    clear hb hF
    go_upto_region 7 with fail
    obtain ⟨w5, hu⟩ : ∃ W, W = w4.alloc (.cells #[.int .i64 m.n, .int .i64 m.d] 32) := ⟨_, rfl⟩
    have hb2 : Below w4.heap.size w4 w5 := by rw [hu]; exact (Below.refl _ _).alloc (Nat.le_refl _) _
    have hF := FL.out.below hb2 hrl
    have hb := But.of_below (r := r) hb2
    have PB : Blk w5 (w4.heap.size) #[.int .i64 m.n, .int .i64 m.d] 32 := by rw [hu]; exact Blk.new rfl
    obtain ⟨n5, hkk⟩ : ∃ k, k = w4.heap.size := ⟨_, rfl⟩
    rw [← hu, ← hkk]
    rw [← hkk] at PB
    have ne_n5 : Hid (n5 ≠ r) := by show n5 ≠ r; omega
    have nn_b3_n5 : Hid (b3 ≠ n5) := by have := lt_b3.out; show b3 ≠ n5; omega
    have HO : Hid (Below w.heap.size w w5) := HO.out.trans ((hb.mono HO.out.size).below hrw)
    have RB : Hid (Blk w5 (w.heap.size + 1 + 1 + 1) #[.int .i64 0, .int .i64 0, .int .i64 0, .int .i64 0, .int .i64 0, .int .i64 0, .int .i64 0, .bool false] 36) := Blk.but RB.out hb neR.out
    have K46 : Hid (w5.cell? ⟨w.heap.size, 0, none⟩ = some (.int .i64 L.n)) := kbut hb K29.out ne0.out
    have K47 : Hid (w5.cell? ⟨w.heap.size, 1, none⟩ = some (.int .i64 L.d)) := kbut hb K30.out ne0.out
    have K48 : Hid (w5.cell? ⟨w.heap.size + 1, 0, none⟩ = some (.int .i64 A.n)) := kbut hb K31.out ne1.out
    have K49 : Hid (w5.cell? ⟨w.heap.size + 1, 1, none⟩ = some (.int .i64 A.d)) := kbut hb K32.out ne1.out
    have K50 : Hid (w5.cell? ⟨w.heap.size + 1 + 1, 0, none⟩ = some (.int .i64 B.n)) := kbut hb K33.out ne2.out
    have K51 : Hid (w5.cell? ⟨w.heap.size + 1 + 1, 1, none⟩ = some (.int .i64 B.d)) := kbut hb K34.out ne2.out
    have K52 : Hid (w5.cell? ⟨b3, 0, none⟩ = some (.int .i64 0)) := kbut hb K35.out nb3.out
    have K53 : Hid (w5.cell? ⟨b3, 1, none⟩ = some (.int .i64 a.n)) := kbut hb K36.out nb3.out
    have K54 : Hid (w5.cell? ⟨b3, 2, none⟩ = some (.int .i64 a.d)) := kbut hb K37.out nb3.out
    have K55 : Hid (w5.cell? ⟨b3, 3, none⟩ = some (.int .i64 b.n)) := kbut hb K38.out nb3.out
    have K56 : Hid (w5.cell? ⟨b3, 4, none⟩ = some (.int .i64 b.d)) := kbut hb K39.out nb3.out
    have K57 : Hid (w5.cell? ⟨b3, 5, none⟩ = some (.int .i64 0)) := kbut hb K40.out nb3.out
    have K58 : Hid (w5.cell? ⟨b3, 6, none⟩ = some (.int .i64 0)) := kbut hb K41.out nb3.out
    have K59 : Hid (w5.cell? ⟨b3, 7, none⟩ = some (.bool false)) := kbut hb K42.out nb3.out
    clear K29 K30 K31 K32 K33 K34 K35 K36 K37 K38 K39 K40 K41 K42
    have Z60 : Hid (w5.frozen? ⟨b3, 5, none⟩ = false) := (hb.frozen (by simp; have := K52.out; have := lt_b3.out; omega) nb3.out).trans Z43.out
    have Z61 : Hid (w5.frozen? ⟨b3, 6, none⟩ = false) := (hb.frozen (by simp; have := K52.out; have := lt_b3.out; omega) nb3.out).trans Z44.out
    have Z62 : Hid (w5.frozen? ⟨b3, 7, none⟩ = false) := (hb.frozen (by simp; have := K52.out; have := lt_b3.out; omega) nb3.out).trans Z45.out
    clear Z43 Z44 Z45
    have lt_b3 : Hid (b3 < w5.heap.size) := Nat.lt_of_lt_of_le lt_b3.out hb.size
    have K63 : Hid (w5.cell? ⟨n5, 0, none⟩ = some (.int .i64 m.n)) := PB.cell (j := 0) rfl
    have K64 : Hid (w5.cell? ⟨n5, 1, none⟩ = some (.int .i64 m.d)) := PB.cell (j := 1) rfl
    have lt_n5 : Hid (n5 < w5.heap.size) := PB.lt
    have FL : Hid (flag r _ w5) := hF
    have hrl : r < w5.heap.size := FL.out.lt
    clear hu hb hb2 hF PB hkk
    have c14 := K63.out
    have c15 := K64.out
    go_wp2_with fail
    refine Calls.mono (T2.out r _ _ FL.out) ?_
    rintro e w6 ⟨rfl, hb, hF⟩
    clear c14 c15
    have HO : Hid (Below w.heap.size w w6) := HO.out.trans ((hb.mono HO.out.size).below hrw)
    have RB : Hid (Blk w6 (w.heap.size + 1 + 1 + 1) #[.int .i64 0, .int .i64 0, .int .i64 0, .int .i64 0, .int .i64 0, .int .i64 0, .int .i64 0, .bool false] 36) := Blk.but RB.out hb neR.out
    have K65 : Hid (w6.cell? ⟨w.heap.size, 0, none⟩ = some (.int .i64 L.n)) := kbut hb K46.out ne0.out
    have K66 : Hid (w6.cell? ⟨w.heap.size, 1, none⟩ = some (.int .i64 L.d)) := kbut hb K47.out ne0.out
    have K67 : Hid (w6.cell? ⟨w.heap.size + 1, 0, none⟩ = some (.int .i64 A.n)) := kbut hb K48.out ne1.out
    have K68 : Hid (w6.cell? ⟨w.heap.size + 1, 1, none⟩ = some (.int .i64 A.d)) := kbut hb K49.out ne1.out
    have K69 : Hid (w6.cell? ⟨w.heap.size + 1 + 1, 0, none⟩ = some (.int .i64 B.n)) := kbut hb K50.out ne2.out
    have K70 : Hid (w6.cell? ⟨w.heap.size + 1 + 1, 1, none⟩ = some (.int .i64 B.d)) := kbut hb K51.out ne2.out
    have K71 : Hid (w6.cell? ⟨b3, 0, none⟩ = some (.int .i64 0)) := kbut hb K52.out nb3.out
    have K72 : Hid (w6.cell? ⟨b3, 1, none⟩ = some (.int .i64 a.n)) := kbut hb K53.out nb3.out
    have K73 : Hid (w6.cell? ⟨b3, 2, none⟩ = some (.int .i64 a.d)) := kbut hb K54.out nb3.out
    have K74 : Hid (w6.cell? ⟨b3, 3, none⟩ = some (.int .i64 b.n)) := kbut hb K55.out nb3.out
    have K75 : Hid (w6.cell? ⟨b3, 4, none⟩ = some (.int .i64 b.d)) := kbut hb K56.out nb3.out
    have K76 : Hid (w6.cell? ⟨b3, 5, none⟩ = some (.int .i64 0)) := kbut hb K57.out nb3.out
    have K77 : Hid (w6.cell? ⟨b3, 6, none⟩ = some (.int .i64 0)) := kbut hb K58.out nb3.out
    have K78 : Hid (w6.cell? ⟨b3, 7, none⟩ = some (.bool false)) := kbut hb K59.out nb3.out
    have K79 : Hid (w6.cell? ⟨n5, 0, none⟩ = some (.int .i64 m.n)) := kbut hb K63.out ne_n5.out
    have K80 : Hid (w6.cell? ⟨n5, 1, none⟩ = some (.int .i64 m.d)) := kbut hb K64.out ne_n5.out
    clear K46 K47 K48 K49 K50 K51 K52 K53 K54 K55 K56 K57 K58 K59 K63 K64
    have Z81 : Hid (w6.frozen? ⟨b3, 5, none⟩ = false) := (hb.frozen (by simp; have := K71.out; have := lt_b3.out; omega) nb3.out).trans Z60.out
    have Z82 : Hid (w6.frozen? ⟨b3, 6, none⟩ = false) := (hb.frozen (by simp; have := K71.out; have := lt_b3.out; omega) nb3.out).trans Z61.out
    have Z83 : Hid (w6.frozen? ⟨b3, 7, none⟩ = false) := (hb.frozen (by simp; have := K71.out; have := lt_b3.out; omega) nb3.out).trans Z62.out
    clear Z60 Z61 Z62
    have lt_b3 : Hid (b3 < w6.heap.size) := Nat.lt_of_lt_of_le lt_b3.out hb.size
    have lt_n5 : Hid (n5 < w6.heap.size) := Nat.lt_of_lt_of_le lt_n5.out hb.size
    have FL : Hid (flag r _ w6) := hF
    have hrl : r < w6.heap.size := FL.out.lt
    clear hb hF
    go_wp2_with fail
    refine Calls.mono (TI.out _) ?_
    rintro e w7 ⟨rfl, hb2⟩
    have hF := FL.out.below hb2 hrl
    have hb := But.of_below (r := r) hb2
    have HO : Hid (Below w.heap.size w w7) := HO.out.trans ((hb.mono HO.out.size).below hrw)
    have RB : Hid (Blk w7 (w.heap.size + 1 + 1 + 1) #[.int .i64 0, .int .i64 0, .int .i64 0, .int .i64 0, .int .i64 0, .int .i64 0, .int .i64 0, .bool false] 36) := Blk.but RB.out hb neR.out
    have K84 : Hid (w7.cell? ⟨w.heap.size, 0, none⟩ = some (.int .i64 L.n)) := kbut hb K65.out ne0.out
    have K85 : Hid (w7.cell? ⟨w.heap.size, 1, none⟩ = some (.int .i64 L.d)) := kbut hb K66.out ne0.out
    have K86 : Hid (w7.cell? ⟨w.heap.size + 1, 0, none⟩ = some (.int .i64 A.n)) := kbut hb K67.out ne1.out
    have K87 : Hid (w7.cell? ⟨w.heap.size + 1, 1, none⟩ = some (.int .i64 A.d)) := kbut hb K68.out ne1.out
    have K88 : Hid (w7.cell? ⟨w.heap.size + 1 + 1, 0, none⟩ = some (.int .i64 B.n)) := kbut hb K69.out ne2.out
    have K89 : Hid (w7.cell? ⟨w.heap.size + 1 + 1, 1, none⟩ = some (.int .i64 B.d)) := kbut hb K70.out ne2.out
    have K90 : Hid (w7.cell? ⟨b3, 0, none⟩ = some (.int .i64 0)) := kbut hb K71.out nb3.out
    have K91 : Hid (w7.cell? ⟨b3, 1, none⟩ = some (.int .i64 a.n)) := kbut hb K72.out nb3.out
    have K92 : Hid (w7.cell? ⟨b3, 2, none⟩ = some (.int .i64 a.d)) := kbut hb K73.out nb3.out
    have K93 : Hid (w7.cell? ⟨b3, 3, none⟩ = some (.int .i64 b.n)) := kbut hb K74.out nb3.out
    have K94 : Hid (w7.cell? ⟨b3, 4, none⟩ = some (.int .i64 b.d)) := kbut hb K75.out nb3.out
    have K95 : Hid (w7.cell? ⟨b3, 5, none⟩ = some (.int .i64 0)) := kbut hb K76.out nb3.out
    have K96 : Hid (w7.cell? ⟨b3, 6, none⟩ = some (.int .i64 0)) := kbut hb K77.out nb3.out
    have K97 : Hid (w7.cell? ⟨b3, 7, none⟩ = some (.bool false)) := kbut hb K78.out nb3.out
    have K98 : Hid (w7.cell? ⟨n5, 0, none⟩ = some (.int .i64 m.n)) := kbut hb K79.out ne_n5.out
    have K99 : Hid (w7.cell? ⟨n5, 1, none⟩ = some (.int .i64 m.d)) := kbut hb K80.out ne_n5.out
    clear K65 K66 K67 K68 K69 K70 K71 K72 K73 K74 K75 K76 K77 K78 K79 K80
    have Z100 : Hid (w7.frozen? ⟨b3, 5, none⟩ = false) := (hb.frozen (by simp; have := K90.out; have := lt_b3.out; omega) nb3.out).trans Z81.out
    have Z101 : Hid (w7.frozen? ⟨b3, 6, none⟩ = false) := (hb.frozen (by simp; have := K90.out; have := lt_b3.out; omega) nb3.out).trans Z82.out
    have Z102 : Hid (w7.frozen? ⟨b3, 7, none⟩ = false) := (hb.frozen (by simp; have := K90.out; have := lt_b3.out; omega) nb3.out).trans Z83.out
    clear Z81 Z82 Z83
    have lt_b3 : Hid (b3 < w7.heap.size) := Nat.lt_of_lt_of_le lt_b3.out hb.size
    have lt_n5 : Hid (n5 < w7.heap.size) := Nat.lt_of_lt_of_le lt_n5.out hb.size
    have FL : Hid (flag r _ w7) := hF
    have hrl : r < w7.heap.size := FL.out.lt
    clear hb hb2 hF
    go_wp2_with fail
    refine Calls.mono (T3.out r _ _ FL.out) ?_
    rintro e w8 ⟨rfl, hb, hF⟩
    have HO : Hid (Below w.heap.size w w8) := HO.out.trans ((hb.mono HO.out.size).below hrw)
    have RB : Hid (Blk w8 (w.heap.size + 1 + 1 + 1) #[.int .i64 0, .int .i64 0, .int .i64 0, .int .i64 0, .int .i64 0, .int .i64 0, .int .i64 0, .bool false] 36) := Blk.but RB.out hb neR.out
    have K103 : Hid (w8.cell? ⟨w.heap.size, 0, none⟩ = some (.int .i64 L.n)) := kbut hb K84.out ne0.out
    have K104 : Hid (w8.cell? ⟨w.heap.size, 1, none⟩ = some (.int .i64 L.d)) := kbut hb K85.out ne0.out
    have K105 : Hid (w8.cell? ⟨w.heap.size + 1, 0, none⟩ = some (.int .i64 A.n)) := kbut hb K86.out ne1.out
    have K106 : Hid (w8.cell? ⟨w.heap.size + 1, 1, none⟩ = some (.int .i64 A.d)) := kbut hb K87.out ne1.out
    have K107 : Hid (w8.cell? ⟨w.heap.size + 1 + 1, 0, none⟩ = some (.int .i64 B.n)) := kbut hb K88.out ne2.out
    have K108 : Hid (w8.cell? ⟨w.heap.size + 1 + 1, 1, none⟩ = some (.int .i64 B.d)) := kbut hb K89.out ne2.out
    have K109 : Hid (w8.cell? ⟨b3, 0, none⟩ = some (.int .i64 0)) := kbut hb K90.out nb3.out
    have K110 : Hid (w8.cell? ⟨b3, 1, none⟩ = some (.int .i64 a.n)) := kbut hb K91.out nb3.out
    have K111 : Hid (w8.cell? ⟨b3, 2, none⟩ = some (.int .i64 a.d)) := kbut hb K92.out nb3.out
    have K112 : Hid (w8.cell? ⟨b3, 3, none⟩ = some (.int .i64 b.n)) := kbut hb K93.out nb3.out
    have K113 : Hid (w8.cell? ⟨b3, 4, none⟩ = some (.int .i64 b.d)) := kbut hb K94.out nb3.out
    have K114 : Hid (w8.cell? ⟨b3, 5, none⟩ = some (.int .i64 0)) := kbut hb K95.out nb3.out
    have K115 : Hid (w8.cell? ⟨b3, 6, none⟩ = some (.int .i64 0)) := kbut hb K96.out nb3.out
    have K116 : Hid (w8.cell? ⟨b3, 7, none⟩ = some (.bool false)) := kbut hb K97.out nb3.out
    have K117 : Hid (w8.cell? ⟨n5, 0, none⟩ = some (.int .i64 m.n)) := kbut hb K98.out ne_n5.out
    have K118 : Hid (w8.cell? ⟨n5, 1, none⟩ = some (.int .i64 m.d)) := kbut hb K99.out ne_n5.out
    clear K84 K85 K86 K87 K88 K89 K90 K91 K92 K93 K94 K95 K96 K97 K98 K99
    have Z119 : Hid (w8.frozen? ⟨b3, 5, none⟩ = false) := (hb.frozen (by simp; have := K109.out; have := lt_b3.out; omega) nb3.out).trans Z100.out
    have Z120 : Hid (w8.frozen? ⟨b3, 6, none⟩ = false) := (hb.frozen (by simp; have := K109.out; have := lt_b3.out; omega) nb3.out).trans Z101.out
    have Z121 : Hid (w8.frozen? ⟨b3, 7, none⟩ = false) := (hb.frozen (by simp; have := K109.out; have := lt_b3.out; omega) nb3.out).trans Z102.out
    clear Z100 Z101 Z102
    have lt_b3 : Hid (b3 < w8.heap.size) := Nat.lt_of_lt_of_le lt_b3.out hb.size
    have lt_n5 : Hid (n5 < w8.heap.size) := Nat.lt_of_lt_of_le lt_n5.out hb.size
    have FL : Hid (flag r _ w8) := hF
    have hrl : r < w8.heap.size := FL.out.lt
    clear hb hF
    have c6 := K109.out
    have c7 := K110.out
    have c8 := K111.out
    have c9 := K112.out
    have c10 := K113.out
    have c11 := K114.out
    have c12 := K115.out
    have c13 := K116.out
    have c14 := K117.out
    have c15 := K118.out
    have r0 := RB.out.cell (j := 0) rfl
    have r1 := RB.out.cell (j := 1) rfl
    have r2 := RB.out.cell (j := 2) rfl
    have r3 := RB.out.cell (j := 3) rfl
    have r4 := RB.out.cell (j := 4) rfl
    have r5 := RB.out.cell (j := 5) rfl
    have r6 := RB.out.cell (j := 6) rfl
    have r7 := RB.out.cell (j := 7) rfl
    have rf := RB.out.frozen
    have z5 := Z119.out
    have z6 := Z120.out
    have z7 := Z121.out
    go_upto_region 8 with fail
    obtain ⟨w9, hu⟩ : ∃ W, W = (w8.setCell ⟨b3, 5, none⟩ (.int .i64 f.n)).setCell ⟨b3, 6, none⟩ (.int .i64 f.d) := ⟨_, rfl⟩
    have hb : But b3 w8.heap.size w8 w9 := by rw [hu]; exact ((But.refl _ _ _).setFlag _).setFlag _
    have hsz : w9.heap.size = w8.heap.size := by rw [hu]; simp
    have hF : flag r (((((false || !ka) || !kb) || !km) || !k2) || !k3) w9 := by rw [hu]; exact (FL.out.setOther (by have := nb3.out; simp; omega) _).setOther (by have := nb3.out; simp; omega) _
    have K128 : Hid (w9.cell? ⟨b3, 0, none⟩ = some (.int .i64 0)) := by show _ = _; rw [hu]; go_simp
    have K129 : Hid (w9.cell? ⟨b3, 1, none⟩ = some (.int .i64 a.n)) := by show _ = _; rw [hu]; go_simp
    have K130 : Hid (w9.cell? ⟨b3, 2, none⟩ = some (.int .i64 a.d)) := by show _ = _; rw [hu]; go_simp
    have K131 : Hid (w9.cell? ⟨b3, 3, none⟩ = some (.int .i64 b.n)) := by show _ = _; rw [hu]; go_simp
    have K132 : Hid (w9.cell? ⟨b3, 4, none⟩ = some (.int .i64 b.d)) := by show _ = _; rw [hu]; go_simp
    have K133 : Hid (w9.cell? ⟨b3, 5, none⟩ = some (.int .i64 f.n)) := by show _ = _; rw [hu]; go_simp
    have K134 : Hid (w9.cell? ⟨b3, 6, none⟩ = some (.int .i64 f.d)) := by show _ = _; rw [hu]; go_simp
    have K135 : Hid (w9.cell? ⟨b3, 7, none⟩ = some (.bool false)) := by show _ = _; rw [hu]; go_simp
    have K136 : Hid (w9.cell? ⟨n5, 0, none⟩ = some (.int .i64 m.n)) := kbut hb K117.out (Ne.symm nn_b3_n5.out)
    have K137 : Hid (w9.cell? ⟨n5, 1, none⟩ = some (.int .i64 m.d)) := kbut hb K118.out (Ne.symm nn_b3_n5.out)
    have z7n : Hid (w9.frozen? ⟨b3, 7, none⟩ = false) := by show _ = _; rw [hu]; go_simp
    rw [← hu]
    clear c6 c7 c8 c9 c10 c11 c12 c13 c14 c15 r0 r1 r2 r3 r4 r5 r6 r7 rf
    clear hu z5 z6 z7 K103 K104 K105 K106 K107 K108 K109 K110 K111 K112 K113 K114 K115 K116 K117 K118 Z119 Z120 Z121
    have lw : w.heap.size ≤ b3 := lw_b3.out
    have HO : Hid (Below w.heap.size w w9) := HO.out.trans ((hb.mono HO.out.size).below lw)
    have RB : Hid (Blk w9 (w.heap.size + 1 + 1 + 1) #[.int .i64 0, .int .i64 0, .int .i64 0, .int .i64 0, .int .i64 0, .int .i64 0, .int .i64 0, .bool false] 36) := Blk.but RB.out hb nR_b3.out
    have lt_b3 : Hid (b3 < w9.heap.size) := by have := lt_b3.out; show b3 < _; omega
    have lt_n5 : Hid (n5 < w9.heap.size) := by have := lt_n5.out; show n5 < _; omega
    have FL : Hid (flag r _ w9) := hF
    clear hb hF hsz
    have hFc := FL.out.cell
    rw [hfl] at hFc
    go_upto_region 10 with fail
    have k8 : ∀ x : Kept w9.heap.size w9, x.w.cell? ⟨n5, 0, none⟩ = some (.int .i64 m.n) := fun x => x.cell (World.block_lt_of_cell? _ _ K136.out) K136.out
    have k9 : ∀ x : Kept w9.heap.size w9, x.w.cell? ⟨n5, 1, none⟩ = some (.int .i64 m.d) := fun x => x.cell (World.block_lt_of_cell? _ _ K137.out) K137.out
    refine wp_region_last' w9.heap.size (by kernel_rfl) rfl rfl (by kernel_rfl) (lastOk_of (by kernel_rfl)) ?_
    intro hne
    dsimp only [List.dropLast]
    repeat (go_big_quiet_step (first | (go_at_call 72; with_reducible exact Calls.kept_of (Nat.le_refl _) (TZ.out _)) | (go_at_call 72; with_reducible exact Calls.kept_of (Nat.le_refl _) (TI.out _)) | (go_at_call 73; with_reducible exact Calls.kept_of (Nat.le_refl _) (C0.out _)) | (go_at_call 73; with_reducible exact Calls.kept_of (Nat.le_refl _) (C1.out _))))
    refine wpQuiet_nil ?_
    rintro w10 ⟨xk, hxk⟩
    have hB := xk.h
    rw [← hxk] at hB
    clear hxk xk hne k8 k9
    have HO : Hid (Below w.heap.size w w10) := HO.out.trans (hB.mono HO.out.size)
    have RB : Hid (Blk w10 (w.heap.size + 1 + 1 + 1) #[.int .i64 0, .int .i64 0, .int .i64 0, .int .i64 0, .int .i64 0, .int .i64 0, .int .i64 0, .bool false] 36) := Blk.old RB.out hB
    have K138 : Hid (w10.cell? ⟨b3, 0, none⟩ = some (.int .i64 0)) := kold hB K128.out
    have K139 : Hid (w10.cell? ⟨b3, 1, none⟩ = some (.int .i64 a.n)) := kold hB K129.out
    have K140 : Hid (w10.cell? ⟨b3, 2, none⟩ = some (.int .i64 a.d)) := kold hB K130.out
    have K141 : Hid (w10.cell? ⟨b3, 3, none⟩ = some (.int .i64 b.n)) := kold hB K131.out
    have K142 : Hid (w10.cell? ⟨b3, 4, none⟩ = some (.int .i64 b.d)) := kold hB K132.out
    have K143 : Hid (w10.cell? ⟨b3, 5, none⟩ = some (.int .i64 f.n)) := kold hB K133.out
    have K144 : Hid (w10.cell? ⟨b3, 6, none⟩ = some (.int .i64 f.d)) := kold hB K134.out
    have K145 : Hid (w10.cell? ⟨b3, 7, none⟩ = some (.bool false)) := kold hB K135.out
    have z7 : w10.frozen? ⟨b3, 7, none⟩ = false := (hB.frozen (p := ⟨b3, 7, none⟩) (by simpa using lt_b3.out)).trans z7n.out
    have qn := nR_b3.out
    have qn2 := Ne.symm nR_b3.out
    clear hB K128 K129 K130 K131 K132 K133 K134 K135 K136 K137
    have c0 := K138.out
    have c1 := K139.out
    have c2 := K140.out
    have c3 := K141.out
    have c4 := K142.out
    have c5 := K143.out
    have c6 := K144.out
    have c7 := K145.out
    have r0 := RB.out.cell (j := 0) rfl
    have r1 := RB.out.cell (j := 1) rfl
    have r2 := RB.out.cell (j := 2) rfl
    have r3 := RB.out.cell (j := 3) rfl
    have r4 := RB.out.cell (j := 4) rfl
    have r5 := RB.out.cell (j := 5) rfl
    have r6 := RB.out.cell (j := 6) rfl
    have r7 := RB.out.cell (j := 7) rfl
    have rf := RB.out.frozen
    repeat go_step
    refine bodyPost_ret (v := .agg #[.int .i64 0, .int .i64 a.n, .int .i64 a.d, .int .i64 b.n, .int .i64 b.d, .int .i64 f.n, .int .i64 f.d, .bool false]) (by simp [results, Try.results20, go_sem, r0, r1, r2, r3, r4, r5, r6, r7, World.cell?_alloc_lt, RB.out.lt] <;> (repeat' (first | rfl | apply And.intro))) rfl ⟨rfl, ?_⟩
    have h := HO.out
    have hlt := RB.out.lt
    have hsz := h.size
    go_grown
end Go.Proofs.Ytkkajcdjkfbcgaa
