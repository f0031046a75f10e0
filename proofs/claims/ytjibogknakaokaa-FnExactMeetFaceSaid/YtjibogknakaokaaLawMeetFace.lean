/- At every face and ray the program's MeetFace answers the code, steps, length, point and normal that the specification tells, float by float, all NaNs being one; nothing that was there is changed. -/
import Derived.Test.YtjibogknakaokaaOp
import Derived.Test.YtjibogknakaokaaMs
import Derived.Test.YtjibogknakaokaaMi
import Derived.Test.YtjibogknakaokaaEq
import Derived.Handy
import Derived.Deep.RegionHeld3
import Derived.Deep.DeepCutAuto
namespace Go.Proofs.Ytjibogknakaokaa.LawMeetFace
open Go.ChangeShapes Go.WideShapes Go.ChangeAt Go.RowKit Go.Joins Fl
set_option linter.unusedVariables false

set_option maxRecDepth 100000 in
set_option maxHeartbeats 6400000 in
theorem walk {g r : Nat → Nat} {G A : Nat → Option Nat} (hg : Gc g G) (ha : Rc r A) (w : World) : Calls Try.prog 7 #[Gv g, Rv r] w fun e w' => e = .returned (.bool true) ∧ Below w.heap.size w w' := by
  have H : Hid (Gc g G ∧ Rc r A) := ⟨hg, ha⟩
  clear hg ha
  have hst := st64
  go_enter Try.func7, Try.ntmps7
  have HO : Hid (Below w.heap.size w w) := Below.refl _ _
  go_upto_region 1 with fail
  obtain ⟨v1, hv⟩ : ∃ Xw, Xw = ((w.alloc (.cells #[.float .f64 (g 0), .float .f64 (g 1), .float .f64 (g 2), .float .f64 (g 3), .float .f64 (g 4)] 53)).alloc (.cells #[.float .f64 (r 0), .float .f64 (r 1), .float .f64 (r 2), .float .f64 (r 3), .float .f64 (r 4), .float .f64 (r 5)] 61)) := ⟨_, rfl⟩
  rw [← hv]
  have ne_g_r : Hid (w.heap.size ≠ w.heap.size + 1) := by show (w.heap.size : Nat) ≠ w.heap.size + 1; omega
  have B_g : Hid (Blk v1 (w.heap.size) #[.float .f64 (g 0), .float .f64 (g 1), .float .f64 (g 2), .float .f64 (g 3), .float .f64 (g 4)] 53) := by show Blk v1 (w.heap.size) _ _; rw [hv]; exact (Blk.alloc (Blk.new (by simp)) _)
  have low_g : Hid (w.heap.size ≤ w.heap.size) := by show w.heap.size ≤ w.heap.size; have := HO.out.size; omega
  have B_r : Hid (Blk v1 (w.heap.size + 1) #[.float .f64 (r 0), .float .f64 (r 1), .float .f64 (r 2), .float .f64 (r 3), .float .f64 (r 4), .float .f64 (r 5)] 61) := by show Blk v1 (w.heap.size + 1) _ _; rw [hv]; exact (Blk.new (by simp))
  have low_r : Hid (w.heap.size ≤ w.heap.size + 1) := by show w.heap.size ≤ w.heap.size + 1; have := HO.out.size; omega
  replace HO : Hid (Below w.heap.size w v1) := by show Below w.heap.size w v1; rw [hv]; exact (below_new (below_new HO.out _) _)
  clear hv
  have k_g_0 : ∀ W, Below v1.heap.size v1 W → W.cell? ⟨w.heap.size, 0, none⟩ = some (.float .f64 (g 0)) := fun _ h => kold h (B_g.out.cell (j := 0) rfl)
  have k_g_1 : ∀ W, Below v1.heap.size v1 W → W.cell? ⟨w.heap.size, 1, none⟩ = some (.float .f64 (g 1)) := fun _ h => kold h (B_g.out.cell (j := 1) rfl)
  have k_g_2 : ∀ W, Below v1.heap.size v1 W → W.cell? ⟨w.heap.size, 2, none⟩ = some (.float .f64 (g 2)) := fun _ h => kold h (B_g.out.cell (j := 2) rfl)
  have k_g_3 : ∀ W, Below v1.heap.size v1 W → W.cell? ⟨w.heap.size, 3, none⟩ = some (.float .f64 (g 3)) := fun _ h => kold h (B_g.out.cell (j := 3) rfl)
  have k_g_4 : ∀ W, Below v1.heap.size v1 W → W.cell? ⟨w.heap.size, 4, none⟩ = some (.float .f64 (g 4)) := fun _ h => kold h (B_g.out.cell (j := 4) rfl)
  have k_r_0 : ∀ W, Below v1.heap.size v1 W → W.cell? ⟨w.heap.size + 1, 0, none⟩ = some (.float .f64 (r 0)) := fun _ h => kold h (B_r.out.cell (j := 0) rfl)
  have k_r_1 : ∀ W, Below v1.heap.size v1 W → W.cell? ⟨w.heap.size + 1, 1, none⟩ = some (.float .f64 (r 1)) := fun _ h => kold h (B_r.out.cell (j := 1) rfl)
  have k_r_2 : ∀ W, Below v1.heap.size v1 W → W.cell? ⟨w.heap.size + 1, 2, none⟩ = some (.float .f64 (r 2)) := fun _ h => kold h (B_r.out.cell (j := 2) rfl)
  have k_r_3 : ∀ W, Below v1.heap.size v1 W → W.cell? ⟨w.heap.size + 1, 3, none⟩ = some (.float .f64 (r 3)) := fun _ h => kold h (B_r.out.cell (j := 3) rfl)
  have k_r_4 : ∀ W, Below v1.heap.size v1 W → W.cell? ⟨w.heap.size + 1, 4, none⟩ = some (.float .f64 (r 4)) := fun _ h => kold h (B_r.out.cell (j := 4) rfl)
  have k_r_5 : ∀ W, Below v1.heap.size v1 W → W.cell? ⟨w.heap.size + 1, 5, none⟩ = some (.float .f64 (r 5)) := fun _ h => kold h (B_r.out.cell (j := 5) rfl)
  have hR0 : Below v1.heap.size v1 v1 := Below.refl _ _
  go_wp2_with fail
  go_cut [5] (fun p wx => ∃ (kx : Nat) (l : Nat) (a : Nat → Nat) (b : Nat → Nat), p = .pointer (some ⟨kx, 0, none⟩) ∧ v1.heap.size ≤ kx ∧ kx < wx.heap.size ∧ Below v1.heap.size v1 wx ∧ (Hc l a b (hOf (meetC G A))) ∧ wx.cell? ⟨kx, 0, none⟩ = some (.int .i64 (codeOf (meetC G A))) ∧ wx.cell? ⟨kx, 1, none⟩ = some (.int .i64 (hOf (meetC G A)).steps) ∧ wx.cell? ⟨kx, 2, none⟩ = some (.float .f64 l) ∧ wx.cell? ⟨kx, 3, none⟩ = some (.float .f64 (a 0)) ∧ wx.cell? ⟨kx, 4, none⟩ = some (.float .f64 (a 1)) ∧ wx.cell? ⟨kx, 5, none⟩ = some (.float .f64 (a 2)) ∧ wx.cell? ⟨kx, 6, none⟩ = some (.float .f64 (a 3)) ∧ wx.cell? ⟨kx, 7, none⟩ = some (.float .f64 (a 4)) ∧ wx.cell? ⟨kx, 8, none⟩ = some (.float .f64 (a 5)) ∧ wx.cell? ⟨kx, 9, none⟩ = some (.float .f64 (b 0)) ∧ wx.cell? ⟨kx, 10, none⟩ = some (.float .f64 (b 1)) ∧ wx.cell? ⟨kx, 11, none⟩ = some (.float .f64 (b 2)) ∧ wx.cell? ⟨kx, 12, none⟩ = some (.float .f64 (b 3)) ∧ wx.cell? ⟨kx, 13, none⟩ = some (.float .f64 (b 4)) ∧ wx.cell? ⟨kx, 14, none⟩ = some (.float .f64 (b 5)))
  case first =>
    go_region_held (fun W => Below v1.heap.size v1 W) (go_grown) (first | (go_at_call 30; refine (toFace_any _ _).mono ?_; rintro e wz ⟨rfl, hb1⟩; have hs1 := hb1.size; (try simp at hs1); have hR1 : Below v1.heap.size v1 wz := (by refine box_step ?_ hb1 (by go_size); go_grown); (first | (have hZ := box_step hZ hb1 (Nat.le_refl _)) | (have hZ := hb1)); obtain ⟨ho1, hf1, hz1⟩ := olds hZ) | (go_at_call 34; refine (toRay_any _ _).mono ?_; rintro e wz ⟨rfl, hb1⟩; have hs1 := hb1.size; (try simp at hs1); have hR1 : Below v1.heap.size v1 wz := (by refine box_step ?_ hb1 (by go_size); go_grown); (first | (have hZ := box_step hZ hb1 (Nat.le_refl _)) | (have hZ := hb1)); obtain ⟨ho1, hf1, hz1⟩ := olds hZ) | (go_at_call 33; refine (sMeet_any H.out.1 H.out.2 _).mono ?_; rintro e wz ⟨zl, za, zb, rfl, hza, hb1⟩; have hs1 := hb1.size; (try simp at hs1); have hR1 : Below v1.heap.size v1 wz := (by refine box_step ?_ hb1 (by go_size); go_grown); (first | (have hZ := box_step hZ hb1 (Nat.le_refl _)) | (have hZ := hb1)); obtain ⟨ho1, hf1, hz1⟩ := olds hZ))
    all_goals
      go_wp2_with fail
      go_meet
      case rel =>
        refine ⟨_, _, _, _, rfl, ?_, ?_, ?_, hza, ?_, ?_, ?_, ?_, ?_, ?_, ?_, ?_, ?_, ?_, ?_, ?_, ?_, ?_, ?_⟩
        · omega
        · simp [World.setCell] <;> omega
        · go_grown
        · first | (go_simp; done) | (simp [*]; done)
        · first | (go_simp; done) | (simp [*]; done)
        · first | (go_simp; done) | (simp [*]; done)
        · first | (go_simp; done) | (simp [*]; done)
        · first | (go_simp; done) | (simp [*]; done)
        · first | (go_simp; done) | (simp [*]; done)
        · first | (go_simp; done) | (simp [*]; done)
        · first | (go_simp; done) | (simp [*]; done)
        · first | (go_simp; done) | (simp [*]; done)
        · first | (go_simp; done) | (simp [*]; done)
        · first | (go_simp; done) | (simp [*]; done)
        · first | (go_simp; done) | (simp [*]; done)
        · first | (go_simp; done) | (simp [*]; done)
        · first | (go_simp; done) | (simp [*]; done)
        · first | (go_simp; done) | (simp [*]; done)
  case rest =>
    obtain ⟨k3, lk3, ak3, bk3, rfl, hk1, hk2, hB, P_s, d0, d1, d2, d3, d4, d5, d6, d7, d8, d9, d10, d11, d12, d13, d14⟩ := hcut
    clear k_g_0 k_g_1 k_g_2 k_g_3 k_g_4 k_r_0 k_r_1 k_r_2 k_r_3 k_r_4 k_r_5 hR0
    replace P_s : Hid _ := P_s
    obtain ⟨v2, hv⟩ : ∃ v, v = wc := ⟨_, rfl⟩
    subst hv
    replace HO : Hid (Below w.heap.size w v2) := HO.out.trans (hB.mono HO.out.size)
    replace B_g : Hid (Blk v2 (w.heap.size) #[.float .f64 (g 0), .float .f64 (g 1), .float .f64 (g 2), .float .f64 (g 3), .float .f64 (g 4)] 53) := Blk.old B_g.out hB
    replace B_r : Hid (Blk v2 (w.heap.size + 1) #[.float .f64 (r 0), .float .f64 (r 1), .float .f64 (r 2), .float .f64 (r 3), .float .f64 (r 4), .float .f64 (r 5)] 61) := Blk.old B_r.out hB
    have C_s_0 : Hid (v2.cell? ⟨k3, 0, none⟩ = some (.int .i64 (codeOf (meetC G A)))) := d0
    have C_s_1 : Hid (v2.cell? ⟨k3, 1, none⟩ = some (.int .i64 (hOf (meetC G A)).steps)) := d1
    have C_s_2 : Hid (v2.cell? ⟨k3, 2, none⟩ = some (.float .f64 lk3)) := d2
    have C_s_3 : Hid (v2.cell? ⟨k3, 3, none⟩ = some (.float .f64 (ak3 0))) := d3
    have C_s_4 : Hid (v2.cell? ⟨k3, 4, none⟩ = some (.float .f64 (ak3 1))) := d4
    have C_s_5 : Hid (v2.cell? ⟨k3, 5, none⟩ = some (.float .f64 (ak3 2))) := d5
    have C_s_6 : Hid (v2.cell? ⟨k3, 6, none⟩ = some (.float .f64 (ak3 3))) := d6
    have C_s_7 : Hid (v2.cell? ⟨k3, 7, none⟩ = some (.float .f64 (ak3 4))) := d7
    have C_s_8 : Hid (v2.cell? ⟨k3, 8, none⟩ = some (.float .f64 (ak3 5))) := d8
    have C_s_9 : Hid (v2.cell? ⟨k3, 9, none⟩ = some (.float .f64 (bk3 0))) := d9
    have C_s_10 : Hid (v2.cell? ⟨k3, 10, none⟩ = some (.float .f64 (bk3 1))) := d10
    have C_s_11 : Hid (v2.cell? ⟨k3, 11, none⟩ = some (.float .f64 (bk3 2))) := d11
    have C_s_12 : Hid (v2.cell? ⟨k3, 12, none⟩ = some (.float .f64 (bk3 3))) := d12
    have C_s_13 : Hid (v2.cell? ⟨k3, 13, none⟩ = some (.float .f64 (bk3 4))) := d13
    have C_s_14 : Hid (v2.cell? ⟨k3, 14, none⟩ = some (.float .f64 (bk3 5))) := d14
    clear hB hk1 hk2 d0 d1 d2 d3 d4 d5 d6 d7 d8 d9 d10 d11 d12 d13 d14
    have k_g_0 : ∀ W, Below v2.heap.size v2 W → W.cell? ⟨w.heap.size, 0, none⟩ = some (.float .f64 (g 0)) := fun _ h => kold h (B_g.out.cell (j := 0) rfl)
    have k_g_1 : ∀ W, Below v2.heap.size v2 W → W.cell? ⟨w.heap.size, 1, none⟩ = some (.float .f64 (g 1)) := fun _ h => kold h (B_g.out.cell (j := 1) rfl)
    have k_g_2 : ∀ W, Below v2.heap.size v2 W → W.cell? ⟨w.heap.size, 2, none⟩ = some (.float .f64 (g 2)) := fun _ h => kold h (B_g.out.cell (j := 2) rfl)
    have k_g_3 : ∀ W, Below v2.heap.size v2 W → W.cell? ⟨w.heap.size, 3, none⟩ = some (.float .f64 (g 3)) := fun _ h => kold h (B_g.out.cell (j := 3) rfl)
    have k_g_4 : ∀ W, Below v2.heap.size v2 W → W.cell? ⟨w.heap.size, 4, none⟩ = some (.float .f64 (g 4)) := fun _ h => kold h (B_g.out.cell (j := 4) rfl)
    have k_r_0 : ∀ W, Below v2.heap.size v2 W → W.cell? ⟨w.heap.size + 1, 0, none⟩ = some (.float .f64 (r 0)) := fun _ h => kold h (B_r.out.cell (j := 0) rfl)
    have k_r_1 : ∀ W, Below v2.heap.size v2 W → W.cell? ⟨w.heap.size + 1, 1, none⟩ = some (.float .f64 (r 1)) := fun _ h => kold h (B_r.out.cell (j := 1) rfl)
    have k_r_2 : ∀ W, Below v2.heap.size v2 W → W.cell? ⟨w.heap.size + 1, 2, none⟩ = some (.float .f64 (r 2)) := fun _ h => kold h (B_r.out.cell (j := 2) rfl)
    have k_r_3 : ∀ W, Below v2.heap.size v2 W → W.cell? ⟨w.heap.size + 1, 3, none⟩ = some (.float .f64 (r 3)) := fun _ h => kold h (B_r.out.cell (j := 3) rfl)
    have k_r_4 : ∀ W, Below v2.heap.size v2 W → W.cell? ⟨w.heap.size + 1, 4, none⟩ = some (.float .f64 (r 4)) := fun _ h => kold h (B_r.out.cell (j := 4) rfl)
    have k_r_5 : ∀ W, Below v2.heap.size v2 W → W.cell? ⟨w.heap.size + 1, 5, none⟩ = some (.float .f64 (r 5)) := fun _ h => kold h (B_r.out.cell (j := 5) rfl)
    have hR0 : Below v2.heap.size v2 v2 := Below.refl _ _
    go_wp2_with fail
    go_cut [6] (fun p wx => ∃ (kx : Nat) (l : Nat) (a : Nat → Nat) (b : Nat → Nat), p = .pointer (some ⟨kx, 0, none⟩) ∧ v2.heap.size ≤ kx ∧ kx < wx.heap.size ∧ Below v2.heap.size v2 wx ∧ (Hc l a b (hOf (meetC G A))) ∧ wx.cell? ⟨kx, 0, none⟩ = some (.int .i64 (codeOf (meetC G A))) ∧ wx.cell? ⟨kx, 1, none⟩ = some (.int .i64 (hOf (meetC G A)).steps) ∧ wx.cell? ⟨kx, 2, none⟩ = some (.float .f64 l) ∧ wx.cell? ⟨kx, 3, none⟩ = some (.float .f64 (a 0)) ∧ wx.cell? ⟨kx, 4, none⟩ = some (.float .f64 (a 1)) ∧ wx.cell? ⟨kx, 5, none⟩ = some (.float .f64 (a 2)) ∧ wx.cell? ⟨kx, 6, none⟩ = some (.float .f64 (a 3)) ∧ wx.cell? ⟨kx, 7, none⟩ = some (.float .f64 (a 4)) ∧ wx.cell? ⟨kx, 8, none⟩ = some (.float .f64 (a 5)) ∧ wx.cell? ⟨kx, 9, none⟩ = some (.float .f64 (b 0)) ∧ wx.cell? ⟨kx, 10, none⟩ = some (.float .f64 (b 1)) ∧ wx.cell? ⟨kx, 11, none⟩ = some (.float .f64 (b 2)) ∧ wx.cell? ⟨kx, 12, none⟩ = some (.float .f64 (b 3)) ∧ wx.cell? ⟨kx, 13, none⟩ = some (.float .f64 (b 4)) ∧ wx.cell? ⟨kx, 14, none⟩ = some (.float .f64 (b 5)))
    case first =>
      go_region_held (fun W => Below v2.heap.size v2 W) (go_grown) (first | (go_at_call 30; refine (toFace_any _ _).mono ?_; rintro e wz ⟨rfl, hb1⟩; have hs1 := hb1.size; (try simp at hs1); have hR1 : Below v2.heap.size v2 wz := (by refine box_step ?_ hb1 (by go_size); go_grown); (first | (have hZ := box_step hZ hb1 (Nat.le_refl _)) | (have hZ := hb1)); obtain ⟨ho1, hf1, hz1⟩ := olds hZ) | (go_at_call 34; refine (toRay_any _ _).mono ?_; rintro e wz ⟨rfl, hb1⟩; have hs1 := hb1.size; (try simp at hs1); have hR1 : Below v2.heap.size v2 wz := (by refine box_step ?_ hb1 (by go_size); go_grown); (first | (have hZ := box_step hZ hb1 (Nat.le_refl _)) | (have hZ := hb1)); obtain ⟨ho1, hf1, hz1⟩ := olds hZ) | (go_at_call 35; refine (iMeet_any H.out.1 H.out.2 _).mono ?_; rintro e wz ⟨zl, za, zb, rfl, hza, hb1⟩; have hs1 := hb1.size; (try simp at hs1); have hR1 : Below v2.heap.size v2 wz := (by refine box_step ?_ hb1 (by go_size); go_grown); (first | (have hZ := box_step hZ hb1 (Nat.le_refl _)) | (have hZ := hb1)); obtain ⟨ho1, hf1, hz1⟩ := olds hZ))
      all_goals
        go_wp2_with fail
        go_meet
        case rel =>
          refine ⟨_, _, _, _, rfl, ?_, ?_, ?_, hza, ?_, ?_, ?_, ?_, ?_, ?_, ?_, ?_, ?_, ?_, ?_, ?_, ?_, ?_, ?_⟩
          · omega
          · simp [World.setCell] <;> omega
          · go_grown
          · first | (go_simp; done) | (simp [*]; done)
          · first | (go_simp; done) | (simp [*]; done)
          · first | (go_simp; done) | (simp [*]; done)
          · first | (go_simp; done) | (simp [*]; done)
          · first | (go_simp; done) | (simp [*]; done)
          · first | (go_simp; done) | (simp [*]; done)
          · first | (go_simp; done) | (simp [*]; done)
          · first | (go_simp; done) | (simp [*]; done)
          · first | (go_simp; done) | (simp [*]; done)
          · first | (go_simp; done) | (simp [*]; done)
          · first | (go_simp; done) | (simp [*]; done)
          · first | (go_simp; done) | (simp [*]; done)
          · first | (go_simp; done) | (simp [*]; done)
          · first | (go_simp; done) | (simp [*]; done)
          · first | (go_simp; done) | (simp [*]; done)
    case rest =>
      obtain ⟨k5, lk5, ak5, bk5, rfl, hk1, hk2, hB, P_g, d0, d1, d2, d3, d4, d5, d6, d7, d8, d9, d10, d11, d12, d13, d14⟩ := hcut
      clear k_g_0 k_g_1 k_g_2 k_g_3 k_g_4 k_r_0 k_r_1 k_r_2 k_r_3 k_r_4 k_r_5 hR0
      replace P_g : Hid _ := P_g
      obtain ⟨v4, hv⟩ : ∃ v, v = wc := ⟨_, rfl⟩
      subst hv
      replace HO : Hid (Below w.heap.size w v4) := HO.out.trans (hB.mono HO.out.size)
      replace B_g : Hid (Blk v4 (w.heap.size) #[.float .f64 (g 0), .float .f64 (g 1), .float .f64 (g 2), .float .f64 (g 3), .float .f64 (g 4)] 53) := Blk.old B_g.out hB
      replace B_r : Hid (Blk v4 (w.heap.size + 1) #[.float .f64 (r 0), .float .f64 (r 1), .float .f64 (r 2), .float .f64 (r 3), .float .f64 (r 4), .float .f64 (r 5)] 61) := Blk.old B_r.out hB
      replace C_s_0 : Hid (v4.cell? ⟨k3, 0, none⟩ = some (.int .i64 (codeOf (meetC G A)))) := kold hB C_s_0.out
      replace C_s_1 : Hid (v4.cell? ⟨k3, 1, none⟩ = some (.int .i64 (hOf (meetC G A)).steps)) := kold hB C_s_1.out
      replace C_s_2 : Hid (v4.cell? ⟨k3, 2, none⟩ = some (.float .f64 lk3)) := kold hB C_s_2.out
      replace C_s_3 : Hid (v4.cell? ⟨k3, 3, none⟩ = some (.float .f64 (ak3 0))) := kold hB C_s_3.out
      replace C_s_4 : Hid (v4.cell? ⟨k3, 4, none⟩ = some (.float .f64 (ak3 1))) := kold hB C_s_4.out
      replace C_s_5 : Hid (v4.cell? ⟨k3, 5, none⟩ = some (.float .f64 (ak3 2))) := kold hB C_s_5.out
      replace C_s_6 : Hid (v4.cell? ⟨k3, 6, none⟩ = some (.float .f64 (ak3 3))) := kold hB C_s_6.out
      replace C_s_7 : Hid (v4.cell? ⟨k3, 7, none⟩ = some (.float .f64 (ak3 4))) := kold hB C_s_7.out
      replace C_s_8 : Hid (v4.cell? ⟨k3, 8, none⟩ = some (.float .f64 (ak3 5))) := kold hB C_s_8.out
      replace C_s_9 : Hid (v4.cell? ⟨k3, 9, none⟩ = some (.float .f64 (bk3 0))) := kold hB C_s_9.out
      replace C_s_10 : Hid (v4.cell? ⟨k3, 10, none⟩ = some (.float .f64 (bk3 1))) := kold hB C_s_10.out
      replace C_s_11 : Hid (v4.cell? ⟨k3, 11, none⟩ = some (.float .f64 (bk3 2))) := kold hB C_s_11.out
      replace C_s_12 : Hid (v4.cell? ⟨k3, 12, none⟩ = some (.float .f64 (bk3 3))) := kold hB C_s_12.out
      replace C_s_13 : Hid (v4.cell? ⟨k3, 13, none⟩ = some (.float .f64 (bk3 4))) := kold hB C_s_13.out
      replace C_s_14 : Hid (v4.cell? ⟨k3, 14, none⟩ = some (.float .f64 (bk3 5))) := kold hB C_s_14.out
      have C_g_0 : Hid (v4.cell? ⟨k5, 0, none⟩ = some (.int .i64 (codeOf (meetC G A)))) := d0
      have C_g_1 : Hid (v4.cell? ⟨k5, 1, none⟩ = some (.int .i64 (hOf (meetC G A)).steps)) := d1
      have C_g_2 : Hid (v4.cell? ⟨k5, 2, none⟩ = some (.float .f64 lk5)) := d2
      have C_g_3 : Hid (v4.cell? ⟨k5, 3, none⟩ = some (.float .f64 (ak5 0))) := d3
      have C_g_4 : Hid (v4.cell? ⟨k5, 4, none⟩ = some (.float .f64 (ak5 1))) := d4
      have C_g_5 : Hid (v4.cell? ⟨k5, 5, none⟩ = some (.float .f64 (ak5 2))) := d5
      have C_g_6 : Hid (v4.cell? ⟨k5, 6, none⟩ = some (.float .f64 (ak5 3))) := d6
      have C_g_7 : Hid (v4.cell? ⟨k5, 7, none⟩ = some (.float .f64 (ak5 4))) := d7
      have C_g_8 : Hid (v4.cell? ⟨k5, 8, none⟩ = some (.float .f64 (ak5 5))) := d8
      have C_g_9 : Hid (v4.cell? ⟨k5, 9, none⟩ = some (.float .f64 (bk5 0))) := d9
      have C_g_10 : Hid (v4.cell? ⟨k5, 10, none⟩ = some (.float .f64 (bk5 1))) := d10
      have C_g_11 : Hid (v4.cell? ⟨k5, 11, none⟩ = some (.float .f64 (bk5 2))) := d11
      have C_g_12 : Hid (v4.cell? ⟨k5, 12, none⟩ = some (.float .f64 (bk5 3))) := d12
      have C_g_13 : Hid (v4.cell? ⟨k5, 13, none⟩ = some (.float .f64 (bk5 4))) := d13
      have C_g_14 : Hid (v4.cell? ⟨k5, 14, none⟩ = some (.float .f64 (bk5 5))) := d14
      clear hB hk1 hk2 d0 d1 d2 d3 d4 d5 d6 d7 d8 d9 d10 d11 d12 d13 d14
      have s_0 := C_s_0.out
      have s_1 := C_s_1.out
      have s_2 := C_s_2.out
      have s_3 := C_s_3.out
      have s_4 := C_s_4.out
      have s_5 := C_s_5.out
      have s_6 := C_s_6.out
      have s_7 := C_s_7.out
      have s_8 := C_s_8.out
      have s_9 := C_s_9.out
      have s_10 := C_s_10.out
      have s_11 := C_s_11.out
      have s_12 := C_s_12.out
      have s_13 := C_s_13.out
      have s_14 := C_s_14.out
      have g_0 := C_g_0.out
      have g_1 := C_g_1.out
      have g_2 := C_g_2.out
      have g_3 := C_g_3.out
      have g_4 := C_g_4.out
      have g_5 := C_g_5.out
      have g_6 := C_g_6.out
      have g_7 := C_g_7.out
      have g_8 := C_g_8.out
      have g_9 := C_g_9.out
      have g_10 := C_g_10.out
      have g_11 := C_g_11.out
      have g_12 := C_g_12.out
      have g_13 := C_g_13.out
      have g_14 := C_g_14.out
      go_wp2_with fail
      refine (eqHR_same _ _ P_g.out P_s.out _).mono ?_
      rintro e v6 ⟨rfl, hb⟩
      clear s_0 s_1 s_2 s_3 s_4 s_5 s_6 s_7 s_8 s_9 s_10 s_11 s_12 s_13 s_14 g_0 g_1 g_2 g_3 g_4 g_5 g_6 g_7 g_8 g_9 g_10 g_11 g_12 g_13 g_14
      replace C_g_0 : Hid (v6.cell? ⟨k5, 0, none⟩ = some (.int .i64 (codeOf (meetC G A)))) := by show v6.cell? ⟨k5, 0, none⟩ = some (.int .i64 (codeOf (meetC G A))); exact kold hb C_g_0.out
      replace C_g_1 : Hid (v6.cell? ⟨k5, 1, none⟩ = some (.int .i64 (hOf (meetC G A)).steps)) := by show v6.cell? ⟨k5, 1, none⟩ = some (.int .i64 (hOf (meetC G A)).steps); exact kold hb C_g_1.out
      replace C_g_2 : Hid (v6.cell? ⟨k5, 2, none⟩ = some (.float .f64 lk5)) := by show v6.cell? ⟨k5, 2, none⟩ = some (.float .f64 lk5); exact kold hb C_g_2.out
      replace C_g_3 : Hid (v6.cell? ⟨k5, 3, none⟩ = some (.float .f64 (ak5 0))) := by show v6.cell? ⟨k5, 3, none⟩ = some (.float .f64 (ak5 0)); exact kold hb C_g_3.out
      replace C_g_4 : Hid (v6.cell? ⟨k5, 4, none⟩ = some (.float .f64 (ak5 1))) := by show v6.cell? ⟨k5, 4, none⟩ = some (.float .f64 (ak5 1)); exact kold hb C_g_4.out
      replace C_g_5 : Hid (v6.cell? ⟨k5, 5, none⟩ = some (.float .f64 (ak5 2))) := by show v6.cell? ⟨k5, 5, none⟩ = some (.float .f64 (ak5 2)); exact kold hb C_g_5.out
      replace C_g_6 : Hid (v6.cell? ⟨k5, 6, none⟩ = some (.float .f64 (ak5 3))) := by show v6.cell? ⟨k5, 6, none⟩ = some (.float .f64 (ak5 3)); exact kold hb C_g_6.out
      replace C_g_7 : Hid (v6.cell? ⟨k5, 7, none⟩ = some (.float .f64 (ak5 4))) := by show v6.cell? ⟨k5, 7, none⟩ = some (.float .f64 (ak5 4)); exact kold hb C_g_7.out
      replace C_g_8 : Hid (v6.cell? ⟨k5, 8, none⟩ = some (.float .f64 (ak5 5))) := by show v6.cell? ⟨k5, 8, none⟩ = some (.float .f64 (ak5 5)); exact kold hb C_g_8.out
      replace C_g_9 : Hid (v6.cell? ⟨k5, 9, none⟩ = some (.float .f64 (bk5 0))) := by show v6.cell? ⟨k5, 9, none⟩ = some (.float .f64 (bk5 0)); exact kold hb C_g_9.out
      replace C_g_10 : Hid (v6.cell? ⟨k5, 10, none⟩ = some (.float .f64 (bk5 1))) := by show v6.cell? ⟨k5, 10, none⟩ = some (.float .f64 (bk5 1)); exact kold hb C_g_10.out
      replace C_g_11 : Hid (v6.cell? ⟨k5, 11, none⟩ = some (.float .f64 (bk5 2))) := by show v6.cell? ⟨k5, 11, none⟩ = some (.float .f64 (bk5 2)); exact kold hb C_g_11.out
      replace C_g_12 : Hid (v6.cell? ⟨k5, 12, none⟩ = some (.float .f64 (bk5 3))) := by show v6.cell? ⟨k5, 12, none⟩ = some (.float .f64 (bk5 3)); exact kold hb C_g_12.out
      replace C_g_13 : Hid (v6.cell? ⟨k5, 13, none⟩ = some (.float .f64 (bk5 4))) := by show v6.cell? ⟨k5, 13, none⟩ = some (.float .f64 (bk5 4)); exact kold hb C_g_13.out
      replace C_g_14 : Hid (v6.cell? ⟨k5, 14, none⟩ = some (.float .f64 (bk5 5))) := by show v6.cell? ⟨k5, 14, none⟩ = some (.float .f64 (bk5 5)); exact kold hb C_g_14.out
      replace C_s_0 : Hid (v6.cell? ⟨k3, 0, none⟩ = some (.int .i64 (codeOf (meetC G A)))) := by show v6.cell? ⟨k3, 0, none⟩ = some (.int .i64 (codeOf (meetC G A))); exact kold hb C_s_0.out
      replace C_s_1 : Hid (v6.cell? ⟨k3, 1, none⟩ = some (.int .i64 (hOf (meetC G A)).steps)) := by show v6.cell? ⟨k3, 1, none⟩ = some (.int .i64 (hOf (meetC G A)).steps); exact kold hb C_s_1.out
      replace C_s_2 : Hid (v6.cell? ⟨k3, 2, none⟩ = some (.float .f64 lk3)) := by show v6.cell? ⟨k3, 2, none⟩ = some (.float .f64 lk3); exact kold hb C_s_2.out
      replace C_s_3 : Hid (v6.cell? ⟨k3, 3, none⟩ = some (.float .f64 (ak3 0))) := by show v6.cell? ⟨k3, 3, none⟩ = some (.float .f64 (ak3 0)); exact kold hb C_s_3.out
      replace C_s_4 : Hid (v6.cell? ⟨k3, 4, none⟩ = some (.float .f64 (ak3 1))) := by show v6.cell? ⟨k3, 4, none⟩ = some (.float .f64 (ak3 1)); exact kold hb C_s_4.out
      replace C_s_5 : Hid (v6.cell? ⟨k3, 5, none⟩ = some (.float .f64 (ak3 2))) := by show v6.cell? ⟨k3, 5, none⟩ = some (.float .f64 (ak3 2)); exact kold hb C_s_5.out
      replace C_s_6 : Hid (v6.cell? ⟨k3, 6, none⟩ = some (.float .f64 (ak3 3))) := by show v6.cell? ⟨k3, 6, none⟩ = some (.float .f64 (ak3 3)); exact kold hb C_s_6.out
      replace C_s_7 : Hid (v6.cell? ⟨k3, 7, none⟩ = some (.float .f64 (ak3 4))) := by show v6.cell? ⟨k3, 7, none⟩ = some (.float .f64 (ak3 4)); exact kold hb C_s_7.out
      replace C_s_8 : Hid (v6.cell? ⟨k3, 8, none⟩ = some (.float .f64 (ak3 5))) := by show v6.cell? ⟨k3, 8, none⟩ = some (.float .f64 (ak3 5)); exact kold hb C_s_8.out
      replace C_s_9 : Hid (v6.cell? ⟨k3, 9, none⟩ = some (.float .f64 (bk3 0))) := by show v6.cell? ⟨k3, 9, none⟩ = some (.float .f64 (bk3 0)); exact kold hb C_s_9.out
      replace C_s_10 : Hid (v6.cell? ⟨k3, 10, none⟩ = some (.float .f64 (bk3 1))) := by show v6.cell? ⟨k3, 10, none⟩ = some (.float .f64 (bk3 1)); exact kold hb C_s_10.out
      replace C_s_11 : Hid (v6.cell? ⟨k3, 11, none⟩ = some (.float .f64 (bk3 2))) := by show v6.cell? ⟨k3, 11, none⟩ = some (.float .f64 (bk3 2)); exact kold hb C_s_11.out
      replace C_s_12 : Hid (v6.cell? ⟨k3, 12, none⟩ = some (.float .f64 (bk3 3))) := by show v6.cell? ⟨k3, 12, none⟩ = some (.float .f64 (bk3 3)); exact kold hb C_s_12.out
      replace C_s_13 : Hid (v6.cell? ⟨k3, 13, none⟩ = some (.float .f64 (bk3 4))) := by show v6.cell? ⟨k3, 13, none⟩ = some (.float .f64 (bk3 4)); exact kold hb C_s_13.out
      replace C_s_14 : Hid (v6.cell? ⟨k3, 14, none⟩ = some (.float .f64 (bk3 5))) := by show v6.cell? ⟨k3, 14, none⟩ = some (.float .f64 (bk3 5)); exact kold hb C_s_14.out
      replace B_r : Hid (Blk v6 (w.heap.size + 1) #[.float .f64 (r 0), .float .f64 (r 1), .float .f64 (r 2), .float .f64 (r 3), .float .f64 (r 4), .float .f64 (r 5)] 61) := by show Blk v6 (w.heap.size + 1) _ _; exact Blk.old B_r.out hb
      replace HO : Hid (Below w.heap.size w v6) := box_step HO.out hb (Nat.le_refl _)
      clear hb
      go_wp2
      go_ret
      exact ⟨rfl, HO.out⟩

set_option maxRecDepth 100000 in
theorem lifted (os : Os) (started : os.Started) (H : Type) (enc : TypeId × Value → H) :
    ReturnsInHanded {} Try.checked os 7 .any (Rows.fnExactMeetFaceSpec.pre6 enc Try.prog Try.f7 Rows.fnExactMeetFaceRow.domain false) (Rows.fnExactMeetFaceSpec.post enc Try.prog Try.f7 false true false false) := by
  refine returnsInHanded_of_change (C := Try.checked) own started (by kernel_rfl) Try.func7
    (ChangeSpec.witness6 (enc := enc) (C := Try.checked) false ⟨#[], #[.agg #[.float .f64 0, .float .f64 0, .float .f64 0, .float .f64 0, .float .f64 0], .agg #[.float .f64 0, .float .f64 0, .float .f64 0, .float .f64 0, .float .f64 0, .float .f64 0]], []⟩ 8 (by kernel_rfl) (by kernel_rfl) (by kernel_rfl) (by kernel_rfl)) ?_
  intro W base args ds gs before hval0 hW hcnd _
  have hval : ∀ (j : Nat) t v, Try.f7.params[j]? = some t → args[j]? = some v → Value.okWide Try.prog W .any base t v := hval0
  have hW' := hW
  obtain ⟨p, q, hA0, hV, rfl, hfz, hnd⟩ := hW
  have hA : DataW.TrodAll enc Try.prog W 0 (fun _ => true) true Try.f7.params.toList args.toList ds p := hA0
  rw [Try.params7] at hA hval
  obtain ⟨v0, vs0, d0, ds0, p0, q0, hargs, rfl, rfl, h0, r0⟩ := trodAll_cons hA
  obtain ⟨v1, vs1, d1, ds1, p1, q1, rfl, rfl, rfl, h1, r1⟩ := trodAll_cons r0
  obtain ⟨rfl, rfl, rfl⟩ := trodAll_nil r1
  obtain rfl : args = #[v0, v1] := by cases args; simp_all
  obtain ⟨rfl, rfl⟩ := trodVars_none hV
  have k0 := h0
  have lt0 : ∀ x ∈ p0, x.block < W.heap.size := by obtain ⟨m, hm⟩ := k0; exact DataW.trod_lt m _ _ _ hm
  obtain ⟨a0, A0, rfl, z0⟩ := open_face (hval 0 53 v0 rfl rfl) h0
  have k1 := h1
  have lt1 : ∀ x ∈ p1, x.block < W.heap.size := by obtain ⟨m, hm⟩ := k1; exact DataW.trod_lt m _ _ _ hm
  obtain ⟨a1, A1, rfl, z1⟩ := open_ray (hval 1 61 v1 rfl rfl) h1
  clear hA0 hval0
  refine (walk z0 z1 W).mono fun e W' ⟨he, bel⟩ => ?_
  subst he
  exact ⟨_, rfl, _, _, _, [], _, [], hW', trodAll_mk1 (shut_bool Try.underlying4 _), (trodAll_cons_mk (Below.trod laidOut (by kernel_rfl) (of_decide_eq_true (by kernel_rfl)) k0 bel lt0) (trodAll_cons_mk (Below.trod laidOut (by kernel_rfl) (of_decide_eq_true (by kernel_rfl)) k1 bel lt1) trodAll_mk0)), rfl, bel.frame _, fun h => by cases h⟩

theorem over : Rows.fnExactMeetFaceRow.holds Try.pinned (OpenSpec.ofChange Rows.fnExactMeetFaceSpec) :=
  OpenClaim.holds_of_wide 7 Try.f7 rfl rfl rfl rfl rfl rfl rfl ⟨rfl, rfl, rfl, rfl, rfl⟩ rfl rfl rfl rfl rfl (by kernel_rfl) Try.func7 (by kernel_rfl)
    (of_decide_eq_true (by kernel_rfl)) (by unfold Func.isWrapper; first | (rw [if_pos (by decide +kernel)]; kernel_rfl) | (rw [if_neg (by decide +kernel)]; exact ⟨rfl, rfl⟩))
    (fun os started H enc _ => lifted os started H enc)
end Go.Proofs.Ytjibogknakaokaa.LawMeetFace
namespace Go.Proofs.Ytjibogknakaokaa
theorem meetFace_holds : Rows.FnExactMeetFaceSaid := LawMeetFace.over
#print axioms meetFace_holds
end Go.Proofs.Ytjibogknakaokaa
