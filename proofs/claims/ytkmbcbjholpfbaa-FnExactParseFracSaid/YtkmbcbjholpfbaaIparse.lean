/- The program's ParseFrac, out of what its helpers answer. -/
import Derived.Test.YtkmbcbjholpfbaaIread
import Derived.Test.YtkmbcbjholpfbaaMake
import Derived.Test.YtkmbcbjholpfbaaTwos
import Derived.Handy
import Derived.Deep.RegionHeld3
import Derived.Deep.DeepCutAuto
namespace Go.Proofs.Ytkmbcbjholpfbaa
open Go.RowKit
set_option linter.unusedVariables false
set_option maxHeartbeats 400000 in
theorem ip_many (s : ByteArray) (w : World) (h : 4000 < s.size) (h2 : s.size ≤ 1048576) :
    Calls Try.prog 31 #[.string s] w fun e w' => e = .returned (.agg #[.int .i64 2, .int .i64 0, .int .i64 0, .int .i64 0]) ∧ Below w.heap.size w w' := by
  have hI : (4000 : Int) < (s.size : Int) := by omega
  go_enter Try.func31, Try.ntmps31
  go_wp2
  refine bodyPost_ret (v := .agg #[.int .i64 2, .int .i64 0, .int .i64 0, .int .i64 0]) (by simp [results, Try.results31, go_sem]) rfl ⟨rfl, ?_⟩
  go_grown
set_option maxHeartbeats 400000 in
theorem ip_stuck (s : ByteArray) (l : List UInt8) (hs : s.data.toList = l) (w : World) (h : s.size ≤ 4000) (p : Int) (hp : Tx.stuck 0 0 l = p) (h0 : 0 ≤ p) (h1 : p ≤ 4000) :
    Calls Try.prog 31 #[.string s] w fun e w' => e = .returned (.agg #[.int .i64 5, .int .i64 p, .int .i64 0, .int .i64 0]) ∧ Below w.heap.size w w' := by
  have hI : (s.size : Int) ≤ 4000 := by omega
  have HK : Hid (∀ W, Calls Try.prog 46 #[.string s] W fun e w' => e = .returned (.int .i64 p) ∧ Below W.heap.size W w') := fun W => by
    have := stuck_any s l hs h W
    rwa [hp] at this
  clear hp hs
  go_enter Try.func31, Try.ntmps31
  go_wp2_with fail
  refine (HK.out _).mono ?_
  rintro e w1 ⟨rfl, hb1⟩
  have H1 : Hid (Below w.heap.size w w1) := box_out (hb1.mono (by simp))
  obtain ⟨c0, c1, c2, c3, f0, f1, f2, f3, hz⟩ := box4 (hb1.mono (by simp))
  clear hb1
  go_wp2
  refine bodyPost_ret (v := .agg #[.int .i64 5, .int .i64 p, .int .i64 0, .int .i64 0]) (by simp [results, Try.results31, go_sem, c0, c1, c2, c3]) rfl ⟨rfl, ?_⟩
  have H2 := H1.out
  go_grown
/-- What the helpers answer at a text that is a fraction's. -/
structure Reads (s : ByteArray) (m : Bool) (ds es : List UInt8) (c a : Int) : Prop where
  st : ∀ W, Calls Try.prog 46 #[.string s] W fun e w' => e = .returned (.int .i64 (-1)) ∧ Below W.heap.size W w'
  sp : ∀ W, Calls Try.prog 47 #[.string s] W fun e w' => e = .returned (.agg #[.bool m, .string ⟨ds.toArray⟩, .int .u8 c, .int .i64 a, .string ⟨es.toArray⟩]) ∧ Below W.heap.size W w'
set_option maxHeartbeats 1000000 in
theorem ip_range (s : ByteArray) (m : Bool) (ds es : List UInt8) (c a : Int) (R : Reads s m ds es c a) (w : World) (h : s.size ≤ 4000)
    (hm : Hid (∀ W, Calls Try.prog 48 #[(.agg #[.bool m, .string ⟨ds.toArray⟩, .int .u8 c, .int .i64 a, .string ⟨es.toArray⟩])] W fun e w' => e = .returned (.bool true) ∧ Below W.heap.size W w')) :
    Calls Try.prog 31 #[.string s] w fun e w' => e = .returned (.agg #[.int .i64 3, .int .i64 0, .int .i64 0, .int .i64 0]) ∧ Below w.heap.size w w' := by
  have hI : (s.size : Int) ≤ 4000 := by omega
  have HR : Hid (Reads s m ds es c a) := R
  clear R
  go_enter Try.func31, Try.ntmps31
  go_wp2_with fail
  refine (HR.out.st _).mono ?_
  rintro e w1 ⟨rfl, hb1⟩
  have B1 : Hid (Below (w.heap.size + 1) (w.alloc (.cells #[.int .i64 0, .int .i64 0, .int .i64 0, .int .i64 0] 37)) w1) := hb1.mono (by simp)
  clear hb1
  go_wp2_with fail
  refine (HR.out.sp _).mono ?_
  rintro e w2 ⟨rfl, hb2⟩
  have B2 : Hid (Below (w.heap.size + 1) (w.alloc (.cells #[.int .i64 0, .int .i64 0, .int .i64 0, .int .i64 0] 37)) w2) := box_step B1.out hb2 (by simp)
  clear hb2 B1
  go_wp2_with fail
  refine (hm.out _).mono ?_
  rintro e w3 ⟨rfl, hb3⟩
  have B3 : Hid (Below (w.heap.size + 1) (w.alloc (.cells #[.int .i64 0, .int .i64 0, .int .i64 0, .int .i64 0] 37)) w3) := by
    have b2 := B2.out
    have hs := b2.size
    simp at hs
    refine box_step ?_ hb3 (by simp)
    go_grown
  obtain ⟨c0, c1, c2, c3, f0, f1, f2, f3, hz⟩ := box4 B3.out
  clear hb3 B2
  go_wp2
  refine bodyPost_ret (v := .agg #[.int .i64 3, .int .i64 0, .int .i64 0, .int .i64 0]) (by simp [results, Try.results31, go_sem, c0, c1, c2, c3]) rfl ⟨rfl, ?_⟩
  have H2 := box_out B3.out
  go_grown
set_option maxHeartbeats 2000000 in
theorem ip_zero (s : ByteArray) (m : Bool) (ds es : List UInt8) (c a : Int) (R : Reads s m ds es c a) (w : World) (h : s.size ≤ 4000) (nv dv : Int)
    (hm : Hid (∀ W, Calls Try.prog 48 #[(.agg #[.bool m, .string ⟨ds.toArray⟩, .int .u8 c, .int .i64 a, .string ⟨es.toArray⟩])] W fun e w' => e = .returned (.bool false) ∧ Below W.heap.size W w'))
    (hn : Hid (∀ W, Calls Try.prog 49 #[(.agg #[.bool m, .string ⟨ds.toArray⟩, .int .u8 c, .int .i64 a, .string ⟨es.toArray⟩])] W fun e w' => e = .returned (.int .i64 nv) ∧ Below W.heap.size W w'))
    (hd : Hid (∀ W, Calls Try.prog 50 #[(.agg #[.bool m, .string ⟨ds.toArray⟩, .int .u8 c, .int .i64 a, .string ⟨es.toArray⟩])] W fun e w' => e = .returned (.int .i64 dv) ∧ Below W.heap.size W w'))
    (h6 : (mkC nv dv == 6) = true) :
    Calls Try.prog 31 #[.string s] w fun e w' => e = .returned (.agg #[.int .i64 6, .int .i64 a, .int .i64 0, .int .i64 0]) ∧ Below w.heap.size w w' := by
  have hI : (s.size : Int) ≤ 4000 := by omega
  have HR : Hid (Reads s m ds es c a) := R
  clear R
  go_enter Try.func31, Try.ntmps31
  go_wp2_with fail
  refine (HR.out.st _).mono ?_
  rintro e w1 ⟨rfl, hb1⟩
  have B1 : Hid (Below (w.heap.size + 1) (w.alloc (.cells #[.int .i64 0, .int .i64 0, .int .i64 0, .int .i64 0] 37)) w1) := hb1.mono (by simp)
  clear hb1
  go_wp2_with fail
  refine (HR.out.sp _).mono ?_
  rintro e w2 ⟨rfl, hb2⟩
  have B2 : Hid (Below (w.heap.size + 1) (w.alloc (.cells #[.int .i64 0, .int .i64 0, .int .i64 0, .int .i64 0] 37)) w2) := box_step B1.out hb2 (by simp)
  clear hb2 B1
  go_wp2_with fail
  refine (hm.out _).mono ?_
  rintro e w3 ⟨rfl, hb3⟩
  have B3 : Hid (Below (w.heap.size + 1) (w.alloc (.cells #[.int .i64 0, .int .i64 0, .int .i64 0, .int .i64 0] 37)) w3) := by
    have b2 := B2.out
    have hs := b2.size
    simp at hs
    refine box_step ?_ hb3 (by simp)
    go_grown
  have hz2 : w.heap.size < w2.heap.size := by have := B2.out.size; simp at this; omega
  have hz3 : w2.heap.size < w3.heap.size := by have := hb3.size; simp at this; omega
  have b0 := hb3.cell (p := ⟨w2.heap.size, 0, none⟩) (by simp)
  have b1 := hb3.cell (p := ⟨w2.heap.size, 1, none⟩) (by simp)
  have b2 := hb3.cell (p := ⟨w2.heap.size, 2, none⟩) (by simp)
  have b3 := hb3.cell (p := ⟨w2.heap.size, 3, none⟩) (by simp)
  have b4 := hb3.cell (p := ⟨w2.heap.size, 4, none⟩) (by simp)
  simp at b0 b1 b2 b3 b4
  have k0 : ∀ W, Below w3.heap.size w3 W → W.cell? ⟨w2.heap.size, 0, none⟩ = some (.bool m) := fun _ h => old_cell h hz3 b0
  have k1 : ∀ W, Below w3.heap.size w3 W → W.cell? ⟨w2.heap.size, 1, none⟩ = some (.string ⟨ds.toArray⟩) := fun _ h => old_cell h hz3 b1
  have k2 : ∀ W, Below w3.heap.size w3 W → W.cell? ⟨w2.heap.size, 2, none⟩ = some (.int .u8 c) := fun _ h => old_cell h hz3 b2
  have k3 : ∀ W, Below w3.heap.size w3 W → W.cell? ⟨w2.heap.size, 3, none⟩ = some (.int .i64 a) := fun _ h => old_cell h hz3 b3
  have k4 : ∀ W, Below w3.heap.size w3 W → W.cell? ⟨w2.heap.size, 4, none⟩ = some (.string ⟨es.toArray⟩) := fun _ h => old_cell h hz3 b4
  have hR0 : Below w3.heap.size w3 w3 := Below.refl _ _
  clear hb3 B2 b0 b1 b2 b3 b4
  go_wp2_with fail
  go_cut [5] (fun p wx => ∃ k : Nat, p = .pointer (some ⟨k, 0, none⟩) ∧ w3.heap.size ≤ k ∧ k < wx.heap.size ∧ Below w3.heap.size w3 wx ∧ wx.cell? ⟨k, 0, none⟩ = some (.int .i64 (mkC nv dv)) ∧ wx.cell? ⟨k, 1, none⟩ = some (.int .i64 (mkN nv dv)) ∧ wx.cell? ⟨k, 2, none⟩ = some (.int .i64 (mkD nv dv)))
  case first =>
    go_region_held3 (fun W => Below w3.heap.size w3 W) (go_grown)
      (first | (go_at_call 49; refine (hn.out _).mono ?_; rintro e w1 ⟨rfl, hb1⟩; have hs1 := hb1.size; (try simp at hs1); have hR1 : Below w3.heap.size w3 w1 := (by refine box_step ?_ hb1 (Nat.le_refl _); go_grown); (first | (have hZ := box_step hZ hb1 (Nat.le_refl _)) | (have hZ := hb1)); obtain ⟨ho1, hf1, hz1⟩ := olds hZ) | (go_at_call 50; refine (hd.out _).mono ?_; rintro e w1 ⟨rfl, hb1⟩; have hs1 := hb1.size; (try simp at hs1); have hR1 : Below w3.heap.size w3 w1 := (by refine box_step ?_ hb1 (Nat.le_refl _); go_grown); (first | (have hZ := box_step hZ hb1 (Nat.le_refl _)) | (have hZ := hb1)); obtain ⟨ho1, hf1, hz1⟩ := olds hZ) | (go_at_call 16; refine (imake _ _ _).mono ?_; rintro e w1 ⟨rfl, hb1⟩; have hs1 := hb1.size; (try simp at hs1); have hR1 : Below w3.heap.size w3 w1 := (by refine box_step ?_ hb1 (Nat.le_refl _); go_grown); (first | (have hZ := box_step hZ hb1 (Nat.le_refl _)) | (have hZ := hb1)); obtain ⟨ho1, hf1, hz1⟩ := olds hZ))
    all_goals
      go_wp2_with fail
      go_meet
      case rel =>
        refine ⟨_, rfl, ?_, ?_, ?_, ?_, ?_, ?_⟩
        · omega
        · simp [World.setCell] <;> omega
        · go_grown
        · go_simp
        · go_simp
        · go_simp
  case rest =>
    obtain ⟨k, rfl, hk1, hk2, hB, d0, d1, d2⟩ := hcut
    have a3 := k3 _ hB
    have B4 : Hid (Below (w.heap.size + 1) (w.alloc (.cells #[.int .i64 0, .int .i64 0, .int .i64 0, .int .i64 0] 37)) wc) := box_step B3.out hB (by simp)
    obtain ⟨c0, c1, c2, c3, f0, f1, f2, f3, hz⟩ := box4 B4.out
    have HQ : Hid (Below w.heap.size w wc) := box_out B4.out
    clear k0 k1 k2 k3 k4 hR0 hB B3 B4 hn hd hm HR
    go_wp2
    refine bodyPost_ret (v := .agg #[.int .i64 6, .int .i64 a, .int .i64 0, .int .i64 0]) (by simp [results, Try.results31, go_sem, c0, c1, c2, c3]) rfl ⟨rfl, ?_⟩
    have H2 := HQ.out
    go_grown
set_option maxHeartbeats 2000000 in
theorem ip_told (s : ByteArray) (m : Bool) (ds es : List UInt8) (c a : Int) (R : Reads s m ds es c a) (w : World) (h : s.size ≤ 4000) (nv dv : Int)
    (hm : Hid (∀ W, Calls Try.prog 48 #[(.agg #[.bool m, .string ⟨ds.toArray⟩, .int .u8 c, .int .i64 a, .string ⟨es.toArray⟩])] W fun e w' => e = .returned (.bool false) ∧ Below W.heap.size W w'))
    (hn : Hid (∀ W, Calls Try.prog 49 #[(.agg #[.bool m, .string ⟨ds.toArray⟩, .int .u8 c, .int .i64 a, .string ⟨es.toArray⟩])] W fun e w' => e = .returned (.int .i64 nv) ∧ Below W.heap.size W w'))
    (hd : Hid (∀ W, Calls Try.prog 50 #[(.agg #[.bool m, .string ⟨ds.toArray⟩, .int .u8 c, .int .i64 a, .string ⟨es.toArray⟩])] W fun e w' => e = .returned (.int .i64 dv) ∧ Below W.heap.size W w'))
    (h6 : (mkC nv dv == 6) = false) :
    Calls Try.prog 31 #[.string s] w fun e w' => e = .returned (.agg #[.int .i64 (mkC nv dv), .int .i64 0, .int .i64 (mkN nv dv), .int .i64 (mkD nv dv)]) ∧ Below w.heap.size w w' := by
  have hI : (s.size : Int) ≤ 4000 := by omega
  have HR : Hid (Reads s m ds es c a) := R
  clear R
  go_enter Try.func31, Try.ntmps31
  go_wp2_with fail
  refine (HR.out.st _).mono ?_
  rintro e w1 ⟨rfl, hb1⟩
  have B1 : Hid (Below (w.heap.size + 1) (w.alloc (.cells #[.int .i64 0, .int .i64 0, .int .i64 0, .int .i64 0] 37)) w1) := hb1.mono (by simp)
  clear hb1
  go_wp2_with fail
  refine (HR.out.sp _).mono ?_
  rintro e w2 ⟨rfl, hb2⟩
  have B2 : Hid (Below (w.heap.size + 1) (w.alloc (.cells #[.int .i64 0, .int .i64 0, .int .i64 0, .int .i64 0] 37)) w2) := box_step B1.out hb2 (by simp)
  clear hb2 B1
  go_wp2_with fail
  refine (hm.out _).mono ?_
  rintro e w3 ⟨rfl, hb3⟩
  have B3 : Hid (Below (w.heap.size + 1) (w.alloc (.cells #[.int .i64 0, .int .i64 0, .int .i64 0, .int .i64 0] 37)) w3) := by
    have b2 := B2.out
    have hs := b2.size
    simp at hs
    refine box_step ?_ hb3 (by simp)
    go_grown
  have hz2 : w.heap.size < w2.heap.size := by have := B2.out.size; simp at this; omega
  have hz3 : w2.heap.size < w3.heap.size := by have := hb3.size; simp at this; omega
  have b0 := hb3.cell (p := ⟨w2.heap.size, 0, none⟩) (by simp)
  have b1 := hb3.cell (p := ⟨w2.heap.size, 1, none⟩) (by simp)
  have b2 := hb3.cell (p := ⟨w2.heap.size, 2, none⟩) (by simp)
  have b3 := hb3.cell (p := ⟨w2.heap.size, 3, none⟩) (by simp)
  have b4 := hb3.cell (p := ⟨w2.heap.size, 4, none⟩) (by simp)
  simp at b0 b1 b2 b3 b4
  have k0 : ∀ W, Below w3.heap.size w3 W → W.cell? ⟨w2.heap.size, 0, none⟩ = some (.bool m) := fun _ h => old_cell h hz3 b0
  have k1 : ∀ W, Below w3.heap.size w3 W → W.cell? ⟨w2.heap.size, 1, none⟩ = some (.string ⟨ds.toArray⟩) := fun _ h => old_cell h hz3 b1
  have k2 : ∀ W, Below w3.heap.size w3 W → W.cell? ⟨w2.heap.size, 2, none⟩ = some (.int .u8 c) := fun _ h => old_cell h hz3 b2
  have k3 : ∀ W, Below w3.heap.size w3 W → W.cell? ⟨w2.heap.size, 3, none⟩ = some (.int .i64 a) := fun _ h => old_cell h hz3 b3
  have k4 : ∀ W, Below w3.heap.size w3 W → W.cell? ⟨w2.heap.size, 4, none⟩ = some (.string ⟨es.toArray⟩) := fun _ h => old_cell h hz3 b4
  have hR0 : Below w3.heap.size w3 w3 := Below.refl _ _
  clear hb3 B2 b0 b1 b2 b3 b4
  go_wp2_with fail
  go_cut [5] (fun p wx => ∃ k : Nat, p = .pointer (some ⟨k, 0, none⟩) ∧ w3.heap.size ≤ k ∧ k < wx.heap.size ∧ Below w3.heap.size w3 wx ∧ wx.cell? ⟨k, 0, none⟩ = some (.int .i64 (mkC nv dv)) ∧ wx.cell? ⟨k, 1, none⟩ = some (.int .i64 (mkN nv dv)) ∧ wx.cell? ⟨k, 2, none⟩ = some (.int .i64 (mkD nv dv)))
  case first =>
    go_region_held3 (fun W => Below w3.heap.size w3 W) (go_grown)
      (first | (go_at_call 49; refine (hn.out _).mono ?_; rintro e w1 ⟨rfl, hb1⟩; have hs1 := hb1.size; (try simp at hs1); have hR1 : Below w3.heap.size w3 w1 := (by refine box_step ?_ hb1 (Nat.le_refl _); go_grown); (first | (have hZ := box_step hZ hb1 (Nat.le_refl _)) | (have hZ := hb1)); obtain ⟨ho1, hf1, hz1⟩ := olds hZ) | (go_at_call 50; refine (hd.out _).mono ?_; rintro e w1 ⟨rfl, hb1⟩; have hs1 := hb1.size; (try simp at hs1); have hR1 : Below w3.heap.size w3 w1 := (by refine box_step ?_ hb1 (Nat.le_refl _); go_grown); (first | (have hZ := box_step hZ hb1 (Nat.le_refl _)) | (have hZ := hb1)); obtain ⟨ho1, hf1, hz1⟩ := olds hZ) | (go_at_call 16; refine (imake _ _ _).mono ?_; rintro e w1 ⟨rfl, hb1⟩; have hs1 := hb1.size; (try simp at hs1); have hR1 : Below w3.heap.size w3 w1 := (by refine box_step ?_ hb1 (Nat.le_refl _); go_grown); (first | (have hZ := box_step hZ hb1 (Nat.le_refl _)) | (have hZ := hb1)); obtain ⟨ho1, hf1, hz1⟩ := olds hZ))
    all_goals
      go_wp2_with fail
      go_meet
      case rel =>
        refine ⟨_, rfl, ?_, ?_, ?_, ?_, ?_, ?_⟩
        · omega
        · simp [World.setCell] <;> omega
        · go_grown
        · go_simp
        · go_simp
        · go_simp
  case rest =>
    obtain ⟨k, rfl, hk1, hk2, hB, d0, d1, d2⟩ := hcut
    have a3 := k3 _ hB
    have B4 : Hid (Below (w.heap.size + 1) (w.alloc (.cells #[.int .i64 0, .int .i64 0, .int .i64 0, .int .i64 0] 37)) wc) := box_step B3.out hB (by simp)
    obtain ⟨c0, c1, c2, c3, f0, f1, f2, f3, hz⟩ := box4 B4.out
    have HQ : Hid (Below w.heap.size w wc) := box_out B4.out
    clear k0 k1 k2 k3 k4 hR0 hB B3 B4 hn hd hm HR
    go_wp2
    refine bodyPost_ret (v := .agg #[.int .i64 (mkC nv dv), .int .i64 0, .int .i64 (mkN nv dv), .int .i64 (mkD nv dv)]) (by simp [results, Try.results31, go_sem, c0, c1, c2, c3]) rfl ⟨rfl, ?_⟩
    have H2 := HQ.out
    go_grown
end Go.Proofs.Ytkmbcbjholpfbaa
