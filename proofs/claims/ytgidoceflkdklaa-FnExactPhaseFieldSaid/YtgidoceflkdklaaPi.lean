/- A field's numbers turned one by one: the program. -/
import Derived.Test.YtgidoceflkdklaaPh
import Derived.Deep.RegionHeld3
import Derived.Handy
namespace Go.Proofs.Ytgidoceflkdklaa
open Go.RowKit Fl
set_option linter.unusedVariables false
set_option linter.unusedSimpArgs false
structure Sx (w : World) (B x y : Nat) (W : World) : Prop where
  bel : Below w.heap.size w W
  box : Blk W B #[.float .f64 x, .float .f64 y] 75
  lo : w.heap.size ≤ W.heap.size
theorem Sx.drew {w : World} {B x y : Nat} {W : World} (h : Sx w B x y W) : Sx w B x y W.drew := ⟨h.bel.drew, h.box.drew, h.lo⟩
theorem Sx.call {w : World} {B x y : Nat} {W W' : World} (h : Sx w B x y W) (k : Below W.heap.size W W') : Sx w B x y W' := ⟨h.bel.trans (k.mono h.lo), h.box.old k, Nat.le_trans h.lo k.size⟩
theorem Sx.set2 {w : World} {B x y g i j : Nat} {u v : Value} {W : World} (h : Sx w B x y W) (hg : w.heap.size ≤ g) (hB : B ≠ g) : Sx w B x y ((W.setCell ⟨g, i, none⟩ u).setCell ⟨g, j, none⟩ v) :=
  ⟨(h.bel.setCell hg _).setCell hg _, (h.box.setOther (by simpa using hB) _).setOther (by simpa using hB) _, by simpa using h.lo⟩
set_option maxRecDepth 20000 in
set_option maxHeartbeats 6400000 in
theorem iPhase_good (b off cap b' off' cap' n : Nat) (f : Nat → Nat → Nat) (o : Nat → Option Nat × Option Nat) (p : Nat → Int) (w : World) (hw : Wv.wf n = 0)
    (hc : ∀ i, i < n → ∀ j, j < 2 → w.cell? ⟨b, off + i * 2 + j, none⟩ = some (.float .f64 (f i j))) (hf : ∀ i, i < n → Zc (f i 0) (f i 1) (o i)) (hp : ∀ i, i < n → w.cell? ⟨b', off' + i, none⟩ = some (.int .i64 (p i))) :
    ZX 32 #[.slice (some ⟨b, off, none⟩) n cap, .slice (some ⟨b', off', none⟩) n cap'] w 0 n (phC o p) := by
  unfold ZX
  have hle := Wv.wf_le hw
  have A : Hid (∀ w, Calls Try.prog 61 #[.slice (some ⟨b, off, none⟩) n cap] w fun e w' => e = .returned (.int .i64 0) ∧ w = w') := fun w => by have := iFault_any (some ⟨b, off, none⟩) n cap w; rw [hw] at this; exact this
  have HC : Hid (∀ i, i < n → ∀ j, j < 2 → w.cell? ⟨b, off + i * 2 + j, none⟩ = some (.float .f64 (f i j))) := hc
  have HF : Hid (∀ i, i < n → Zc (f i 0) (f i 1) (o i)) := hf
  have HP : Hid (∀ i, i < n → w.cell? ⟨b', off' + i, none⟩ = some (.int .i64 (p i))) := hp
  clear hw hc hf hp
  have hst := st64
  have hmk := make28 n (by omega)
  go_enter Try.func32, Try.ntmps32
  go_wp2_with (first | (go_at_call 61; refine (A.out _).mono ?_; rintro e w1 ⟨rfl, rfl⟩))
  clear A hmk
  go_loopw [26] (fun i wr => ∃ (k : Nat) (F : Nat → Nat → Nat), k ≤ n ∧ i = .int .i64 k ∧ Hid (SegM wr (w.heap.size + 1) 75 n 2 F ∧ (∀ i, i < k → Zc (F i 0) (F i 1) (phC o p i)) ∧ Below w.heap.size w wr ∧ Blk wr w.heap.size #[.int .i64 0, .slice none 0 0] 36)) (fun i _ => n - (intOf i).toNat)
  case atStart =>
    refine ⟨0, fun _ _ => 0, Nat.zero_le _, rfl, ?_, fun i hi => by omega, ((Below.refl _ _).alloc (Nat.le_refl _) _).alloc (by simp) _, (Blk.new rfl).alloc _⟩
    have h := seg_made28 (w.alloc (.cells #[.int .i64 0, .slice none 0 0] 36)) n
    rw [show (w.alloc (.cells #[.int .i64 0, .slice none 0 0] 36)).heap.size = w.heap.size + 1 by simp] at h
    exact h
  case round =>
    obtain ⟨k, F, hk, rfl, HB⟩ := hrel
    by_cases hkn : k < n
    · have HZ := HF.out k hkn
      have hb0 := HB.out.2.2.1
      have k0 : wr.cell? ⟨b, off + k * 2, none⟩ = some (.float .f64 (f k 0)) := (hb0.cell (World.block_lt_of_cell? _ _ (HC.out k hkn 0 (by omega)))).trans (HC.out k hkn 0 (by omega))
      have k1 : wr.cell? ⟨b, off + k * 2 + 1, none⟩ = some (.float .f64 (f k 1)) := (hb0.cell (World.block_lt_of_cell? _ _ (HC.out k hkn 1 (by omega)))).trans (HC.out k hkn 1 (by omega))
      have k2 : ∀ W, Sx w wr.heap.size (f k 0) (f k 1) W → W.cell? ⟨b', off' + k, none⟩ = some (.int .i64 (p k)) := fun W hb => (hb.bel.cell (World.block_lt_of_cell? _ _ (HP.out k hkn))).trans (HP.out k hkn)
      have k3 : ∀ W, Sx w wr.heap.size (f k 0) (f k 1) W → W.cell? ⟨wr.heap.size, 0, none⟩ = some (.float .f64 (f k 0)) := fun W hb => hb.box.cell (j := 0) rfl
      have k4 : ∀ W, Sx w wr.heap.size (f k 0) (f k 1) W → W.cell? ⟨wr.heap.size, 1, none⟩ = some (.float .f64 (f k 1)) := fun W hb => hb.box.cell (j := 1) rfl
      have hlt : w.heap.size + 1 < wr.heap.size := HB.out.1.lt
      clear HC HF HP
      go_upto_region 10 with fail
      obtain ⟨Y, hY⟩ : ∃ Y, Y = wr.alloc (.cells #[.float .f64 (f k 0), .float .f64 (f k 1)] 75) := ⟨_, rfl⟩
      rw [← hY]
      have S0 : Sx w wr.heap.size (f k 0) (f k 1) Y := by rw [hY]; exact ⟨hb0.alloc (by omega) _, Blk.new rfl, by simp; omega⟩
      have HY : Hid (SegM Y (w.heap.size + 1) 75 n 2 F ∧ Blk Y w.heap.size #[.int .i64 0, .slice none 0 0] 36) := by rw [hY]; exact ⟨HB.out.1.below ((Below.refl _ _).alloc (Nat.le_refl _) _), HB.out.2.2.2.alloc _⟩
      have HC2 : Hid (∀ i, i < k → Zc (F i 0) (F i 1) (phC o p i)) := HB.out.2.1
      clear hY HB k0 k1 hb0
      have hne : wr.heap.size ≠ w.heap.size + 1 := by omega
      go_region_held (fun W => Sx w wr.heap.size (f k 0) (f k 1) W) (first | (with_reducible assumption) | (with_reducible exact Sx.drew ‹_›) | (with_reducible refine Sx.set2 ?_ (Nat.le_succ _) hne; with_reducible assumption))
        (first
        | (go_at_call 69; refine (iTurn_any _ _).mono ?_; rintro e w1 ⟨x1, y1, rfl, z1, hb1⟩; have S1 : Sx w wr.heap.size (f k 0) (f k 1) w1 := Sx.call S0.drew hb1)
        | (go_at_call 68; refine (iMul_any HZ z1 _).mono ?_; rintro e w2 ⟨x2, y2, rfl, z2, hb2⟩; have S2 : Sx w wr.heap.size (f k 0) (f k 1) w2 := Sx.call S1 hb2; have HG : Hid (SegM w2 (w.heap.size + 1) 75 n 2 F ∧ Blk w2 w.heap.size #[.int .i64 0, .slice none 0 0] 36) := ⟨((HY.out.1.below (Below.refl _ _).drew).below hb1).below hb2, (HY.out.2.drew.old hb1).old hb2⟩; have g0 : w2.cell? ⟨w.heap.size + 1, k * 2, none⟩ = some (.float .f64 (F k 0)) := HG.out.1.cell hkn (show 0 < 2 by omega); have g1 : w2.cell? ⟨w.heap.size + 1, k * 2 + 1, none⟩ = some (.float .f64 (F k 1)) := HG.out.1.cell hkn (show 1 < 2 by omega); have g2 := HG.out.1.frozen (k * 2); have g3 := HG.out.1.frozen (k * 2 + 1)))
      all_goals
        have HN : Hid (SegM ((w2.setCell ⟨w.heap.size + 1, k * 2, none⟩ (.float .f64 x2)).setCell ⟨w.heap.size + 1, k * 2 + 1, none⟩ (.float .f64 y2)) (w.heap.size + 1) 75 n 2 (upd F k x2 y2) ∧ (∀ i, i < k + 1 → Zc (upd F k x2 y2 i 0) (upd F k x2 y2 i 1) (phC o p i)) ∧ Below w.heap.size w ((w2.setCell ⟨w.heap.size + 1, k * 2, none⟩ (.float .f64 x2)).setCell ⟨w.heap.size + 1, k * 2 + 1, none⟩ (.float .f64 y2)) ∧ Blk ((w2.setCell ⟨w.heap.size + 1, k * 2, none⟩ (.float .f64 x2)).setCell ⟨w.heap.size + 1, k * 2 + 1, none⟩ (.float .f64 y2)) w.heap.size #[.int .i64 0, .slice none 0 0] 36) :=
          ⟨HG.out.1.upd hkn x2 y2, upd_zc HC2.out z2, (S2.bel.setCell (by simp) _).setCell (by simp) _, (HG.out.2.setOther (by simp) _).setOther (by simp) _⟩
        clear k2 k3 k4 HG g0 g1 g2 g3 S0 S1 S2 HY HC2
        go_wp2
        go_roundw
        case rel => exact ⟨k + 1, _, by omega, by simp, HN⟩
        case measure => simp [intOf]; omega
    · obtain rfl : k = n := by omega
      have c0 := HB.out.2.2.2.cell (j := 0) (v := .int .i64 0) rfl
      have c1 := HB.out.2.2.2.cell (j := 1) (v := .slice none 0 0) rfl
      have f0 := HB.out.2.2.2.frozen 0
      have f1 := HB.out.2.2.2.frozen 1
      clear HC HF HP
      go_wp2
      refine bodyPost_ret (v := Zl 0 (.slice (some ⟨w.heap.size + 1, 0, none⟩) k k)) (by simp [results, Try.results32, go_sem, c0, c1]) rfl ⟨_, F, rfl, Or.inr ⟨_, _, rfl, by omega, by simpa using HB.out.1.lt, (HB.out.1.setOther (by omega) _).setOther (by omega) _⟩, HB.out.2.1, (HB.out.2.2.1.setCell (by simp) _).setCell (by simp) _⟩
end Go.Proofs.Ytgidoceflkdklaa
