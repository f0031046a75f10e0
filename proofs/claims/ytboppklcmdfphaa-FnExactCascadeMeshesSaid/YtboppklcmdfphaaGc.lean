/- Guides: two rows coupled: contract. -/
import Derived.Test.YtboppklcmdfphaaGv
namespace Go.Proofs.Ytboppklcmdfphaa
open Go.RowKit
set_option linter.unusedVariables false
set_option linter.unusedSimpArgs false
/-- Two rows coupled, in the first k columns. -/
def cpl (F : Rm.Mx) (I J : Nat) (a b c d : Int) (k : Nat) : Rm.Mx := fun r t => if t < k then (if r = J then Rm.addM (Rm.mulM c (F I t)) (Rm.mulM d (F J t)) else if r = I then Rm.addM (Rm.mulM a (F I t)) (Rm.mulM b (F J t)) else F r t) else F r t
set_option maxRecDepth 20000 in
set_option maxHeartbeats 3200000 in
theorem couple_any {lo hi : Nat} {w : World} {m : Lie} {n wd : Nat} {F : Rm.Mx} (h : Gm lo hi w m n (fun _ => wd) F) (I J : Nat) (a b c d : Int) (hI : I < n) (hJ : J < n) (hne : I ≠ J) (hn : n ≤ 1000000) (hw : wd ≤ 1000000) (hhi : hi ≤ w.heap.size) (hlo : lo ≤ w.heap.size) :
    Calls Try.prog 105 #[.slice (some ⟨m.b, 0, none⟩) n m.cap, .agg #[.int .i64 (I : Int), .int .i64 (J : Int), .int .i64 a, .int .i64 b, .int .i64 c, .int .i64 d]] w fun e w' => e = .returned (.tuple #[]) ∧ Gm lo hi w' m n (fun _ => wd) (cpl F I J a b c d wd) ∧ Within lo hi w w' := by
  obtain ⟨X, hX⟩ : ∃ X, X = w.alloc (.cells #[.int .i64 (I : Int), .int .i64 (J : Int), .int .i64 a, .int .i64 b, .int .i64 c, .int .i64 d] 111) := ⟨_, rfl⟩
  have BX : Hid (Blk X w.heap.size #[.int .i64 (I : Int), .int .i64 (J : Int), .int .i64 a, .int .i64 b, .int .i64 c, .int .i64 d] 111 ∧ Within lo hi w X ∧ Gm lo hi X m n (fun _ => wd) F ∧ X.heap.size = w.heap.size + 1) := by
    rw [hX]; exact ⟨Blk.new rfl, (Within.refl _ _ _).alloc hlo _, h.alloc _ hhi, by simp⟩
  have HNE : Hid (I ≠ J ∧ hi ≤ w.heap.size) := ⟨hne, hhi⟩
  have x0 := BX.out.1.cell (j := 0) rfl
  have x1 := BX.out.1.cell (j := 1) rfl
  have g1 : X.cell? ⟨m.b, I, none⟩ = some (.slice (some ⟨m.bs I, m.os I, none⟩) wd (m.cs I)) := BX.out.2.2.1.cellRow hI
  have g2 : X.cell? ⟨m.b, J, none⟩ = some (.slice (some ⟨m.bs J, m.os J, none⟩) wd (m.cs J)) := BX.out.2.2.1.cellRow hJ
  clear h hne
  go_enter Try.func105, Try.ntmps105
  go_wp2_with fail
  rw [← hX]
  clear hX
  go_quiet (fail)
  go_wp2_with fail
  clear x0 x1 g1 g2
  go_loopw [21] (fun s wr => ∃ k : Nat, k ≤ wd ∧ s = .int .i64 k ∧ Hid (Blk wr w.heap.size #[.int .i64 (I : Int), .int .i64 (J : Int), .int .i64 a, .int .i64 b, .int .i64 c, .int .i64 d] 111 ∧ Gm lo hi wr m n (fun _ => wd) (cpl F I J a b c d k) ∧ Within lo hi w wr)) (fun s _ => wd - (intOf s).toNat)
  case atStart => exact ⟨0, Nat.zero_le _, rfl, BX.out.1.drewN _, (BX.out.2.2.1.congr (fun r t _ _ => by simp [cpl])).keep (fun _ _ _ => rfl), BX.out.2.1.trans ⟨below_drewN (Below.refl _ _) _, fun _ _ _ => rfl⟩⟩
  case round =>
    obtain ⟨k, hk, rfl, HS⟩ := hrel
    by_cases hkn : k < wd
    · have g1 : wr.cell? ⟨m.bs I, m.os I + k, none⟩ = some (.int .i64 (F I k)) := by have := HS.out.2.1.cellAt hI hkn; simpa [cpl] using this
      have g2 : wr.cell? ⟨m.bs J, m.os J + k, none⟩ = some (.int .i64 (F J k)) := by have := HS.out.2.1.cellAt hJ hkn; simpa [cpl] using this
      have hnil := nil_times
      have hmeth := mrun_times
      have hnil2 := nil_plus
      have hmeth2 := mrun_plus
      go_wp2_with fail
      go_quiet (fail)
      go_wp2_with fail
      clear g1 g2
      obtain ⟨Y, hY⟩ : ∃ Y, Y = wr.drewN nq := ⟨_, rfl⟩
      have BY : Hid (Blk Y w.heap.size #[.int .i64 (I : Int), .int .i64 (J : Int), .int .i64 a, .int .i64 b, .int .i64 c, .int .i64 d] 111 ∧ Gm lo hi Y m n (fun _ => wd) (cpl F I J a b c d k) ∧ Within lo hi w Y) := by
        rw [hY]; exact ⟨HS.out.1.drewN _, HS.out.2.1.keep (fun _ _ _ => rfl), HS.out.2.2.trans ⟨below_drewN (Below.refl _ _) _, fun _ _ _ => rfl⟩⟩
      rw [← hY]
      clear hY HS
      have k0 : ∀ x : Kept Y.heap.size Y, x.w.cell? ⟨w.heap.size, 0, none⟩ = some (.int .i64 (I : Int)) := fun x => x.cell BY.out.1.lt (BY.out.1.cell (j := 0) rfl)
      have k1 : ∀ x : Kept Y.heap.size Y, x.w.cell? ⟨w.heap.size, 1, none⟩ = some (.int .i64 (J : Int)) := fun x => x.cell BY.out.1.lt (BY.out.1.cell (j := 1) rfl)
      have k2 : ∀ x : Kept Y.heap.size Y, x.w.cell? ⟨w.heap.size, 2, none⟩ = some (.int .i64 a) := fun x => x.cell BY.out.1.lt (BY.out.1.cell (j := 2) rfl)
      have k3 : ∀ x : Kept Y.heap.size Y, x.w.cell? ⟨w.heap.size, 3, none⟩ = some (.int .i64 b) := fun x => x.cell BY.out.1.lt (BY.out.1.cell (j := 3) rfl)
      have k4 : ∀ x : Kept Y.heap.size Y, x.w.cell? ⟨w.heap.size, 4, none⟩ = some (.int .i64 c) := fun x => x.cell BY.out.1.lt (BY.out.1.cell (j := 4) rfl)
      have k5 : ∀ x : Kept Y.heap.size Y, x.w.cell? ⟨w.heap.size, 5, none⟩ = some (.int .i64 d) := fun x => x.cell BY.out.1.lt (BY.out.1.cell (j := 5) rfl)
      refine wp_region_last' Y.heap.size (by kernel_rfl) rfl rfl (by kernel_rfl) (lastOk_of (by kernel_rfl)) ?_
      intro hne
      dsimp only [List.dropLast]
      repeat (go_big_quiet_step (first | (go_at_call 111; exact Calls.kept_of (Nat.le_refl _) (timesB_any _ _ _)) | (go_at_call 137; exact Calls.kept_of (Nat.le_refl _) (plusB_any _ _ _))))
      refine wpQuiet_nil ?_
      rintro u ⟨xk, hxk⟩
      have hR1 := xk.h
      rw [← hxk] at hR1
      clear hxk xk hne k0 k1 k2 k3 k4 k5
      have BU : Hid (Blk u w.heap.size #[.int .i64 (I : Int), .int .i64 (J : Int), .int .i64 a, .int .i64 b, .int .i64 c, .int .i64 d] 111 ∧ Gm lo hi u m n (fun _ => wd) (cpl F I J a b c d k) ∧ Within lo hi w u) := by
        have hl := BY.out.1.lt
        have hh := HNE.out.2
        exact ⟨BY.out.1.old hR1, BY.out.2.1.keep (fun q _ h2 => hR1.block q (by omega)), BY.out.2.2.trans ⟨hR1.mono (by omega), fun q _ h2 => hR1.block q h2⟩⟩
      clear hR1 BY
      have g1 : u.cell? ⟨m.bs I, m.os I + k, none⟩ = some (.int .i64 (F I k)) := by have := BU.out.2.1.cellAt hI hkn; simpa [cpl] using this
      have g3 : u.frozen? ⟨m.bs I, m.os I + k, none⟩ = false := (BU.out.2.1.row I hI).frozen _
      go_wp2_with fail
      clear g1 g3
      obtain ⟨V, hV⟩ : ∃ V, V = u.setCell ⟨m.bs I, m.os I + k, none⟩ (.int .i64 (Rm.addM (Rm.mulM a (F I k)) (Rm.mulM b (F J k)))) := ⟨_, rfl⟩
      have BV : Hid (Blk V w.heap.size #[.int .i64 (I : Int), .int .i64 (J : Int), .int .i64 a, .int .i64 b, .int .i64 c, .int .i64 d] 111 ∧ Gm lo hi V m n (fun _ => wd) (fun r t => if r = I ∧ t = k then (Rm.addM (Rm.mulM a (F I k)) (Rm.mulM b (F J k))) else cpl F I J a b c d k r t) ∧ Within lo hi w V) := by
        have hl := BU.out.2.1.rhi I hI
        have hh := HNE.out.2
        rw [hV]
        exact ⟨BU.out.1.setOther (p := ⟨m.bs I, m.os I + k, none⟩) (by show w.heap.size ≠ m.bs I; omega) _, BU.out.2.1.set hI hkn _, BU.out.2.2.setCell (p := ⟨m.bs I, m.os I + k, none⟩) (BU.out.2.1.rlo I hI) hl _⟩
      rw [← hV]
      clear hV BU
      have k0 : ∀ x : Kept V.heap.size V, x.w.cell? ⟨w.heap.size, 0, none⟩ = some (.int .i64 (I : Int)) := fun x => x.cell BV.out.1.lt (BV.out.1.cell (j := 0) rfl)
      have k1 : ∀ x : Kept V.heap.size V, x.w.cell? ⟨w.heap.size, 1, none⟩ = some (.int .i64 (J : Int)) := fun x => x.cell BV.out.1.lt (BV.out.1.cell (j := 1) rfl)
      have k2 : ∀ x : Kept V.heap.size V, x.w.cell? ⟨w.heap.size, 2, none⟩ = some (.int .i64 a) := fun x => x.cell BV.out.1.lt (BV.out.1.cell (j := 2) rfl)
      have k3 : ∀ x : Kept V.heap.size V, x.w.cell? ⟨w.heap.size, 3, none⟩ = some (.int .i64 b) := fun x => x.cell BV.out.1.lt (BV.out.1.cell (j := 3) rfl)
      have k4 : ∀ x : Kept V.heap.size V, x.w.cell? ⟨w.heap.size, 4, none⟩ = some (.int .i64 c) := fun x => x.cell BV.out.1.lt (BV.out.1.cell (j := 4) rfl)
      have k5 : ∀ x : Kept V.heap.size V, x.w.cell? ⟨w.heap.size, 5, none⟩ = some (.int .i64 d) := fun x => x.cell BV.out.1.lt (BV.out.1.cell (j := 5) rfl)
      refine wp_region_last' V.heap.size (by kernel_rfl) rfl rfl (by kernel_rfl) (lastOk_of (by kernel_rfl)) ?_
      intro hne
      dsimp only [List.dropLast]
      repeat (go_big_quiet_step (first | (go_at_call 111; exact Calls.kept_of (Nat.le_refl _) (timesB_any _ _ _)) | (go_at_call 137; exact Calls.kept_of (Nat.le_refl _) (plusB_any _ _ _))))
      refine wpQuiet_nil ?_
      rintro u ⟨xk, hxk⟩
      have hR1 := xk.h
      rw [← hxk] at hR1
      clear hxk xk hne k0 k1 k2 k3 k4 k5
      have BU : Hid (Blk u w.heap.size #[.int .i64 (I : Int), .int .i64 (J : Int), .int .i64 a, .int .i64 b, .int .i64 c, .int .i64 d] 111 ∧ Gm lo hi u m n (fun _ => wd) (fun r t => if r = I ∧ t = k then (Rm.addM (Rm.mulM a (F I k)) (Rm.mulM b (F J k))) else cpl F I J a b c d k r t) ∧ Within lo hi w u) := by
        have hl := BV.out.1.lt
        have hh := HNE.out.2
        exact ⟨BV.out.1.old hR1, BV.out.2.1.keep (fun q _ h2 => hR1.block q (by omega)), BV.out.2.2.trans ⟨hR1.mono (by omega), fun q _ h2 => hR1.block q h2⟩⟩
      clear hR1 BV
      have g1 : u.cell? ⟨m.bs J, m.os J + k, none⟩ = some (.int .i64 (if J = I ∧ k = k then (Rm.addM (Rm.mulM a (F I k)) (Rm.mulM b (F J k))) else cpl F I J a b c d k J k)) := BU.out.2.1.cellAt hJ hkn
      have g3 : u.frozen? ⟨m.bs J, m.os J + k, none⟩ = false := (BU.out.2.1.row J hJ).frozen _
      have HN : Hid (Blk (u.setCell ⟨m.bs J, m.os J + k, none⟩ (.int .i64 (Rm.addM (Rm.mulM c (F I k)) (Rm.mulM d (F J k))))) w.heap.size #[.int .i64 (I : Int), .int .i64 (J : Int), .int .i64 a, .int .i64 b, .int .i64 c, .int .i64 d] 111 ∧ Gm lo hi (u.setCell ⟨m.bs J, m.os J + k, none⟩ (.int .i64 (Rm.addM (Rm.mulM c (F I k)) (Rm.mulM d (F J k))))) m n (fun _ => wd) (cpl F I J a b c d (k + 1)) ∧ Within lo hi w (u.setCell ⟨m.bs J, m.os J + k, none⟩ (.int .i64 (Rm.addM (Rm.mulM c (F I k)) (Rm.mulM d (F J k)))))) := by
        have hl := BU.out.2.1.rhi J hJ
        have hh := HNE.out
        refine ⟨BU.out.1.setOther (p := ⟨m.bs J, m.os J + k, none⟩) (by show w.heap.size ≠ m.bs J; omega) _, (BU.out.2.1.set hJ hkn _).congr (fun r t hr ht => ?_), BU.out.2.2.setCell (p := ⟨m.bs J, m.os J + k, none⟩) (BU.out.2.1.rlo J hJ) hl _⟩
        unfold cpl
        by_cases e : t = k
        · subst e
          by_cases e1 : r = J
          · simp [e1]
          · by_cases e2 : r = I
            · simp [e2, hh.1]
            · simp [e1, e2]
        · by_cases e3 : t < k
          · simp [e, e3, Nat.lt_succ_of_lt e3]
          · have e4 : ¬ t < k + 1 := by omega
            simp [e, e3, e4]
      clear BU
      obtain ⟨old, hold⟩ : ∃ o : Int, o = (if J = I ∧ k = k then (Rm.addM (Rm.mulM a (F I k)) (Rm.mulM b (F J k))) else cpl F I J a b c d k J k) := ⟨_, rfl⟩
      rw [← hold] at g1
      clear hold
      go_wp2
      exact ⟨⟨k + 1, by omega, by simp, HN⟩, by simp [intOf]; omega⟩
    · obtain rfl : k = wd := by omega
      go_wp2
      go_end0
      exact ⟨rfl, HS.out.2.1, HS.out.2.2⟩
end Go.Proofs.Ytboppklcmdfphaa
