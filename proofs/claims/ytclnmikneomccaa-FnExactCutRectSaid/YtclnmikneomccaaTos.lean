/- The laws' own copies of slices of numbers: contracts. -/
import Derived.Test.YtclnmikneomccaaMem
namespace Go.Proofs.Ytclnmikneomccaa
open Go.RowKit
theorem info2 : (Try.prog.info? 2).map (fun i => (i.zero, i.size, i.bytes)) = some (some (.int .i64 0), 1, 8) := by kernel_rfl
theorem info38 : (Try.prog.info? 29).map (fun i => (i.zero, i.size, i.bytes)) = some (some (.slice none 0 0), 1, 24) := by kernel_rfl

set_option maxHeartbeats 800000 in
theorem toS_some (b off n cap : Nat) (f : Nat → Int) (w : World) (hn : n ≤ 1000000000000) (hc : ∀ i, i < n → w.cell? ⟨b, off + i, none⟩ = some (.int .i64 (f i))) :
    Calls Try.prog 49 #[.slice (some ⟨b, off, none⟩) n cap] w fun e w' => e = .returned (.slice (some ⟨w.heap.size, 0, none⟩) n n) ∧
      Seg w' w.heap.size 2 0 n (fun i => .int .i64 (f i)) ∧ Below w.heap.size w w' ∧ w'.heap.size = w.heap.size + 1 := by
  have hmk := run_make_row' (P := Try.prog) 29 2 (.int .i64 0) 8 Try.underlying29 info2 rfl .i64 .i64 n (by omega) (by omega)
  go_enter Try.func49, Try.ntmps49
  go_wp2_with fail
  clear hmk
  go_loopw [4] (fun i wr => ∃ k : Nat, k ≤ n ∧ i = .int .i64 k ∧ Seg wr w.heap.size 2 0 n (fun j => if j < k then .int .i64 (f j) else .int .i64 0) ∧ Below w.heap.size w wr ∧ wr.heap.size = w.heap.size + 1) (fun i _ => n - (intOf i).toNat)
  case atStart => exact ⟨0, Nat.zero_le _, rfl, (seg_made w _ n 2).congr (fun j _ => by simp), (Below.refl _ _).alloc (Nat.le_refl _) _, by simp⟩
  case round =>
    obtain ⟨k, hk, rfl, hs, hb, hz⟩ := hrel
    by_cases hkn : k < n
    · have g1 : wr.cell? ⟨b, off + k, none⟩ = some (.int .i64 (f k)) := (hb.cell (World.block_lt_of_cell? _ _ (hc k hkn))).trans (hc k hkn)
      have g2 : wr.cell? ⟨w.heap.size, k, none⟩ = some (.int .i64 0) := by simpa using hs.cell hkn
      have g3 : wr.frozen? ⟨w.heap.size, k, none⟩ = false := hs.frozen k
      have HS : Hid (Seg wr w.heap.size 2 0 n (fun j => if j < k then .int .i64 (f j) else .int .i64 0) ∧ Below w.heap.size w wr ∧ wr.heap.size = w.heap.size + 1) := ⟨hs, hb, hz⟩
      clear hs hb hz hc
      go_wp2
      go_roundw
      case rel =>
        obtain ⟨hs, hb, hz⟩ := HS.out
        refine ⟨k + 1, by omega, by simp, ?_, hb.setCell (Nat.le_refl _) _, by simpa using hz⟩
        have := hs.set k hkn (.int .i64 (f k))
        rw [Nat.zero_add] at this
        refine this.congr fun j hj => ?_
        by_cases e : j = k
        · subst e; simp
        · by_cases e2 : j < k
          · simp [e, e2, Nat.lt_succ_of_lt e2]
          · simp [e, e2]; intro h; omega
      case measure => simp [intOf]; omega
    · obtain rfl : k = n := by omega
      clear hc
      go_wp2
      go_ret
      exact ⟨rfl, hs.congr fun j hj => by simp [hj], hb, hz⟩
theorem toS_none (ao : Option Addr) (cap : Nat) (f : Nat → Int) (w : World) :
    Calls Try.prog 49 #[.slice ao 0 cap] w fun e w' => e = .returned (.slice (some ⟨w.heap.size, 0, none⟩) 0 0) ∧
      Seg w' w.heap.size 2 0 0 (fun i => .int .i64 (f i)) ∧ Below w.heap.size w w' ∧ w'.heap.size = w.heap.size + 1 := by
  have hmk := run_make_row' (P := Try.prog) 29 2 (.int .i64 0) 8 Try.underlying29 info2 rfl .i64 .i64 0 (by omega) (by omega)
  rw [show ((0 : Nat) : Int) = 0 from rfl] at hmk
  have hS := seg_made w (.int .i64 0) 0 2
  have hB : Below w.heap.size w (w.alloc (.cells (madeCells #[.int .i64 0] 0) 2)) := (Below.refl _ _).alloc (Nat.le_refl _) _
  go_enter Try.func49, Try.ntmps49
  go_wp2_with fail
  refine wp_loop_rounds 1 ?_
  rw [rounds_succ]
  go_wp2
  go_ret
  exact ⟨rfl, hS.congr fun j hj => absurd hj (Nat.not_lt_zero _), hB, by simp⟩
theorem toS_any {w : World} {v : Value} {n : Nat} {f : Nat → Int} (h : RdRow w v n f) (hn : n ≤ 1000000000000) :
    Calls Try.prog 49 #[v] w fun e w' => e = .returned (.slice (some ⟨w.heap.size, 0, none⟩) n n) ∧
      Seg w' w.heap.size 2 0 n (fun i => .int .i64 (f i)) ∧ Below w.heap.size w w' ∧ w'.heap.size = w.heap.size + 1 := by
  rcases h with ⟨ao, cap, rfl, rfl⟩ | ⟨b, off, cap, rfl, hc⟩
  · exact toS_none ao cap f w
  · exact toS_some b off n cap f w hn hc

/-- Where a new matrix of n rows lies. -/
def newLie (B n : Nat) (L : Nat → Nat) : Lie := { b := B, cap := n, bs := fun i => B + 1 + i, os := fun _ => 0, cs := L }
theorem newLie_row (B n : Nat) (L : Nat → Nat) (i : Nat) : (newLie B n L).row L i = .slice (some ⟨B + 1 + i, 0, none⟩) (L i) (L i) := rfl
/-- A new matrix, k of its n rows laid. -/
structure Laying (B : Nat) (w : World) (n k : Nat) (L : Nat → Nat) (F : Rm.Mx) : Prop where
  top : Seg w B 29 0 n (fun i => if i < k then (newLie B n L).row L i else .slice none 0 0)
  row : ∀ i, i < k → Seg w (B + 1 + i) 2 0 (L i) (fun j => .int .i64 (F i j))
  size : w.heap.size = B + 1 + k
theorem laying_start (w : World) (n : Nat) (L : Nat → Nat) (F : Rm.Mx) : Laying w.heap.size (w.alloc (.cells (madeCells #[.slice none 0 0] n) 29)) n 0 L F :=
  ⟨(seg_made w _ n 29).congr (fun j _ => by simp), fun i hi => absurd hi (Nat.not_lt_zero _), by simp⟩
theorem Laying.step {B : Nat} {w w' : World} {n k : Nat} {L : Nat → Nat} {F : Rm.Mx} (h : Laying B w n k L F) (hk : k < n) (hb : Below w.heap.size w w') (hs : w'.heap.size = w.heap.size + 1)
    (hr : Seg w' w.heap.size 2 0 (L k) (fun j => .int .i64 (F k j))) :
    Laying B (w'.setCell ⟨B, k, none⟩ (.slice (some ⟨B + 1 + k, 0, none⟩) (L k) (L k))) n (k + 1) L F := by
  have hz := h.size
  have ht : Seg w' B 29 0 n (fun i => if i < k then (newLie B n L).row L i else .slice none 0 0) := h.top.of_block (hb.block _ (by omega))
  refine ⟨?_, fun i hi => ?_, by simp only [World.size_setCell]; omega⟩
  · have := ht.set k hk (.slice (some ⟨B + 1 + k, 0, none⟩) (L k) (L k))
    rw [Nat.zero_add] at this
    refine this.congr fun j _ => ?_
    by_cases e : j = k
    · subst e; simp [newLie_row]
    · by_cases e2 : j < k
      · simp [e, e2, Nat.lt_succ_of_lt e2]
      · simp [e, e2]; intro h; omega
  · refine Seg.setOther ?_ (by show B + 1 + i ≠ B; omega) _
    by_cases e : i = k
    · subst e; rw [hz] at hr; exact hr
    · exact (h.row i (by omega)).of_block (hb.block _ (by omega))
theorem Laying.mat {B : Nat} {w : World} {n : Nat} {L : Nat → Nat} {F : Rm.Mx} (h : Laying B w n n L F) : Mat B w.heap.size w (newLie B n L) n L F :=
  ⟨h.top.congr fun i hi => by simp [hi], h.row, Nat.le_refl _, by have := h.size; simp only [newLie]; omega, fun i _ => by simp only [newLie]; omega, fun i hi => by have := h.size; simp only [newLie]; omega, fun i j _ _ e => by simp only [newLie] at e; omega⟩
end Go.Proofs.Ytclnmikneomccaa
