/- impl.UnwrapRow. -/
import Derived.Test.YtbagaicbochmnaaOn
import Derived.Test.YtbagaicbochmnaaLa
namespace Go.Proofs.Ytbagaicbochmnaa
open Go.RowKit
set_option linter.unusedVariables false
/-- The row as far as it is unwrapped. -/
def unTo (f : Nat → Int) (k i : Nat) : Int := if i < k then unw f i else 0
theorem unTo_step {w : World} {b n k : Nat} {f : Nat → Int} (h : Seg w b 2 0 n (fun i => .int .i64 (unTo f k i))) (hk : k < n) : Seg (w.setCell ⟨b, k, none⟩ (.int .i64 (unw f k))) b 2 0 n (fun i => .int .i64 (unTo f (k + 1) i)) := by
  have := h.set k hk (.int .i64 (unw f k))
  rw [Nat.zero_add] at this
  refine this.congr fun i hi => ?_
  unfold unTo
  by_cases e : i = k
  · subst e
    rw [if_pos rfl, if_pos (by omega)]
  · by_cases e2 : i < k
    · rw [if_neg e, if_pos e2, if_pos (by omega)]
    · rw [if_neg e, if_neg e2, if_neg (by omega)]
set_option maxHeartbeats 2000000 in
theorem iUnw_some (b off n cap : Nat) (f : Nat → Int) (w : World) (hn : n ≤ 1100000) (hc : ∀ i, i < n → w.cell? ⟨b, off + i, none⟩ = some (.int .i64 (f i))) :
    Calls Try.prog 40 #[.slice (some ⟨b, off, none⟩) n cap] w fun e w' => e = .returned (.slice (some ⟨w.heap.size, 0, none⟩) n n) ∧ Seg w' w.heap.size 2 0 n (fun i => .int .i64 (unw f i)) ∧ Below w.heap.size w w' := by
  have hmk := run_make_row' (P := Try.prog) 34 2 (.int .i64 0) 8 Try.underlying34 info2 rfl .i64 .i64 n (by omega) (by omega)
  have HC : Hid (∀ i, i < n → w.cell? ⟨b, off + i, none⟩ = some (.int .i64 (f i))) := hc
  clear hc
  go_enter Try.func40, Try.ntmps40
  go_wp2_with fail
  go_loopw [11] (fun i wr => ∃ k : Nat, k ≤ n ∧ i = .int .i64 k ∧ Hid (Seg wr w.heap.size 2 0 n (fun i => .int .i64 (unTo f k i)) ∧ Below w.heap.size w wr)) (fun i _ => n - (intOf i).toNat)
  case atStart => exact ⟨0, Nat.zero_le _, rfl, (seg_made w _ n 2).congr (fun j _ => by simp [unTo]), (Below.refl _ _).alloc (Nat.le_refl _) _⟩
  case round =>
    obtain ⟨k, hk, rfl, HW⟩ := hrel
    clear hmk
    by_cases hkn : k < n
    · have g2 : wr.cell? ⟨b, off + k, none⟩ = some (.int .i64 (f k)) := (HW.out.2.cell (World.block_lt_of_cell? _ _ (HC.out k hkn))).trans (HC.out k hkn)
      have t0 : wr.cell? ⟨w.heap.size, k, none⟩ = some (.int .i64 (unTo f k k)) := by simpa using HW.out.1.cell hkn
      have t1 := HW.out.1.frozen k
      by_cases hz : k = 0
      · subst hz
        rw [Nat.add_zero] at g2
        go_wp2_with fail
        refine (iWrap_any _ _).mono ?_
        rintro e w1 ⟨rfl, rfl⟩
        have HN : Hid (Seg (wr.setCell ⟨w.heap.size, 0, none⟩ (.int .i64 (wph (f 0)))) w.heap.size 2 0 n (fun i => .int .i64 (unTo f (0 + 1) i)) ∧ Below w.heap.size w (wr.setCell ⟨w.heap.size, 0, none⟩ (.int .i64 (wph (f 0))))) :=
          ⟨unTo_step HW.out.1 hkn, HW.out.2.setCell (Nat.le_refl _) _⟩
        clear HW
        go_wp2
        go_roundw
        case rel => exact ⟨1, by omega, by simp, HN⟩
        case measure => simp [intOf]; omega
      · have hz0 : ((k : Int) == 0) = false := by rw [beq_eq_false_iff_ne]; omega
        obtain ⟨j, hj⟩ : ∃ j, k = j + 1 := ⟨k - 1, by omega⟩
        have hw1 : IntKind.i64.wrap ((k : Int) - 1) = (j : Int) := by rw [IntKind.wrap_i64]; omega
        have hw2 : (k : Int) - 1 = (j : Int) := by omega
        have g1 : wr.cell? ⟨b, off + j, none⟩ = some (.int .i64 (f j)) := (HW.out.2.cell (World.block_lt_of_cell? _ _ (HC.out j (by omega)))).trans (HC.out j (by omega))
        have t2 : wr.cell? ⟨w.heap.size, j, none⟩ = some (.int .i64 (unw f j)) := by have := HW.out.1.cell (show j < n by omega); rw [Nat.zero_add] at this; rw [this]; simp [unTo, hj]
        have HJ : Hid (k = j + 1) := hj
        have hjk : j < k := by omega
        have hjn : j < n := by omega
        have HL : Hid (wrap64 (unw f j + wst (f j) (f k)) = unw f k) := by subst hj; exact rfl
        clear hj hz
        go_upto_region 7 with fail
        have bl : b < wr.heap.size := World.block_lt_of_cell? _ _ g1
        have wl : w.heap.size < wr.heap.size := HW.out.1.lt
        have x1 : ∀ x : Kept wr.heap.size wr, x.w.cell? ⟨b, off + j, none⟩ = some (.int .i64 (f j)) := fun x => x.cell bl g1
        have x2 : ∀ x : Kept wr.heap.size wr, x.w.cell? ⟨w.heap.size, j, none⟩ = some (.int .i64 (unw f j)) := fun x => x.cell wl t2
        refine wp_region_last' wr.heap.size (by kernel_rfl) rfl rfl (by kernel_rfl) (lastOk_of (by kernel_rfl)) ?_
        intro hne
        dsimp only [List.dropLast]
        repeat (go_big_quiet_step (first | (go_at_call 76; exact Calls.kept_of (Nat.le_refl _) ((iStep_any _ _ _).mono fun e w' ⟨h1, h2⟩ => ⟨h1, by subst h2; exact Below.refl _ _⟩))))
        refine wpQuiet_nil ?_
        rintro u3 ⟨xk, hxk⟩
        have hR1 := xk.h
        rw [← hxk] at hR1
        clear hxk xk hne x1 x2
        rw [HL.out]
        have HU : Hid (Seg u3 w.heap.size 2 0 n (fun i => .int .i64 (unTo f k i)) ∧ Below w.heap.size w u3) := ⟨HW.out.1.of_block (hR1.block _ wl), HW.out.2.trans (hR1.mono HW.out.2.size)⟩
        have t3 : u3.cell? ⟨w.heap.size, k, none⟩ = some (.int .i64 (unTo f k k)) := by simpa using HU.out.1.cell hkn
        have t4 := HU.out.1.frozen k
        have HN : Hid (Seg (u3.setCell ⟨w.heap.size, k, none⟩ (.int .i64 (unw f k))) w.heap.size 2 0 n (fun i => .int .i64 (unTo f (k + 1) i)) ∧ Below w.heap.size w (u3.setCell ⟨w.heap.size, k, none⟩ (.int .i64 (unw f k)))) :=
          ⟨unTo_step HU.out.1 hkn, HU.out.2.setCell (Nat.le_refl _) _⟩
        clear HU HW t0 t1 g1 g2 t2 hR1
        go_wp2
        go_roundw
        case rel => exact ⟨k + 1, by omega, by simp, HN⟩
        case measure => simp [intOf]; omega
    · obtain rfl : k = n := by omega
      have HN : Hid (Seg wr w.heap.size 2 0 k (fun i => .int .i64 (unw f i)) ∧ Below w.heap.size w wr) := ⟨HW.out.1.congr fun i hi => by simp [unTo, hi], HW.out.2⟩
      clear HW
      go_wp2
      go_ret
      exact ⟨rfl, HN.out⟩
theorem iUnw_none (ao : Option Addr) (cap : Nat) (f : Nat → Int) (w : World) :
    Calls Try.prog 40 #[.slice ao 0 cap] w fun e w' => e = .returned (.slice (some ⟨w.heap.size, 0, none⟩) 0 0) ∧ Below w.heap.size w w' ∧ w.heap.size < w'.heap.size := by
  have hmk := run_make_row' (P := Try.prog) 34 2 (.int .i64 0) 8 Try.underlying34 info2 rfl .i64 .i64 0 (by omega) (by omega)
  rw [show ((0 : Nat) : Int) = 0 from rfl] at hmk
  have hB : Below w.heap.size w (w.alloc (.cells (madeCells #[.int .i64 0] 0) 2)) := (Below.refl _ _).alloc (Nat.le_refl _) _
  have hZ : w.heap.size < (w.alloc (.cells (madeCells #[.int .i64 0] 0) 2)).heap.size := by simp
  go_enter Try.func40, Try.ntmps40
  go_wp2_with fail
  clear hmk
  generalize hwv : w.alloc (.cells (madeCells #[.int .i64 0] 0) 2) = W at hB hZ ⊢
  refine wp_loop_rounds 1 ?_
  rw [rounds_succ]
  go_wp2
  go_ret
  exact ⟨rfl, hB, hZ⟩
theorem iUnw_any {v : Value} {n : Nat} {f : Nat → Int} {w : World} (h : RdRow w v n f) (hn : n ≤ 1100000) :
    Calls Try.prog 40 #[v] w fun e w' => ∃ u, e = .returned u ∧ OwnRow w.heap.size w'.heap.size w' u n (unw f) ∧ Below w.heap.size w w' := by
  rcases h with ⟨ao, cap, rfl, rfl⟩ | ⟨b, off, cap, rfl, hc⟩
  · refine (iUnw_none ao cap f w).mono ?_
    rintro e w' ⟨rfl, hb, hl⟩
    exact ⟨_, rfl, Or.inl ⟨rfl, _, _, rfl, fun a h => by cases h; exact ⟨Nat.le_refl _, hl⟩⟩, hb⟩
  · refine (iUnw_some b off n cap f w hn hc).mono ?_
    rintro e w' ⟨rfl, hs, hb⟩
    exact ⟨_, rfl, Or.inr ⟨_, _, rfl, Nat.le_refl _, hs.lt, Nat.le_refl _, hs⟩, hb⟩
end Go.Proofs.Ytbagaicbochmnaa
