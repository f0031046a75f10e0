/- RootMod of both packages: contracts. The program's roots stand in an array, from the last one down. -/
import Derived.Test.YtpkbpikdffbadaaDoorMem
namespace Go.Proofs.YtpkbpikdffbadaaDoor
open Go.RowKit
theorem sRoot_no (k : Int) (h : k < 0 ∨ 23 < k) (w : World) : Calls Tryd.prog 42 #[.int .i64 k] w fun e w' => e = .returned (.int .i64 (Rm.rootI k)) ∧ w = w' := by
  rw [show Rm.rootI k = 0 by simp [Rm.rootI, h]]
  by_cases h0 : k < 0
  · go_enter Tryd.func42, Tryd.ntmps42
    go_wp2
    go_ret
    exact ⟨rfl, rfl⟩
  · have h1 : 23 < k := by omega
    clear h
    go_enter Tryd.func42, Tryd.ntmps42
    go_wp2
    go_ret
    exact ⟨rfl, rfl⟩
set_option maxHeartbeats 800000 in
theorem sRoot_yes (k : Nat) (h : k ≤ 23) (w : World) : Calls Tryd.prog 42 #[.int .i64 k] w fun e w' => e = .returned (.int .i64 (Rm.rootI k)) ∧ w = w' := by
  have e0 : Rm.rootI k = Rm.powI 3 (Rm.half k) := by
    rw [Rm.powI_pos]
    simp only [Rm.rootI, Int.toNat_natCast]
    rw [if_neg (by omega)]
  have E0 : Hid (Rm.rootI k = Rm.powI 3 (Rm.half k)) := e0
  clear e0
  have hp : decide ((k : Int) < 0) = false := by simp
  go_enter Tryd.func42, Tryd.ntmps42
  go_wp2_with fail
  go_loopw [3, 4] (fun v i wr => wr = w ∧ ∃ q : Nat, q ≤ k ∧ i = .int .i64 q ∧ v = .int .i64 (Rm.half q)) (fun _ i _ => k - (intOf i).toNat)
  case atStart => exact ⟨rfl, 0, Nat.zero_le _, rfl, rfl⟩
  case round =>
    obtain ⟨rfl, q, hq, rfl, rfl⟩ := hrel
    have hh := Rm.half_le q
    by_cases hqk : q < k
    · go_wp2
      go_roundw
      case rel => exact ⟨by trivial, q + 1, by omega, by simp, by simp [Rm.half]⟩
      case measure => simp [intOf]; omega
    · obtain rfl : q = k := by omega
      go_wp2_with fail
      refine (sPow_any _ _ (by omega) _).mono ?_
      rintro e w1 ⟨rfl, rfl⟩
      go_wp2
      go_ret
      exact ⟨ret_int E0.out.symm, rfl⟩
theorem sRoot_any (k : Int) (w : World) : Calls Tryd.prog 42 #[.int .i64 k] w fun e w' => e = .returned (.int .i64 (Rm.rootI k)) ∧ w = w' := by
  by_cases h : k < 0 ∨ 23 < k
  · exact sRoot_no k h w
  · obtain ⟨m, rfl⟩ := Int.eq_ofNat_of_zero_le (show 0 ≤ k by omega)
    exact sRoot_yes m (by omega) w
theorem info48 : (Tryd.prog.info? 60).map (·.size) = some 24 := by kernel_rfl
theorem root_step (k : Nat) : Rm.mulM (Rm.powM 3 (119 * 2 ^ k)) (Rm.powM 3 (119 * 2 ^ k)) = Rm.powM 3 (119 * 2 ^ (k + 1)) := by
  rw [Rm.powM_sq, Nat.mul_assoc, ← Nat.pow_succ]
/-- The array's block, k of its numbers laid from the last one down. -/
def Laid (w : World) (b k : Nat) : Prop := ∃ c : Array Value, w.heap[b]? = some (.cells c 60 (0, 0)) ∧ c.size = 24 ∧ ∀ i, i < 24 → ∃ x, c[i]? = some (.int .i64 x) ∧ (24 ≤ i + k → x = Rm.powM 3 (Rm.half i))
theorem laid_step {w : World} {b k j : Nat} (h : Laid w b k) (hj : j + k = 23) : Laid (w.setCell ⟨b, j, none⟩ (.int .i64 (Rm.powM 3 (119 * 2 ^ k)))) b (k + 1) := by
  obtain ⟨c, hb, hz, hc⟩ := h
  refine ⟨c.setIfInBounds j (.int .i64 (Rm.powM 3 (119 * 2 ^ k))), heap_setCell_same _ _ _ _ _ _ hb, by simpa using hz, fun i hi => ?_⟩
  by_cases e : i = j
  · subst e
    refine ⟨_, by rw [Array.getElem?_setIfInBounds, if_pos rfl, if_pos (by omega)], fun _ => ?_⟩
    rw [show i = 23 - k by omega, Rm.half_up k (by omega)]
  · obtain ⟨x, h1, h2⟩ := hc i hi
    exact ⟨x, by rw [Array.getElem?_setIfInBounds, if_neg (fun h => e h.symm)]; exact h1, fun h => h2 (by omega)⟩
theorem one_cells {c : Array Value} (h : ∀ i, i < c.size → ∃ x, c[i]? = some (.int .i64 x)) : c.all (·.oneCell') = true := by
  rw [Array.all_eq_true]
  intro i hi
  obtain ⟨x, hx⟩ := h i hi
  rw [Array.getElem?_eq_getElem hi] at hx
  simp only [Option.some.injEq] at hx
  rw [hx]
  rfl
theorem below_setRow' {B : Nat} {a w : World} (h : Below B a w) {g : Nat} (hg : B ≤ g) (cs : Array Value) : Below B a (w.setRow g cs) :=
  h.trans ⟨rfl, rfl, rfl, by simp, fun k hk => setRow_other _ _ _ _ (by omega)⟩
set_option maxHeartbeats 1600000 in
theorem unitRoots_any (w : World) : Calls Tryd.prog 53 #[] w fun e w' => ∃ c : Array Value, e = .returned (.agg c) ∧ c.size = 24 ∧ (∀ i, i < 24 → c[i]? = some (.int .i64 (Rm.powM 3 (Rm.half i)))) ∧ Below w.heap.size w w' := by
  go_enter Tryd.func53, Tryd.ntmps53
  go_wp2_with fail
  refine (iPow_any _ _ (by omega) _).mono ?_
  rintro e w1 ⟨rfl, hw1⟩
  have H1 : Hid (Laid w1 (w.heap.size + 1) 0 ∧ (∃ z : Array Value, w1.heap[w.heap.size]? = some (.cells z 60 (0, 0)) ∧ z.size = 24) ∧ Below w.heap.size w w1) := by
    rw [← hw1]
    refine ⟨⟨_, heap_alloc2_new _ _ _, rfl, fun i hi => ⟨0, ?_, fun h => by omega⟩⟩, ⟨_, heap_alloc2_old _ _ _, rfl⟩, ((Below.refl _ _).alloc (Nat.le_refl _) _).alloc (by simp) _⟩
    have : i = 0 ∨ i = 1 ∨ i = 2 ∨ i = 3 ∨ i = 4 ∨ i = 5 ∨ i = 6 ∨ i = 7 ∨ i = 8 ∨ i = 9 ∨ i = 10 ∨ i = 11 ∨ i = 12 ∨ i = 13 ∨ i = 14 ∨ i = 15 ∨ i = 16 ∨ i = 17 ∨ i = 18 ∨ i = 19 ∨ i = 20 ∨ i = 21 ∨ i = 22 ∨ i = 23 := by omega
    rcases this with rfl | rfl | rfl | rfl | rfl | rfl | rfl | rfl | rfl | rfl | rfl | rfl | rfl | rfl | rfl | rfl | rfl | rfl | rfl | rfl | rfl | rfl | rfl | rfl <;> rfl
  clear hw1
  rw [show (119 : Int) = ((119 : Nat) : Int) from rfl, Rm.powI_pos]
  go_wp2_with fail
  go_loopw [5, 2] (fun i r wr => ∃ k : Nat, k ≤ 24 ∧ i = .int .i64 k ∧ r = .int .i64 (Rm.powM 3 (119 * 2 ^ k)) ∧ Laid wr (w.heap.size + 1) k ∧ (∃ z : Array Value, wr.heap[w.heap.size]? = some (.cells z 60 (0, 0)) ∧ z.size = 24) ∧ Below w.heap.size w wr) (fun i _ _ => 24 - (intOf i).toNat)
  case atStart => exact ⟨0, Nat.zero_le _, rfl, by simp, H1.out⟩
  case round =>
    obtain ⟨k, hk, rfl, rfl, hl, hz, hb⟩ := hrel
    clear H1
    by_cases hk2 : k < 24
    · obtain ⟨j, hj⟩ : ∃ j : Nat, j + k = 23 := ⟨23 - k, by omega⟩
      have hjk : (23 : Int) - (k : Int) = (j : Int) := by omega
      have hj24 : j < 24 := by omega
      have g2 : ∃ x, wr.cell? ⟨w.heap.size + 1, j, none⟩ = some (.int .i64 x) := by
        obtain ⟨c, hc, _, hx⟩ := hl
        obtain ⟨x, hx, _⟩ := hx j hj24
        exact ⟨x, by simp [World.cell?, hc, hx]⟩
      obtain ⟨x, g2⟩ := g2
      have g3 : wr.frozen? ⟨w.heap.size + 1, j, none⟩ = false := by
        obtain ⟨c, hc, _⟩ := hl
        simp [World.frozen?, hc]
      have HS : Hid (Laid wr (w.heap.size + 1) k ∧ (∃ z : Array Value, wr.heap[w.heap.size]? = some (.cells z 60 (0, 0)) ∧ z.size = 24) ∧ Below w.heap.size w wr ∧ j + k = 23) := ⟨hl, hz, hb, hj⟩
      clear hl hz hb hj
      go_wp2_with fail
      refine (iMul_any _ _ _).mono ?_
      rintro e w2 ⟨rfl, rfl⟩
      rw [root_step]
      go_wp2
      go_roundw
      case rel =>
        obtain ⟨hl, ⟨z, hz1, hz2⟩, hb, hj⟩ := HS.out
        refine ⟨k + 1, by omega, by simp, rfl, laid_step hl hj, ⟨z, ?_, hz2⟩, hb.setCell (by show w.heap.size ≤ w.heap.size + 1; omega) _⟩
        rw [Below.heap_setCell _ _ _ _ (by show w.heap.size ≠ w.heap.size + 1; omega)]
        exact hz1
      case measure => simp [intOf]; omega
    · obtain rfl : k = 24 := by omega
      obtain ⟨c, hc, hc24, hx⟩ := hl
      obtain ⟨z, hz1, hz2⟩ := hz
      have HX : Hid (∀ i, i < 24 → c[i]? = some (.int .i64 (Rm.powM 3 (Rm.half i)))) := fun i hi => by
        obtain ⟨x, h1, h2⟩ := hx i hi
        rw [h1, h2 (by omega)]
      have H1c : Hid (c.all (·.oneCell') = true) := one_cells fun i hi => by obtain ⟨x, h1, _⟩ := hx i (by omega); exact ⟨x, h1⟩
      clear hx
      have HB : Hid (Below w.heap.size w wr ∧ c.size = 24 ∧ z.size = 24) := ⟨hb, hc24, hz2⟩
      have HC : Hid (wr.heap[w.heap.size + 1]? = some (.cells c 60 (0, 0)) ∧ wr.heap[w.heap.size]? = some (.cells z 60 (0, 0))) := ⟨hc, hz1⟩
      clear hb hc24 hz2 hc hz1
      go_wp2_with (first | (refine wpList_load_row rfl 60 _ rfl (w.heap.size + 1) rfl 60 c (0, 0) _ HC.out.1 Tryd.underlying60 rfl (by rw [HB.out.2.1]; exact info48) ?_) | (refine wpList_store_row rfl 60 _ _ rfl w.heap.size c rfl rfl 60 z HC.out.2 (by rw [HB.out.2.1]; exact info48) (by rw [HB.out.2.1, HB.out.2.2]) H1c.out ?_))
      exact bodyPost_ret (v := .agg c) (results_cell_row Tryd.results53 _ _ w.heap.size 60 c (0, 0) _ rfl (setRow_heap _ _ z c 60 (0, 0) HC.out.2) Tryd.underlying60 rfl (by rw [HB.out.2.1]; exact info48)) rfl ⟨c, rfl, HB.out.2.1, HX.out, below_setRow' HB.out.1 (Nat.le_refl _) _⟩
theorem iRoot_no (k : Int) (h : k < 0 ∨ 23 < k) (w : World) : Calls Tryd.prog 46 #[.int .i64 k] w fun e w' => e = .returned (.int .i64 (Rm.rootI k)) ∧ Below w.heap.size w w' := by
  rw [show Rm.rootI k = 0 by simp [Rm.rootI, h]]
  by_cases h0 : k < 0
  · go_enter Tryd.func46, Tryd.ntmps46
    go_wp2
    go_ret
    exact ⟨rfl, Below.refl _ _⟩
  · have h1 : 23 < k := by omega
    clear h
    go_enter Tryd.func46, Tryd.ntmps46
    go_wp2
    go_ret
    exact ⟨rfl, Below.refl _ _⟩
set_option maxHeartbeats 800000 in
theorem iRoot_yes (k : Nat) (h : k ≤ 23) (w : World) : Calls Tryd.prog 46 #[.int .i64 k] w fun e w' => e = .returned (.int .i64 (Rm.rootI k)) ∧ Below w.heap.size w w' := by
  have E0 : Hid (Rm.rootI k = Rm.powM 3 (Rm.half k)) := by
    show Rm.rootI k = Rm.powM 3 (Rm.half k)
    simp only [Rm.rootI, Int.toNat_natCast]
    rw [if_neg (by omega)]
  have hp : decide ((k : Int) < 0) = false := by simp
  go_enter Tryd.func46, Tryd.ntmps46
  go_wp2_with fail
  refine (unitRoots_any _).mono ?_
  rintro e w1 ⟨c, rfl, hc24, hx, hb1⟩
  have HX : Hid (∀ i, i < 24 → c[i]? = some (.int .i64 (Rm.powM 3 (Rm.half i)))) := hx
  have H1c : Hid (c.all (·.oneCell') = true) := one_cells fun i hi => ⟨_, hx i (by omega)⟩
  have HB : Hid (Below w.heap.size w w1 ∧ c.size = 24) := ⟨hb1, hc24⟩
  have hcell : ∀ z : Array Value, ((w1.alloc (.cells z 60)).setRow w1.heap.size c).cell? ⟨w1.heap.size, k, none⟩ = some (.int .i64 (Rm.powM 3 (Rm.half k))) := fun z => by
    rw [cell_setRow_same _ _ _ z c 60 (0, 0) (heap_alloc_new _ _)]
    exact hx k (by omega)
  clear hx hb1 hc24
  go_wp2_with (first | (refine wpList_store_row rfl 60 _ _ rfl w1.heap.size c rfl rfl 60 _ (heap_alloc_new _ _) (by rw [HB.out.2]; exact info48) (by rw [HB.out.2]; rfl) H1c.out ?_))
  go_ret
  exact ⟨ret_int E0.out.symm, below_setRow' (HB.out.1.alloc HB.out.1.size _) HB.out.1.size _⟩
theorem iRoot_any (k : Int) (w : World) : Calls Tryd.prog 46 #[.int .i64 k] w fun e w' => e = .returned (.int .i64 (Rm.rootI k)) ∧ Below w.heap.size w w' := by
  by_cases h : k < 0 ∨ 23 < k
  · exact iRoot_no k h w
  · obtain ⟨m, rfl⟩ := Int.eq_ofNat_of_zero_le (show 0 ≤ k by omega)
    exact iRoot_yes m (by omega) w
end Go.Proofs.YtpkbpikdffbadaaDoor
