/- A glass's index: the program's way; what both packages answer of a colour. -/
import Derived.Test.YtndfncjoknibaaaDoorGi
import Derived.Test.YtndfncjoknibaaaDoorTh
import Derived.Test.YtndfncjoknibaaaDoorSx
import Derived.Test.YtndfncjoknibaaaDoorIy
namespace Go.Proofs.YtndfncjoknibaaaDoor
open Go.RowKit Fl
set_option linter.unusedVariables false
set_option maxHeartbeats 3200000 in
theorem iIx1 {s : ByteArray} {lo hi nm : Int} {b off cap : Nat} {f : Nat → Int} {x : Nat} {w : World} (hx : x < 18446744073709551616) (hc : ∀ i, i < 6 → w.cell? ⟨b, off + i, none⟩ = some (.int .i64 (f i))) :
    FV 53 #[.agg #[.string s, .int .i64 1, .int .i64 lo, .int .i64 hi, .slice (some ⟨b, off, none⟩) 6 cap, .float .f64 x], .int .i64 nm] w (opC .add (sqO (sixN f (wC nm) 3)) (cl x)) := by
  have hadd := add_run
  have hmul := mul_run
  have hquo := quo_run
  have hcv := conv_run
  have hc1 := cell_opW
  unfold FV
  go_enter Tryd.func53, Tryd.ntmps53
  obtain ⟨X, hX⟩ : ∃ X, X = w.alloc (.cells #[.string s, .int .i64 1, .int .i64 lo, .int .i64 hi, .slice (some ⟨b, off, none⟩) 6 cap, .float .f64 x] 28) := ⟨_, rfl⟩
  have HX : Hid (Below w.heap.size w X ∧ Six X w.heap.size (.string s) (.int .i64 1) (.int .i64 lo) (.int .i64 hi) (.slice (some ⟨b, off, none⟩) 6 cap) (.float .f64 x)) := by
    rw [hX]; exact ⟨(Below.refl _ _).alloc (Nat.le_refl _) _, six_new _ _ _ _ _ _ _ _⟩
  have hXs : w.heap.size + 1 ≤ X.heap.size := by rw [hX]; simp
  have HC : Hid (∀ i, i < 6 → ∀ W, Below (w.heap.size + 1) X W → W.cell? ⟨b, off + i, none⟩ = some (.int .i64 (f i))) := fun i hi W h => by
    have h1 : X.cell? ⟨b, off + i, none⟩ = some (.int .i64 (f i)) := by rw [hX]; exact alloc_keeps (hc i hi)
    exact (h.cell (Nat.lt_succ_of_lt (World.block_lt_of_cell? _ _ (hc i hi)))).trans h1
  have hq : ∀ W W', Fc (opV .mul (opV .quo (fi nm) 4652007308841189376 W) (opV .quo (fi nm) 4652007308841189376 W) W') (wC nm) := fun W W' => by
    have h1 : Fc (opV .quo (fi nm) 4652007308841189376 W) (lC nm) := fc_op _ (fc_own (fi_lt nm)) (fc_own (by omega)) _
    exact fc_op _ h1 h1 _
  have z4 : ∀ W, Below (w.heap.size + 1) X W → W.cell? ⟨w.heap.size, 4, none⟩ = some (.slice (some ⟨b, off, none⟩) 6 cap) := fun W h => (HX.out.2.below h (by omega)).c4
  have z5 : ∀ W, Below (w.heap.size + 1) X W → W.cell? ⟨w.heap.size, 5, none⟩ = some (.float .f64 x) := fun W h => (HX.out.2.below h (by omega)).c5
  clear hc
  go_wp2_with fail
  rw [← hX]
  clear hX
  go_region_held (fun W => Below (w.heap.size + 1) X W) (first | with_reducible assumption | with_reducible exact Below.drew ‹_› | with_reducible exact below_opW ‹_› | with_reducible exact Below.drew (below_opW (below_opW (Below.refl _ _))))
    (first | (go_at_call 74; refine (six_any (hq _ _) (fun i hi => HC.out i hi _ (by with_reducible (first | assumption | exact Below.drew ‹_›)))).mono ?_; rintro e w4 ⟨v4, rfl, hv4, hb⟩; have hR4 := box_step (by with_reducible (first | assumption | exact Below.drew ‹_›) : Below (w.heap.size + 1) X _) hb hXs; clear hb)
           | (go_at_call 73; refine (iSqF hv4 _).mono ?_; rintro e w5 ⟨v5, rfl, hv5, hb⟩; have hR5 := box_step (by with_reducible (first | assumption | exact Below.drew ‹_›) : Below (w.heap.size + 1) X _) hb hXs; clear hb))
  all_goals
    go_wp2
    go_ret
    exact ⟨_, rfl, fc_op _ hv5 (fc_own hx) _, HX.out.1.trans (Below.mono (by with_reducible assumption) (by omega))⟩
set_option maxHeartbeats 3200000 in
theorem iIx2 {s : ByteArray} {lo hi nm : Int} {b off cap : Nat} {f : Nat → Int} {x : Nat} {w : World} (hx : x < 18446744073709551616) (hc : ∀ i, i < 3 → w.cell? ⟨b, off + i, none⟩ = some (.int .i64 (f i))) :
    FV 53 #[.agg #[.string s, .int .i64 2, .int .i64 lo, .int .i64 hi, .slice (some ⟨b, off, none⟩) 3 cap, .float .f64 x], .int .i64 nm] w (opC .add (threeC f (wC nm)) (cl x)) := by
  have hadd := add_run
  have hmul := mul_run
  have hquo := quo_run
  have hcv := conv_run
  have hc1 := cell_opW
  unfold FV
  go_enter Tryd.func53, Tryd.ntmps53
  obtain ⟨X, hX⟩ : ∃ X, X = w.alloc (.cells #[.string s, .int .i64 2, .int .i64 lo, .int .i64 hi, .slice (some ⟨b, off, none⟩) 3 cap, .float .f64 x] 28) := ⟨_, rfl⟩
  have HX : Hid (Below w.heap.size w X ∧ Six X w.heap.size (.string s) (.int .i64 2) (.int .i64 lo) (.int .i64 hi) (.slice (some ⟨b, off, none⟩) 3 cap) (.float .f64 x)) := by
    rw [hX]; exact ⟨(Below.refl _ _).alloc (Nat.le_refl _) _, six_new _ _ _ _ _ _ _ _⟩
  have hXs : w.heap.size + 1 ≤ X.heap.size := by rw [hX]; simp
  have HC : Hid (∀ i, i < 3 → ∀ W, Below (w.heap.size + 1) X W → W.cell? ⟨b, off + i, none⟩ = some (.int .i64 (f i))) := fun i hi W h => by
    have h1 : X.cell? ⟨b, off + i, none⟩ = some (.int .i64 (f i)) := by rw [hX]; exact alloc_keeps (hc i hi)
    exact (h.cell (Nat.lt_succ_of_lt (World.block_lt_of_cell? _ _ (hc i hi)))).trans h1
  have hq : ∀ W W', Fc (opV .mul (opV .quo (fi nm) 4652007308841189376 W) (opV .quo (fi nm) 4652007308841189376 W) W') (wC nm) := fun W W' => by
    have h1 : Fc (opV .quo (fi nm) 4652007308841189376 W) (lC nm) := fc_op _ (fc_own (fi_lt nm)) (fc_own (by omega)) _
    exact fc_op _ h1 h1 _
  have z4 : ∀ W, Below (w.heap.size + 1) X W → W.cell? ⟨w.heap.size, 4, none⟩ = some (.slice (some ⟨b, off, none⟩) 3 cap) := fun W h => (HX.out.2.below h (by omega)).c4
  have z5 : ∀ W, Below (w.heap.size + 1) X W → W.cell? ⟨w.heap.size, 5, none⟩ = some (.float .f64 x) := fun W h => (HX.out.2.below h (by omega)).c5
  clear hc
  go_wp2_with fail
  rw [← hX]
  clear hX
  go_region_held (fun W => Below (w.heap.size + 1) X W) (first | with_reducible assumption | with_reducible exact Below.drew ‹_› | with_reducible exact below_opW ‹_› | with_reducible exact Below.drew (below_opW (below_opW (Below.refl _ _))))
    (first | (go_at_call 75; refine (three_any (hq _ _) (fun i hi => HC.out i hi _ (by with_reducible (first | assumption | exact Below.drew ‹_›)))).mono ?_; rintro e w4 ⟨v4, rfl, hv4, hb⟩; have hR4 := box_step (by with_reducible (first | assumption | exact Below.drew ‹_›) : Below (w.heap.size + 1) X _) hb hXs; clear hb))
  all_goals
    go_wp2
    go_ret
    exact ⟨_, rfl, fc_op _ hv4 (fc_own hx) _, HX.out.1.trans (Below.mono (by with_reducible assumption) (by omega))⟩
/-- The index of a right glass. -/
def ixC (kd : Int) (f : Nat → Int) (nm : Int) (x : Nat) : Option Nat := opC .add (if kd = 1 then sqO (sixN f (wC nm) 3) else threeC f (wC nm)) (cl x)
theorem gfault_zero {s : ByteArray} {kd lo hi : Int} {n : Nat} {f : Nat → Int} {x : Nat} (h : gfault s kd lo hi n f x = 0) : nameB s = true ∧ many kd = (n : Int) ∧ rangeB lo hi = true ∧ anyBey n f = false ∧ shB x = true := by
  by_cases hf : nameB s = true ∧ many kd = (n : Int)
  · rw [gfault_rest hf.1 hf.2] at h
    unfold grest at h
    by_cases hr : (rangeB lo hi && !anyBey n f && shB x) = true
    · simp only [Bool.and_eq_true, Bool.not_eq_true'] at hr
      exact ⟨hf.1, hf.2, hr.1.1, hr.1.2, hr.2⟩
    · rw [if_neg hr] at h
      exact absurd h (by decide)
  · rw [gfault_form hf] at h
    exact absurd h (by decide)
theorem many_cases {kd : Int} {n : Nat} (h : many kd = (n : Int)) : (kd = 1 ∧ n = 6) ∨ (kd = 2 ∧ n = 3) := by
  unfold many at h
  by_cases h1 : kd = 1
  · rw [if_pos h1] at h; omega
  · rw [if_neg h1] at h
    by_cases h2 : kd = 2
    · rw [if_pos h2] at h; omega
    · rw [if_neg h2] at h; omega
theorem rd_some {w : World} {v : Value} {n : Nat} {f : Nat → Int} (h : RdRow w v n f) (hn : 0 < n) : ∃ b off cap, v = .slice (some ⟨b, off, none⟩) n cap ∧ ∀ i, i < n → w.cell? ⟨b, off + i, none⟩ = some (.int .i64 (f i)) := by
  rcases h with ⟨ao, cap, rfl, rfl⟩ | ⟨b, off, cap, rfl, hc⟩
  · omega
  · exact ⟨b, off, cap, rfl, hc⟩
theorem sIx_any {s : ByteArray} {kd lo hi nm : Int} {v : Value} {n : Nat} {f : Nat → Int} {x : Nat} {w : World} (h : RdRow w v n f) (hm : many kd = (n : Int)) (hx : x < 18446744073709551616) :
    FV 51 #[.agg #[.string s, .int .i64 kd, .int .i64 lo, .int .i64 hi, v, .float .f64 x], .int .i64 nm] w (ixC kd f nm x) := by
  rcases many_cases hm with ⟨rfl, rfl⟩ | ⟨rfl, rfl⟩
  · obtain ⟨b, off, cap, rfl, hc⟩ := rd_some h (by omega)
    exact sIx1 hx hc
  · obtain ⟨b, off, cap, rfl, hc⟩ := rd_some h (by omega)
    exact sIx2 hx hc
theorem iIx_any {s : ByteArray} {kd lo hi nm : Int} {v : Value} {n : Nat} {f : Nat → Int} {x : Nat} {w : World} (h : RdRow w v n f) (hm : many kd = (n : Int)) (hx : x < 18446744073709551616) :
    FV 53 #[.agg #[.string s, .int .i64 kd, .int .i64 lo, .int .i64 hi, v, .float .f64 x], .int .i64 nm] w (ixC kd f nm x) := by
  rcases many_cases hm with ⟨rfl, rfl⟩ | ⟨rfl, rfl⟩
  · obtain ⟨b, off, cap, rfl, hc⟩ := rd_some h (by omega)
    exact iIx1 hx hc
  · obtain ⟨b, off, cap, rfl, hc⟩ := rd_some h (by omega)
    exact iIx2 hx hc
def inB (lo hi nm : Int) : Bool := decide (lo ≤ nm) && decide (nm ≤ hi)
set_option maxHeartbeats 800000 in
theorem sIn_any (s : ByteArray) (kd lo hi nm : Int) (v : Value) (x : Nat) (w : World) :
    Calls Tryd.prog 50 #[.agg #[.string s, .int .i64 kd, .int .i64 lo, .int .i64 hi, v, .float .f64 x], .int .i64 nm] w fun e w' => e = .returned (.bool (inB lo hi nm)) ∧ Below w.heap.size w w' := by
  unfold inB
  by_cases h1 : lo ≤ nm
  all_goals
    go_enter Tryd.func50, Tryd.ntmps50
    go_wp2
    go_ret
    exact ⟨ret_bool (by simp [h1] <;> omega), by go_grown⟩
/-- What is wrong with a glass and a stretch of colours. -/
def cfault (g lo hi a b : Int) : Int := if g = 0 then (if a < lo ∨ hi < b then 3 else 0) else g
set_option maxHeartbeats 1600000 in
theorem iCF_any {s : ByteArray} {kd lo hi a b : Int} {v : Value} {n : Nat} {f : Nat → Int} {x : Nat} {w : World} (h : RdRow w v n f) (T : Tab w) :
    Calls Tryd.prog 52 #[.agg #[.string s, .int .i64 kd, .int .i64 lo, .int .i64 hi, v, .float .f64 x], .int .i64 a, .int .i64 b] w fun e w' => e = .returned (.int .i64 (cfault (gfault s kd lo hi n f x) lo hi a b)) ∧ Below w.heap.size w w' := by
  obtain ⟨ao, cap, rfl⟩ := h.shape
  have H : Hid (RdRow w (.slice ao n cap) n f ∧ Tab w) := ⟨h, T⟩
  clear h T
  go_enter Tryd.func52, Tryd.ntmps52
  obtain ⟨X, hX⟩ : ∃ X, X = w.alloc (.cells #[.string s, .int .i64 kd, .int .i64 lo, .int .i64 hi, .slice ao n cap, .float .f64 x] 28) := ⟨_, rfl⟩
  have HX : Hid (Below w.heap.size w X ∧ Six X w.heap.size (.string s) (.int .i64 kd) (.int .i64 lo) (.int .i64 hi) (.slice ao n cap) (.float .f64 x)) := by
    rw [hX]; exact ⟨(Below.refl _ _).alloc (Nat.le_refl _) _, six_new _ _ _ _ _ _ _ _⟩
  go_wp2_with fail
  rw [← hX]
  clear hX
  refine (iGF_any (H.out.1.later HX.out.1) (H.out.2.later HX.out.1)).mono ?_
  rintro e w1 ⟨rfl, b1⟩
  generalize hcode : gfault s kd lo hi n f x = code
  have HG : Hid (gfault s kd lo hi n f x = code) := hcode
  clear hcode
  obtain ⟨c0, c1, c2, c3, c4, c5⟩ := HX.out.2.later b1
  have HB : Hid (Below w.heap.size w w1) := HX.out.1.trans (b1.mono HX.out.1.size)
  clear b1 c0 c1 c4 c5 HX H
  by_cases hz : code = 0
  · subst hz
    by_cases r1 : a < lo
    · have e : Hid (cfault 0 lo hi a b = 3) := (show cfault 0 lo hi a b = 3 by unfold cfault; rw [if_pos rfl, if_pos (Or.inl r1)])
      go_wp2
      go_ret
      exact ⟨ret_int (by rw [HG.out]; exact e.out.symm), HB.out⟩
    · by_cases r2 : hi < b
      · have e : Hid (cfault 0 lo hi a b = 3) := (show cfault 0 lo hi a b = 3 by unfold cfault; rw [if_pos rfl, if_pos (Or.inr r2)])
        go_wp2
        go_ret
        exact ⟨ret_int (by rw [HG.out]; exact e.out.symm), HB.out⟩
      · have e : Hid (cfault 0 lo hi a b = 0) := (show cfault 0 lo hi a b = 0 by unfold cfault; rw [if_pos rfl, if_neg (fun h => h.elim r1 r2)])
        go_wp2
        go_ret
        exact ⟨ret_int (by rw [HG.out]; exact e.out.symm), HB.out⟩
  · have e : Hid (cfault code lo hi a b = code) := (show cfault code lo hi a b = code by unfold cfault; rw [if_neg hz])
    go_wp2
    go_ret
    exact ⟨ret_int (by rw [HG.out]; exact e.out.symm), HB.out⟩
end Go.Proofs.YtndfncjoknibaaaDoor
