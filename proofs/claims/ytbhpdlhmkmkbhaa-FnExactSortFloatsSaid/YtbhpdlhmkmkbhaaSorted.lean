/- The program's sorting of a list of floats: a contract. -/
import Derived.Test.YtbhpdlhmkmkbhaaStable
import Derived.Laws.CopyOwn
namespace Go.Proofs.Ytbhpdlhmkmkbhaa
open Go.RowKit Fl Sr
set_option linter.unusedVariables false
theorem size24 : (Try.prog.info? 24).map (·.size) = some 1 := by kernel_rfl
/-- 'copy' of a whole list of floats over another as long. -/
theorem copy_run (w : World) (B n b off cap : Nat) (f : Nat → Nat) (z : Nat → Value) (hB : Seg w B 24 0 n z) (hc : ∀ i, i < n → w.cell? ⟨b, off + i, none⟩ = some (.float .f64 (f i))) :
    ∃ w', (Builtin.copy_ #[34, 34] 3 #[.slice (some ⟨B, 0, none⟩) n n, .slice (some ⟨b, off, none⟩) n cap]).run Try.prog w = .ok (.int .i64 (n : Int)) w' ∧ Seg w' B 24 0 n (fun i => .float .f64 (f i)) ∧ Within B (B + 1) w w' ∧ w'.heap.size = w.heap.size := by
  obtain ⟨c, hb, hcc⟩ := hB
  obtain ⟨cs, hcs⟩ : ∃ cs : List Value, cs = (List.range n).map (fun i => .float .f64 (f i)) := ⟨_, rfl⟩
  have hl : cs.length = n := by rw [hcs]; simp
  have hget : ∀ j, j < n → cs[j]? = some (.float .f64 (f j)) := fun j hj => by rw [hcs]; simp [hj]
  have hsize : n ≤ c.size := by
    by_cases h0 : n = 0
    · omega
    · have := (Array.getElem?_eq_some_iff.1 (hcc (n - 1) (by omega))).1
      omega
  have hrun := run_copy_row (P := Try.prog) w 34 34 3 24 B 0 n n ⟨b, off, none⟩ n cap c 24 cs Try.underlying34 size24 hb (by rw [hl]; exact (Nat.min_self n).symm) (fun j v hj => by
    have hjn : j < n := by
      have := (List.getElem?_eq_some_iff.1 hj).1
      omega
    rw [hget j hjn] at hj
    have e : (⟨b, off, none⟩ : Addr).add j = ⟨b, off + j, none⟩ := by unfold Addr.add; split <;> simp_all
    rw [e, hc j hjn]
    exact hj) (by rw [hl, Nat.zero_add]; exact hsize) (fun v hv => by
    rw [hcs] at hv
    simp at hv
    obtain ⟨j, _, rfl⟩ := hv
    rfl)
  rw [hl] at hrun
  refine ⟨_, hrun, ?_, ?_, ?_⟩
  · refine ⟨_, setRow_heap w B c _ 24 (0, 0) hb, fun i hi => ?_⟩
    simp only [List.take_zero, List.nil_append]
    rw [List.getElem?_toArray, List.getElem?_append_left (by omega), Nat.zero_add]
    exact hget i hi
  · exact ⟨below_setRow (Below.refl _ _) (Nat.le_refl _) _, fun k hk _ => setRow_other w B k _ (by omega)⟩
  · simp [World.setRow]
theorem sortStable_any (B n : Nat) (f : Nat → Nat) (P : Nat) (w0 w : World) (hS : St w0 w B n f P) (hP : P ≠ B) (hn : n ≤ 1000000000000) :
    Calls Try.prog 65 #[.slice (some ⟨B, 0, none⟩) n n, clos P] w fun e w' => e = .returned (.tuple #[]) ∧ ∃ g, St w0 w' B n g P ∧ Pm 0 n f g ∧ Srt rk 0 n g := by
  have HK : Hid (Calls Try.prog 68 #[.slice (some ⟨B, 0, none⟩) n n, .int .i64 n, clos P] w fun e w' => e = .returned (.tuple #[]) ∧ ∃ g, St w0 w' B n g P ∧ Pm 0 n f g ∧ Srt rk 0 n g) := stable_any B n f P w0 w hS hP hn
  clear hS hP
  go_enter Try.func65, Try.ntmps65
  go_wp2_with fail
  refine HK.out.mono ?_
  rintro e w1 ⟨rfl, h1⟩
  have HN : Hid (∃ g, St w0 w1 B n g P ∧ Pm 0 n f g ∧ Srt rk 0 n g) := h1
  clear h1 HK
  go_wp2
  go_returns
  exact ⟨rfl, HN.out⟩
/-- A sorted copy in new memory. -/
def SortedOf (w w' : World) (v : Value) (n : Nat) (f : Nat → Nat) : Prop := ∃ B cap g, v = .slice (some ⟨B, 0, none⟩) n cap ∧ w.heap.size ≤ B ∧ Seg w' B 24 0 n (fun i => .float .f64 (g i)) ∧ (∀ i, i < n → g i < 18446744073709551616) ∧ Pm 0 n f g ∧ Srt rk 0 n g ∧ Below w.heap.size w w'
set_option maxHeartbeats 1600000 in
theorem sortedBy_any (b off n cap : Nat) (f : Nat → Nat) (w : World) (hn : n ≤ 1000000000000) (hc : ∀ i, i < n → w.cell? ⟨b, off + i, none⟩ = some (.float .f64 (f i))) (hf : ∀ i, i < n → f i < 18446744073709551616) :
    Calls Try.prog 56 #[.slice (some ⟨b, off, none⟩) n cap, .func (.func 20) #[] #[]] w fun e w' => ∃ v, e = .returned v ∧ SortedOf w w' v n f := by
  have hmk := run_make_row' (P := Try.prog) 34 24 (.float .f64 0) 8 Try.underlying34 info24 rfl .i64 .i64 n (by omega) (by omega)
  have HC : Hid (∀ i, i < n → w.cell? ⟨b, off + i, none⟩ = some (.float .f64 (f i))) := hc
  have HF : Hid (∀ i, i < n → f i < 18446744073709551616) := hf
  clear hc hf
  have HW : Hid (Seg ((w.alloc (.cells #[.func (.func 20) #[] #[]] 31)).alloc (.cells (madeCells #[.float .f64 0] n) 24)) (w.heap.size + 1) 24 0 n (fun _ => .float .f64 0) ∧ Below w.heap.size w ((w.alloc (.cells #[.func (.func 20) #[] #[]] 31)).alloc (.cells (madeCells #[.float .f64 0] n) 24)) ∧ World.cell? ((w.alloc (.cells #[.func (.func 20) #[] #[]] 31)).alloc (.cells (madeCells #[.float .f64 0] n) 24)) ⟨w.heap.size, 0, none⟩ = some (.func (.func 20) #[] #[])) := by
    refine ⟨?_, ?_, ?_⟩
    · have := seg_made (w.alloc (.cells #[.func (.func 20) #[] #[]] 31)) (.float .f64 0) n 24
      rw [World.size_alloc] at this
      exact this
    · exact ((Below.refl _ _).alloc (Nat.le_refl _) _).alloc (by simp) _
    · rw [World.cell?_alloc_lt _ _ _ (by simp)]
      simp
  have HCW : Hid (∀ i, i < n → World.cell? ((w.alloc (.cells #[.func (.func 20) #[] #[]] 31)).alloc (.cells (madeCells #[.float .f64 0] n) 24)) ⟨b, off + i, none⟩ = some (.float .f64 (f i))) := cells_later HC.out HW.out.2.1
  obtain ⟨w1, hcp, s1, i1, z1⟩ := copy_run _ (w.heap.size + 1) n b off cap f _ HW.out.1 HCW.out
  have HS : Hid (St w1 w1 (w.heap.size + 1) n f w.heap.size ∧ Below w.heap.size w w1) := by
    refine ⟨⟨s1, ?_, Within.refl _ _ _, rfl, HF.out⟩, HW.out.2.1.trans (i1.below.mono (by omega))⟩
    rw [i1.below.cell (by simp)]
    exact HW.out.2.2
  clear s1 i1 z1 HW HCW
  go_enter Try.func56, Try.ntmps56
  go_wp2_with fail
  refine (sortStable_any (w.heap.size + 1) n f w.heap.size w1 w1 HS.out.1 (by omega) hn).mono ?_
  rintro e w2 ⟨rfl, h2⟩
  have HN : Hid (SortedOf w w2 (.slice (some ⟨w.heap.size + 1, 0, none⟩) n n) n f) := by
    obtain ⟨g, s2, p2, q2⟩ := h2
    exact ⟨w.heap.size + 1, n, g, rfl, by omega, s2.seg, s2.lt, p2, q2, HS.out.2.trans (s2.within.below.mono (by omega))⟩
  clear h2 HS
  go_wp2
  go_ret
  exact ⟨_, rfl, HN.out⟩
theorem iSort_any (b off n cap : Nat) (f : Nat → Nat) (w : World) (hn : n ≤ 1000000000000) (hc : ∀ i, i < n → w.cell? ⟨b, off + i, none⟩ = some (.float .f64 (f i))) (hf : ∀ i, i < n → f i < 18446744073709551616) :
    Calls Try.prog 25 #[.slice (some ⟨b, off, none⟩) n cap] w fun e w' => ∃ v, e = .returned v ∧ SortedOf w w' v n f := by
  have HK : Hid (Calls Try.prog 56 #[.slice (some ⟨b, off, none⟩) n cap, .func (.func 20) #[] #[]] w fun e w' => ∃ v, e = .returned v ∧ SortedOf w w' v n f) := sortedBy_any b off n cap f w hn hc hf
  clear hc hf
  go_enter Try.func25, Try.ntmps25
  go_wp2_with fail
  refine HK.out.mono ?_
  rintro e w1 ⟨v, rfl, h1⟩
  have HN : Hid (SortedOf w w1 v n f) := h1
  clear h1 HK
  go_wp2
  go_ret
  exact ⟨_, rfl, HN.out⟩
end Go.Proofs.Ytbhpdlhmkmkbhaa
