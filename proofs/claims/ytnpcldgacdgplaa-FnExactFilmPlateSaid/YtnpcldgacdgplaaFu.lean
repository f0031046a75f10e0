/- The fault of a stack and a light, and whether they go together: both packages. -/
import Derived.Test.YtnpcldgacdgplaaWu
namespace Go.Proofs.Ytnpcldgacdgplaa
open Go.RowKit Fl
set_option linter.unusedVariables false
set_option linter.unusedSimpArgs false
def ofault (a o n : Nat) (G : Nat → Fi) (nm : Int) (s : Nat) (pol : Int) : Int := if sfault a o n G = 0 then lfault nm s pol else sfault a o n G
theorem of_zero {a o n : Nat} {G : Nat → Fi} {nm : Int} {s : Nat} {pol : Int} (h : ofault a o n G nm s pol = 0) : sfault a o n G = 0 ∧ lfault nm s pol = 0 := by
  unfold ofault at h
  split at h
  · rename_i h1; exact ⟨h1, h⟩
  · rename_i h1; exact absurd h h1
theorem lf_zero {nm : Int} {s : Nat} {pol : Int} (h : lfault nm s pol = 0) : (pol = 1 ∨ pol = 2) ∧ 1 ≤ nm ∧ nm ≤ 100000 ∧ sideB s = true := by
  unfold lfault at h
  split at h
  · omega
  · split at h
    · omega
    · rename_i h1 h2
      simp only [not_or, Bool.not_eq_false] at h2
      exact ⟨by omega, by omega, by omega, h2.2.2⟩
set_option maxHeartbeats 1600000 in
theorem sOwn_any {a o : Nat} {v : Value} {n : Nat} {G : Nat → Fi} {w : World} (h : RdV w v n 3 (fun i j => fcell (G i) j)) (nm : Int) (s : Nat) (pol : Int) :
    Calls Try.prog 38 #[Sv a o v, Lv nm s pol] w fun e w' => e = .returned (.int .i64 (ofault a o n G nm s pol)) ∧ Below w.heap.size w w' := by
  have H1 : Hid (∀ W, Below w.heap.size w W → Calls Try.prog 10 #[Sv a o v] W fun e w' => e = .returned (.int .i64 (sfault a o n G)) ∧ Below W.heap.size W w') := fun W hW => sStack_any (h.later hW)
  have H2 : Hid (∀ w, Calls Try.prog 14 #[Lv nm s pol] w fun e w' => e = .returned (.int .i64 (lfault nm s pol)) ∧ Below w.heap.size w w') := sLight_any nm s pol
  have E : ∀ W, Below ((w.alloc (.cells #[.float .f64 a, .float .f64 o, v] 30)).alloc (.cells #[.int .i64 nm, .float .f64 s, .int .i64 pol] 37)).heap.size ((w.alloc (.cells #[.float .f64 a, .float .f64 o, v] 30)).alloc (.cells #[.int .i64 nm, .float .f64 s, .int .i64 pol] 37)) W →
      W.cell? ⟨w.heap.size + 1, 0, none⟩ = some (.int .i64 nm) ∧ W.cell? ⟨w.heap.size + 1, 1, none⟩ = some (.float .f64 s) ∧ W.cell? ⟨w.heap.size + 1, 2, none⟩ = some (.int .i64 pol) := fun W h =>
    ⟨(h.cell (by simp)).trans (cell_alloc_new (by simp) rfl), (h.cell (by simp)).trans (cell_alloc_new (by simp) rfl), (h.cell (by simp)).trans (cell_alloc_new (by simp) rfl)⟩
  clear h
  unfold ofault
  generalize sfault a o n G = k at *
  generalize lfault nm s pol = l at *
  by_cases hk : k = 0
  · subst hk
    rw [if_pos rfl]
    go_enter Try.func38, Try.ntmps38
    go_wp2_with fail
    refine (H1.out _ ?_).mono ?_
    · go_grown
    rintro e w1 ⟨rfl, b1⟩
    obtain ⟨c0, c1, c2⟩ := E _ b1
    have A1 : Hid (Below w.heap.size w w1) := below_alloc2 b1
    clear b1 E
    go_wp2_with fail
    refine (H2.out _).mono ?_
    rintro e w2 ⟨rfl, b2⟩
    go_wp2
    go_ret
    exact ⟨rfl, box_step A1.out b2 (Nat.le_refl _)⟩
  · rw [if_neg hk]
    have hk' : (k != 0) = true := by simpa using hk
    go_enter Try.func38, Try.ntmps38
    go_wp2_with fail
    refine (H1.out _ ?_).mono ?_
    · go_grown
    rintro e w1 ⟨rfl, b1⟩
    have A1 : Hid (Below w.heap.size w w1) := below_alloc2 b1
    clear b1 E
    go_wp2
    go_ret
    exact ⟨rfl, A1.out⟩
set_option maxHeartbeats 1600000 in
theorem iOwn_any {a o : Nat} {v : Value} {n : Nat} {G : Nat → Fi} {w : World} (h : RdV w v n 3 (fun i j => fcell (G i) j)) (nm : Int) (s : Nat) (pol : Int) :
    Calls Try.prog 41 #[Sv a o v, Lv nm s pol] w fun e w' => e = .returned (.int .i64 (ofault a o n G nm s pol)) ∧ Below w.heap.size w w' := by
  have H1 : Hid (∀ W, Below w.heap.size w W → Calls Try.prog 12 #[Sv a o v] W fun e w' => e = .returned (.int .i64 (sfault a o n G)) ∧ Below W.heap.size W w') := fun W hW => iStack_any (h.later hW)
  have H2 : Hid (∀ w, Calls Try.prog 16 #[Lv nm s pol] w fun e w' => e = .returned (.int .i64 (lfault nm s pol)) ∧ Below w.heap.size w w') := iLight_any nm s pol
  have E : ∀ W, Below ((w.alloc (.cells #[.float .f64 a, .float .f64 o, v] 30)).alloc (.cells #[.int .i64 nm, .float .f64 s, .int .i64 pol] 37)).heap.size ((w.alloc (.cells #[.float .f64 a, .float .f64 o, v] 30)).alloc (.cells #[.int .i64 nm, .float .f64 s, .int .i64 pol] 37)) W →
      W.cell? ⟨w.heap.size + 1, 0, none⟩ = some (.int .i64 nm) ∧ W.cell? ⟨w.heap.size + 1, 1, none⟩ = some (.float .f64 s) ∧ W.cell? ⟨w.heap.size + 1, 2, none⟩ = some (.int .i64 pol) := fun W h =>
    ⟨(h.cell (by simp)).trans (cell_alloc_new (by simp) rfl), (h.cell (by simp)).trans (cell_alloc_new (by simp) rfl), (h.cell (by simp)).trans (cell_alloc_new (by simp) rfl)⟩
  clear h
  unfold ofault
  generalize sfault a o n G = k at *
  generalize lfault nm s pol = l at *
  by_cases hk : k = 0
  · subst hk
    rw [if_pos rfl]
    go_enter Try.func41, Try.ntmps41
    go_wp2_with fail
    refine (H1.out _ ?_).mono ?_
    · go_grown
    rintro e w1 ⟨rfl, b1⟩
    obtain ⟨c0, c1, c2⟩ := E _ b1
    have A1 : Hid (Below w.heap.size w w1) := below_alloc2 b1
    clear b1 E
    go_wp2_with fail
    refine (H2.out _).mono ?_
    rintro e w2 ⟨rfl, b2⟩
    go_wp2
    go_ret
    exact ⟨rfl, box_step A1.out b2 (Nat.le_refl _)⟩
  · rw [if_neg hk]
    have hk' : (k != 0) = true := by simpa using hk
    go_enter Try.func41, Try.ntmps41
    go_wp2_with fail
    refine (H1.out _ ?_).mono ?_
    · go_grown
    rintro e w1 ⟨rfl, b1⟩
    have A1 : Hid (Below w.heap.size w w1) := below_alloc2 b1
    clear b1 E
    go_wp2
    go_ret
    exact ⟨rfl, A1.out⟩
def pfault (a o n : Nat) (G : Nat → Fi) (nm : Int) (s : Nat) (pol : Int) : Int := if ofault a o n G nm s pol = 0 then (if togB (lefB a s) a o n G = true then 0 else 4) else ofault a o n G nm s pol
/-- Both packages ask the same of a stack and a light that have no fault. -/
theorem tog_ok {a o s n : Nat} {G : Nat → Fi} {nm pol : Int} (ha : a < 18446744073709551616) (ho : o < 18446744073709551616) (hs : s < 18446744073709551616) (ok : ∀ k, k < n → FiOk (G k)) (h : ofault a o n G nm s pol = 0) : togB (fwdB a s) a o n G = togB (lefB a s) a o n G := by
  obtain ⟨h1, h2⟩ := of_zero h
  obtain ⟨_, m1, m2, m3⟩ := sf_zero h1
  obtain ⟨_, _, _, m4⟩ := lf_zero h2
  exact tog_same ha ho hs ok m1 m2 m4 m3
set_option maxHeartbeats 1600000 in
theorem iPass_any {a o s : Nat} {v : Value} {n : Nat} {G : Nat → Fi} {w : World} (ha : a < 18446744073709551616) (ho : o < 18446744073709551616) (hs : s < 18446744073709551616) (h : RdV w v n 3 (fun i j => fcell (G i) j)) (ok : ∀ k, k < n → FiOk (G k)) (nm pol : Int) :
    Calls Try.prog 47 #[Sv a o v, Lv nm s pol] w fun e w' => e = .returned (.int .i64 (pfault a o n G nm s pol)) ∧ Below w.heap.size w w' := by
  have H1 : Hid (∀ W, Below w.heap.size w W → Calls Try.prog 41 #[Sv a o v, Lv nm s pol] W fun e w' => e = .returned (.int .i64 (ofault a o n G nm s pol)) ∧ Below W.heap.size W w') := fun W hW => iOwn_any (h.later hW) nm s pol
  have H2 : Hid (∀ W, Below w.heap.size w W → ofault a o n G nm s pol = 0 → Calls Try.prog 42 #[Sv a o v, Lv nm s pol] W fun e w' => e = .returned (.bool (togB (lefB a s) a o n G)) ∧ Below W.heap.size W w') := fun W hW h0 => by
    rw [← tog_ok ha ho hs ok h0]
    exact iTog_any ha ho hs (h.later hW) (by have := (sf_zero (of_zero h0).1).1; omega) ok nm pol
  obtain ⟨X, hX⟩ : ∃ X, X = (w.alloc (.cells #[.float .f64 a, .float .f64 o, v] 30)).alloc (.cells #[.int .i64 nm, .float .f64 s, .int .i64 pol] 37) := ⟨_, rfl⟩
  have BX : Hid (Below w.heap.size w X) := by
    have h : Below w.heap.size w X := by rw [hX]; exact ((Below.refl _ _).alloc (Nat.le_refl _) _).alloc (by simp) _
    exact h
  have x0 : X.cell? ⟨w.heap.size, 0, none⟩ = some (.float .f64 a) := by rw [hX]; exact cell_alloc_old (cell_alloc_new rfl rfl)
  have x1 : X.cell? ⟨w.heap.size, 1, none⟩ = some (.float .f64 o) := by rw [hX]; exact cell_alloc_old (cell_alloc_new rfl rfl)
  have x2 : X.cell? ⟨w.heap.size, 2, none⟩ = some v := by rw [hX]; exact cell_alloc_old (cell_alloc_new rfl rfl)
  have y0 : X.cell? ⟨w.heap.size + 1, 0, none⟩ = some (.int .i64 nm) := by rw [hX]; exact cell_alloc_new (by simp) rfl
  have y1 : X.cell? ⟨w.heap.size + 1, 1, none⟩ = some (.float .f64 s) := by rw [hX]; exact cell_alloc_new (by simp) rfl
  have y2 : X.cell? ⟨w.heap.size + 1, 2, none⟩ = some (.int .i64 pol) := by rw [hX]; exact cell_alloc_new (by simp) rfl
  clear h ha ho hs ok
  obtain ⟨r, hr⟩ : ∃ r, pfault a o n G nm s pol = r := ⟨_, rfl⟩
  rw [hr]
  unfold pfault at hr
  generalize ofault a o n G nm s pol = k at *
  generalize togB (lefB a s) a o n G = t at *
  have HR : Hid ((k = 0 → t = true → 0 = r) ∧ (k = 0 → t = false → 4 = r) ∧ (¬ k = 0 → k = r)) := by
    refine ⟨fun h1 h2 => ?_, fun h1 h2 => ?_, fun h1 => ?_⟩ <;> rw [← hr]
    · rw [if_pos h1, if_pos h2]
    · rw [if_pos h1, if_neg (by simp [h2])]
    · rw [if_neg h1]
  clear hr
  go_enter Try.func47, Try.ntmps47
  go_upto_region 1 with fail
  rw [← hX]
  clear hX
  go_wp2_with fail
  refine (H1.out _ BX.out).mono ?_
  rintro e w1 ⟨rfl, b1⟩
  have A1 : Hid (Below w.heap.size w w1) := BX.out.trans (b1.mono BX.out.size)
  have c0 := old_cell b1 (World.block_lt_of_cell? _ _ x0) x0
  have c1 := old_cell b1 (World.block_lt_of_cell? _ _ x1) x1
  have c2 := old_cell b1 (World.block_lt_of_cell? _ _ x2) x2
  have d0 := old_cell b1 (World.block_lt_of_cell? _ _ y0) y0
  have d1 := old_cell b1 (World.block_lt_of_cell? _ _ y1) y1
  have d2 := old_cell b1 (World.block_lt_of_cell? _ _ y2) y2
  clear b1 x0 x1 x2 y0 y1 y2
  by_cases hk : k = 0
  · subst hk
    cases t
    · obtain rfl := HR.out.2.1 rfl rfl
      go_wp2_with fail
      refine (H2.out _ A1.out (by trivial)).mono ?_
      rintro e w2 ⟨rfl, b2⟩
      go_wp2
      go_ret
      exact ⟨rfl, box_step A1.out b2 (Nat.le_refl _)⟩
    · obtain rfl := HR.out.1 rfl rfl
      go_wp2_with fail
      refine (H2.out _ A1.out (by trivial)).mono ?_
      rintro e w2 ⟨rfl, b2⟩
      go_wp2
      go_ret
      exact ⟨rfl, box_step A1.out b2 (Nat.le_refl _)⟩
  · obtain rfl := HR.out.2.2 hk
    have hk' : (k != 0) = true := by simpa using hk
    go_wp2
    go_ret
    exact ⟨rfl, A1.out⟩
end Go.Proofs.Ytnpcldgacdgplaa
