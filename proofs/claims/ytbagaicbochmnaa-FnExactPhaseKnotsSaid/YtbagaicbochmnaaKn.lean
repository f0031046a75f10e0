/- impl.knotAt. -/
import Derived.Test.YtbagaicbochmnaaUm
namespace Go.Proofs.Ytbagaicbochmnaa
open Go.RowKit
set_option linter.unusedVariables false
/-- The turns that a way round four numbers winds. -/
def kn (a b c d : Int) : Int := (wst a b + wst b c + wst c d + wst d a).tdiv 1048576
/-- The way round, as a list of five. -/
def rd5 (a b c d : Int) (i : Nat) : Int := if i = 0 then a else if i = 1 then b else if i = 2 then c else if i = 3 then d else a
theorem rd5_end (a b c d : Int) : unw (rd5 a b c d) 4 - unw (rd5 a b c d) 0 = wst a b + wst b c + wst c d + wst d a := by
  have h0 := wph_lo a
  have h1 := wph_hi a
  have a0 := wst_lo a b
  have a1 := wst_hi a b
  have b0 := wst_lo b c
  have b1 := wst_hi b c
  have c0 := wst_lo c d
  have c1 := wst_hi c d
  have d0 := wst_lo d a
  have d1 := wst_hi d a
  show wrap64 (wrap64 (wrap64 (wrap64 (wph a + wst a b) + wst b c) + wst c d) + wst d a) - wph a = _
  unfold wrap64
  omega
theorem unw5_bd (a b c d : Int) : -10000000 ≤ unw (rd5 a b c d) 4 ∧ unw (rd5 a b c d) 4 ≤ 10000000 ∧ -10000000 ≤ unw (rd5 a b c d) 0 ∧ unw (rd5 a b c d) 0 ≤ 10000000 := by
  have e := rd5_end a b c d
  have h0 := wph_lo a
  have h1 := wph_hi a
  have a0 := wst_lo a b
  have a1 := wst_hi a b
  have b0 := wst_lo b c
  have b1 := wst_hi b c
  have c0 := wst_lo c d
  have c1 := wst_hi c d
  have d0 := wst_lo d a
  have d1 := wst_hi d a
  have e0 : unw (rd5 a b c d) 0 = wph a := rfl
  omega
theorem wrap_id {x : Int} (h0 : -9223372036854775808 ≤ x) (h1 : x ≤ 9223372036854775807) : wrap64 x = x := by unfold wrap64; omega
theorem kwrap_id {x : Int} (h0 : -9223372036854775808 ≤ x) (h1 : x ≤ 9223372036854775807) : IntKind.i64.wrap x = x := by rw [IntKind.wrap_i64]; omega
theorem five_cells (W : World) (a b c d : Int) : ∀ q, q < 5 → (W.alloc (.cells #[.int .i64 a, .int .i64 b, .int .i64 c, .int .i64 d, .int .i64 a] 2)).cell? ⟨W.heap.size, 0 + q, none⟩ = some (.int .i64 (rd5 a b c d q)) := by
  intro q hq
  have h : Blk (W.alloc (.cells #[.int .i64 a, .int .i64 b, .int .i64 c, .int .i64 d, .int .i64 a] 2)) W.heap.size #[.int .i64 a, .int .i64 b, .int .i64 c, .int .i64 d, .int .i64 a] 2 := Blk.new rfl
  rw [Nat.zero_add]
  match q, hq with
  | 0, _ => exact h.cell rfl
  | 1, _ => exact h.cell rfl
  | 2, _ => exact h.cell rfl
  | 3, _ => exact h.cell rfl
  | 4, _ => exact h.cell rfl
theorem five_drew (W : World) (a b c d : Int) : ∀ q, q < 5 → (W.alloc (.cells #[.int .i64 a, .int .i64 b, .int .i64 c, .int .i64 d, .int .i64 a] 2)).drew.cell? ⟨W.heap.size, 0 + q, none⟩ = some (.int .i64 (rd5 a b c d q)) := five_cells W a b c d
set_option maxHeartbeats 2000000 in
theorem knotAt_any (i j b off n cap g o g2 o2 m c c2 : Nat) (x1 x2 x3 x4 : Int) (w : World) (hi : i + 1 < n) (hj : j + 1 < m) (hn : n ≤ 1000) (hm : m ≤ 1000)
    (h1 : w.cell? ⟨b, off + i, none⟩ = some (.slice (some ⟨g, o, none⟩) m c)) (h2 : w.cell? ⟨b, off + (i + 1), none⟩ = some (.slice (some ⟨g2, o2, none⟩) m c2))
    (y1 : w.cell? ⟨g, o + j, none⟩ = some (.int .i64 x1)) (y2 : w.cell? ⟨g, o + (j + 1), none⟩ = some (.int .i64 x2)) (y3 : w.cell? ⟨g2, o2 + (j + 1), none⟩ = some (.int .i64 x3)) (y4 : w.cell? ⟨g2, o2 + j, none⟩ = some (.int .i64 x4)) :
    Calls Try.prog 81 #[.slice (some ⟨b, off, none⟩) n cap, .agg #[.int .i64 (i : Int), .int .i64 (j : Int)]] w fun e w' => e = .returned (.int .i64 (kn x1 x2 x3 x4)) ∧ Below w.heap.size w w' := by
  obtain ⟨X, hX⟩ : ∃ X, X = w.alloc (.cells #[.int .i64 (i : Int), .int .i64 (j : Int)] 77) := ⟨_, rfl⟩
  have HX : Hid (Below w.heap.size w X) := by show Below _ _ X; rw [hX]; exact (Below.refl _ _).alloc (Nat.le_refl _) _
  have BX : Blk X w.heap.size #[.int .i64 (i : Int), .int .i64 (j : Int)] 77 := by rw [hX]; exact Blk.new rfl
  have z1 := BX.cell (j := 0) rfl
  have z2 := BX.cell (j := 1) rfl
  obtain ⟨i1, hi1⟩ : ∃ q : Nat, q = i + 1 := ⟨_, rfl⟩
  obtain ⟨j1, hj1⟩ : ∃ q : Nat, q = j + 1 := ⟨_, rfl⟩
  rw [← hi1] at h2 hi
  rw [← hj1] at y2 y3 hj
  have wi3 : (i : Int) + 1 = (i1 : Int) := by omega
  have wj3 : (j : Int) + 1 = (j1 : Int) := by omega
  have wi4 : IntKind.i64.wrap (i1 : Int) = (i1 : Int) := kwrap_id (by omega) (by omega)
  have wi5 : wrap64 (i1 : Int) = (i1 : Int) := wrap_id (by omega) (by omega)
  have wj4 : IntKind.i64.wrap (j1 : Int) = (j1 : Int) := kwrap_id (by omega) (by omega)
  have wj5 : wrap64 (j1 : Int) = (j1 : Int) := wrap_id (by omega) (by omega)
  have hin : i < n := by omega
  have hjm : j < m := by omega
  have p1 := kold HX.out h1
  have p2 := kold HX.out h2
  have p3 := kold HX.out y1
  have p4 := kold HX.out y2
  have p5 := kold HX.out y3
  have p6 := kold HX.out y4
  clear h1 h2 y1 y2 y3 y4 BX hi1 hj1
  go_enter Try.func81, Try.ntmps81
  go_upto_region 1 with fail
  rw [← hX]
  clear hX
  go_quiet (fail)
  obtain ⟨V, hV⟩ : ∃ V, V = X.drewN nq := ⟨_, rfl⟩
  rw [← hV]
  have HV : Hid (Below w.heap.size w V) := by show Below _ _ V; rw [hV]; exact below_drewN HX.out nq
  have v3 : V.cell? ⟨g, o + j, none⟩ = some (.int .i64 x1) := by rw [hV, World.cell?_drewN]; exact p3
  have v4 : V.cell? ⟨g, o + j1, none⟩ = some (.int .i64 x2) := by rw [hV, World.cell?_drewN]; exact p4
  have v5 : V.cell? ⟨g2, o2 + j1, none⟩ = some (.int .i64 x3) := by rw [hV, World.cell?_drewN]; exact p5
  have v6 : V.cell? ⟨g2, o2 + j, none⟩ = some (.int .i64 x4) := by rw [hV, World.cell?_drewN]; exact p6
  clear hV p1 p2 p3 p4 p5 p6 z1 z2 HX
  have k3 : ∀ W, Below V.heap.size V W → W.cell? ⟨g, o + j, none⟩ = some (.int .i64 x1) := fun W h => kold h v3
  have k4 : ∀ W, Below V.heap.size V W → W.cell? ⟨g, o + j1, none⟩ = some (.int .i64 x2) := fun W h => kold h v4
  have k5 : ∀ W, Below V.heap.size V W → W.cell? ⟨g2, o2 + j1, none⟩ = some (.int .i64 x3) := fun W h => kold h v5
  have k6 : ∀ W, Below V.heap.size V W → W.cell? ⟨g2, o2 + j, none⟩ = some (.int .i64 x4) := fun W h => kold h v6
  clear v3 v4 v5 v6
  go_upto_region 2 with fail
  go_region_held3 (fun W => Below V.heap.size V W) (go_grown) (first | (go_at_call 40; refine (iUnw_some _ 0 5 _ (rd5 x1 x2 x3 x4) _ (by omega) (five_drew V x1 x2 x3 x4)).mono ?_; rintro e wz ⟨rfl, hsz, hbz⟩; have hR1 : Below V.heap.size V wz := (by refine box_step ?_ hbz (by go_size); go_grown)))
  clear k3 k4 k5 k6
  have c0 : wz.cell? ⟨V.heap.size + 1, 0, none⟩ = some (.int .i64 (unw (rd5 x1 x2 x3 x4) 0)) := by simpa using hsz.cell (show 0 < 5 by omega)
  have c4 : wz.cell? ⟨V.heap.size + 1, 4, none⟩ = some (.int .i64 (unw (rd5 x1 x2 x3 x4) 4)) := by simpa using hsz.cell (show 4 < 5 by omega)
  obtain ⟨b1, b2, b3, b4⟩ := unw5_bd x1 x2 x3 x4
  have HE : Hid ((unw (rd5 x1 x2 x3 x4) 4 - unw (rd5 x1 x2 x3 x4) 0).tdiv 1048576 = kn x1 x2 x3 x4) := by unfold kn; show (_ : Int) = _; rw [rd5_end]
  have HZ : Hid (Below w.heap.size w wz) := HV.out.trans (hR1.mono HV.out.size)
  generalize unw (rd5 x1 x2 x3 x4) 4 = p4 at c4 b1 b2 HE
  generalize unw (rd5 x1 x2 x3 x4) 0 = p0 at c0 b3 b4 HE
  clear hsz hbz hR1
  go_wp2
  go_quiet (fail)
  go_wp2
  go_ret
  exact ⟨ret_int HE.out, below_drewN HZ.out _⟩
end Go.Proofs.Ytbagaicbochmnaa
