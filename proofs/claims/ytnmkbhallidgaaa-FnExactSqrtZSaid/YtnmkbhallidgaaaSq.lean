/- Roots of complex numbers: contracts of the specification's and the program's. -/
import Derived.Test.YtnmkbhallidgaaaZab
import Derived.Deep.RegionHeld3
namespace Go.Proofs.Ytnmkbhallidgaaa
open Go.RowKit Fl
set_option linter.unusedVariables false
set_option linter.unusedSimpArgs false
/-- The root of half of (the size of Re and the size together). -/
def halfC (p : Option Nat × Option Nat) : Option Nat := sqK (opC .quo (opC .add (absC p.1) (sqK (normC p))) (cl 4611686018427387904))
def sqrtW (p : Option Nat × Option Nat) (re t : Nat) : Option Nat × Option Nat :=
  if FloatKind.f64.format.order t 0 = some .gt then
    (if FloatKind.f64.format.order re 0 = some .lt then (opC .quo (absC p.2) (opC .add (halfC p) (halfC p)), p.2.map fun i => dW (sg i) t) else (halfC p, opC .quo p.2 (opC .add (halfC p) (halfC p))))
  else (cl 0, p.2)
/-- The root by classes: of a NaN any word serves. -/
def sqrtK (p : Option Nat × Option Nat) : Option Nat × Option Nat := sqrtW p (p.1.getD 0) ((halfC p).getD 0)
theorem gt_pos {t : Nat} (ht : W64 t) (h : FloatKind.f64.format.order t 0 = some .gt) : Num t ∧ t < 9223372036854775808 := by
  by_cases n : Num t
  · refine ⟨n, ?_⟩
    rw [order_zero ht n] at h
    by_cases z : rg t = 0
    · rw [if_pos z] at h; cases h
    · rw [if_neg z] at h
      by_cases s : sg t = true
      · rw [if_pos s] at h; cases h
      · simp only [sg, decide_eq_true_eq] at s; omega
  · rw [order_nan0 ht n] at h; cases h
theorem half_none {q : Option Nat} (h : halfC (q, none) ≠ none) : False := by
  apply h
  unfold halfC normC
  have e : ∀ (op : BinOp) (x : Option Nat), opC op x none = none := fun op x => by unfold opC; cases x <;> rfl
  simp only [e, sqK, Option.bind_none]
  have e2 : ∀ (op : BinOp) (x : Option Nat), opC op none x = none := fun op x => rfl
  simp only [e2, Option.bind_none]
theorem half_none1 {q : Option Nat} (h : halfC (none, q) ≠ none) : False := by
  apply h
  unfold halfC
  have e2 : ∀ (op : BinOp) (x : Option Nat), opC op none x = none := fun op x => rfl
  simp only [absC, Option.map_none, e2, sqK, Option.bind_none]
/-- What the words say, the classes say. -/
theorem sqrtK_of {a b t : Nat} {p : Option Nat × Option Nat} (h : Zc a b p) (ht : Fc t (halfC p)) : sqrtK p = sqrtW p a t := by
  unfold sqrtK
  by_cases g : FloatKind.f64.format.order t 0 = some .gt
  · obtain ⟨nt, _⟩ := gt_pos ht.lx g
    have e1 : halfC p = some t := by rw [← ht.c, cl_num nt]
    have e2 : p.1 = some a := by
      have hp := h.c
      by_cases na : Num a
      · rw [← hp, cl_num na]
      · exfalso
        have : p = (none, cl b) := by rw [← hp, cl_nan na]
        rw [this] at e1
        exact half_none1 (q := cl b) (by rw [e1]; simp)
    rw [e1, e2]; rfl
  · unfold sqrtW
    rw [if_neg g]
    by_cases nt : Num t
    · have e1 : halfC p = some t := by rw [← ht.c, cl_num nt]
      rw [e1]
      simp only [Option.getD_some]
      rw [if_neg g]
    · have e1 : halfC p = none := by rw [← ht.c, cl_nan nt]
      rw [e1]
      rw [if_neg (by simp only [Option.getD_none]; decide)]
set_option maxHeartbeats 3200000 in
theorem sSqrtZ_any {a b : Nat} {p : Option Nat × Option Nat} (h : Zc a b p) (w : World) : ZV 41 #[Zv a b] w (sqrtK p) := by
  have ha : Fc a p.1 := ⟨h.lx, by rw [← h.c]⟩
  have hb : Fc b p.2 := ⟨h.ly, by rw [← h.c]⟩
  have h2 : Fc 4611686018427387904 (cl 4611686018427387904) := ⟨by omega, rfl⟩
  obtain ⟨ab, TA0, hA⟩ := sAbs_fc ha
  have TA : Hid (Tells 66 a ab) := TA0
  obtain ⟨bb, TB0, hB⟩ := sAbs_fc hb
  have TB : Hid (Tells 66 b bb) := TB0
  clear TA0 TB0
  unfold ZV
  have hst := st64
  have hadd := add_run
  have hquo := quo_run
  have hc1 := cell_opW
  have hc2 := frozen_opW
  obtain ⟨X, hX⟩ : ∃ X, X = w.alloc (.cells #[.float .f64 a, .float .f64 b] 28) := ⟨_, rfl⟩
  have h0 : Own (w.heap.size + 1) X (w.heap.size + 1) 2 28 (X.alloc (.cells #[.float .f64 0, .float .f64 0] 28)) := by
    have := own_made (X := X) (t := 28) #[.float .f64 0, .float .f64 0] (Nat.le_refl _)
    rw [hX] at this ⊢
    simpa using this
  have k0_0 : ∀ W, Own (w.heap.size + 1) X (w.heap.size + 1) 2 28 W → W.cell? ⟨w.heap.size, 0, none⟩ = some (.float .f64 a) := fun _ h => by rw [hX] at h; exact h.old (by simp <;> omega) (by simp)
  have k0_1 : ∀ W, Own (w.heap.size + 1) X (w.heap.size + 1) 2 28 W → W.cell? ⟨w.heap.size, 1, none⟩ = some (.float .f64 b) := fun _ h => by rw [hX] at h; exact h.old (by simp <;> omega) (by simp)
  have g0 : ∀ W, Own (w.heap.size + 1) X (w.heap.size + 1) 2 28 W → W.cell? ⟨w.heap.size + 1, 0, none⟩ = some (got W (w.heap.size + 1) 0) := fun _ h => h.cell (by omega)
  have g1 : ∀ W, Own (w.heap.size + 1) X (w.heap.size + 1) 2 28 W → W.cell? ⟨w.heap.size + 1, 1, none⟩ = some (got W (w.heap.size + 1) 1) := fun _ h => h.cell (by omega)
  have gf : ∀ W j, Own (w.heap.size + 1) X (w.heap.size + 1) 2 28 W → W.frozen? ⟨w.heap.size + 1, j, none⟩ = false := fun _ j h => h.frozen j
  have HX : Hid (Below w.heap.size w X) := by rw [hX]; exact (Below.refl _ _).alloc (by simp) _
  go_enter Try.func41, Try.ntmps41
  go_wp2_with fail
  rw [← hX]
  obtain ⟨Y, hY⟩ : ∃ Y, Y = X.alloc (.cells #[.float .f64 0, .float .f64 0] 28) := ⟨_, rfl⟩
  rw [← hY] at h0 ⊢
  clear hX hY
  refine (sNorm_any h _).mono ?_
  rintro e w1 ⟨n1, rfl, hn, hb1⟩
  have h1 := Own.call h0 hb1
  clear hb1 h0
  have y0 := k0_0 _ h1
  have y1 := k0_1 _ h1
  have e0 := g0 _ h1
  have e1 := g1 _ h1
  have ef := fun j => gf _ j h1
  have H1 : Hid (Own (w.heap.size + 1) X (w.heap.size + 1) 2 28 w1) := h1
  clear h1
  go_wp2_with fail
  refine (sSqrt_fc hn _).mono ?_
  rintro e w2 ⟨hh, q, rfl, hH, rfl⟩
  go_wp2_with fail
  refine (TA.out _).mono ?_
  rintro e w2 ⟨rfl, rfl⟩
  go_wp2_with fail
  refine (sSqrt_fc (fc_op .quo (fc_op .add hA hH _) h2 _) _).mono ?_
  rintro e w3 ⟨t, q2, rfl, hT, hw3⟩
  have h3 : Own (w.heap.size + 1) X (w.heap.size + 1) 2 28 w3 := by rw [hw3]; exact Own.drewN (Own.opW (Own.opW (Own.drewN H1.out _) _ _ _) _ _ _) _
  clear hw3 y0 y1 e0 e1 ef hn hH hA
  have y0 := k0_0 _ h3
  have y1 := k0_1 _ h3
  have e0 := g0 _ h3
  have e1 := g1 _ h3
  have ef := fun j => gf _ j h3
  have hT' : Fc t (halfC p) := hT
  have HK : Hid (sqrtK p = sqrtW p a t) := sqrtK_of h hT'
  clear hT
  by_cases hgt : FloatKind.f64.format.order t 0 = some .gt
  · obtain ⟨nt, hpos⟩ := gt_pos hT'.lx hgt
    have hnb : Num b := by
      by_cases nb : Num b
      · exact nb
      · exfalso
        have e : p = (p.1, none) := by rw [← h.c, cl_nan nb]
        have e1 : halfC p = some t := by rw [← hT'.c, cl_num nt]
        rw [e] at e1
        exact half_none (q := p.1) (by rw [e1]; simp)
    by_cases hlt : FloatKind.f64.format.order a 0 = some .lt
    · have HQ : Hid (sqrtK p = (opC .quo (absC p.2) (opC .add (halfC p) (halfC p)), p.2.map fun i => dW (sg i) t)) := by
        have e := HK.out
        unfold sqrtW at e
        rw [if_pos hgt, if_pos hlt] at e
        exact e
      have HS : Hid (W64 (dW (sg b) t) ∧ cl (dW (sg b) t) = p.2.map fun i => dW (sg i) t) := by
        have hl : W64 (dW (sg b) t) := dW_lt _ hpos
        have hn : Num (dW (sg b) t) := by
          have := (read_parts (sg b) hpos).2
          show dW (sg b) t % 9223372036854775808 ≤ 9218868437227405312
          rw [this]
          have := nt
          unfold Num at this
          omega
        exact ⟨hl, by rw [cl_num hn, ← hb.c, cl_num hnb]; rfl⟩
      have TS : Hid (Tells2 68 t b (dW (sg b) t)) := sign_any hpos h.ly hnb
      generalize dW (sg b) t = z at HS TS
      clear nt hpos hnb HK H1 y0 y1 e0 e1 ef
      go_wp2_with fail
      go_region_held (fun W => Own (w.heap.size + 1) X (w.heap.size + 1) 2 28 W) (first | with_reducible assumption | with_reducible exact Own.drew ‹_› | with_reducible exact Own.opW ‹_› _ _ _ | with_reducible exact Own.set (Own.set ‹_› _ _) _ _)
        (first | (go_at_call 66; refine (TB.out _).mono ?_; rintro e w4 ⟨rfl, rfl⟩) | (go_at_call 68; refine (TS.out _).mono ?_; rintro e w4 ⟨rfl, rfl⟩))
      all_goals
        have e0 := g0 _ h3
        have e1 := g1 _ h3
        clear k0_0 k0_1 g0 g1 gf
        go_wp2
        refine bodyPost_ret (v := Zv _ _) (by simp [results, Try.results41, go_sem, e0, e1, hc1] <;> first | exact ⟨rfl, rfl⟩ | rfl) rfl ⟨_, _, rfl, ⟨opV_lt _ _ _ _, HS.out.1, ?_⟩, Own.out (by assumption) HX.out (by omega)⟩
        rw [HQ.out, HS.out.2, (fc_op .quo hB (fc_op .add hT' hT' _) _).c]
    · have HQ : Hid (sqrtK p = (halfC p, opC .quo p.2 (opC .add (halfC p) (halfC p)))) := by
        have e := HK.out
        unfold sqrtW at e
        rw [if_pos hgt, if_neg hlt] at e
        exact e
      have hlb : (FloatKind.f64.format.order a 0 == some .lt) = false := by simpa using hlt
      clear nt hpos hnb HK H1 k0_0 k0_1 g0 g1 gf
      go_wp2
      refine bodyPost_ret (v := Zv _ _) (by simp [results, Try.results41, go_sem, e0, e1, hc1] <;> first | exact ⟨rfl, rfl⟩ | rfl) rfl ⟨_, _, rfl, ⟨hT'.lx, opV_lt _ _ _ _, ?_⟩, Own.out (Own.set (Own.set (Own.opW (Own.opW h3 _ _ _) _ _ _) _ _) _ _) HX.out (by omega)⟩
      rw [HQ.out, hT'.c, (fc_op .quo hb (fc_op .add hT' hT' _) _).c]
  · have HQ : Hid (sqrtK p = (cl 0, p.2)) := by
      have e := HK.out
      unfold sqrtW at e
      rw [if_neg hgt] at e
      exact e
    have hgb : (FloatKind.f64.format.order t 0 == some .gt) = false := by simpa using hgt
    clear HK H1 k0_0 k0_1 g0 g1 gf
    go_wp2
    refine bodyPost_ret (v := Zv _ _) (by simp [results, Try.results41, go_sem, e0, e1] <;> first | exact ⟨rfl, rfl⟩ | rfl) rfl ⟨_, _, rfl, ⟨by omega, hb.lx, ?_⟩, Own.out (Own.set (Own.set h3 _ _) _ _) HX.out (by omega)⟩
    rw [HQ.out, hb.c]
set_option maxHeartbeats 3200000 in
theorem iSqrtZ_any {a b : Nat} {p : Option Nat × Option Nat} (h : Zc a b p) (w : World) : ZV 42 #[Zv a b] w (sqrtK p) := by
  have ha : Fc a p.1 := ⟨h.lx, by rw [← h.c]⟩
  have hb : Fc b p.2 := ⟨h.ly, by rw [← h.c]⟩
  have h2 : Fc 4611686018427387904 (cl 4611686018427387904) := ⟨by omega, rfl⟩
  have hA := fc_rg ha
  have TA : Hid (Tells 79 a (rg a)) := mAbs_any ha.lx
  have hB := fc_rg hb
  have TB : Hid (Tells 79 b (rg b)) := mAbs_any hb.lx
  generalize rg a = ab at hA TA
  generalize rg b = bb at hB TB
  unfold ZV
  have hst := st64
  have hadd := add_run
  have hquo := quo_run
  have hc1 := cell_opW
  have hc2 := frozen_opW
  obtain ⟨X, hX⟩ : ∃ X, X = w.alloc (.cells #[.float .f64 a, .float .f64 b] 28) := ⟨_, rfl⟩
  have h0 : Own (w.heap.size + 1) X (w.heap.size + 1) 2 28 (X.alloc (.cells #[.float .f64 0, .float .f64 0] 28)) := by
    have := own_made (X := X) (t := 28) #[.float .f64 0, .float .f64 0] (Nat.le_refl _)
    rw [hX] at this ⊢
    simpa using this
  have k0_0 : ∀ W, Own (w.heap.size + 1) X (w.heap.size + 1) 2 28 W → W.cell? ⟨w.heap.size, 0, none⟩ = some (.float .f64 a) := fun _ h => by rw [hX] at h; exact h.old (by simp <;> omega) (by simp)
  have k0_1 : ∀ W, Own (w.heap.size + 1) X (w.heap.size + 1) 2 28 W → W.cell? ⟨w.heap.size, 1, none⟩ = some (.float .f64 b) := fun _ h => by rw [hX] at h; exact h.old (by simp <;> omega) (by simp)
  have g0 : ∀ W, Own (w.heap.size + 1) X (w.heap.size + 1) 2 28 W → W.cell? ⟨w.heap.size + 1, 0, none⟩ = some (got W (w.heap.size + 1) 0) := fun _ h => h.cell (by omega)
  have g1 : ∀ W, Own (w.heap.size + 1) X (w.heap.size + 1) 2 28 W → W.cell? ⟨w.heap.size + 1, 1, none⟩ = some (got W (w.heap.size + 1) 1) := fun _ h => h.cell (by omega)
  have gf : ∀ W j, Own (w.heap.size + 1) X (w.heap.size + 1) 2 28 W → W.frozen? ⟨w.heap.size + 1, j, none⟩ = false := fun _ j h => h.frozen j
  have HX : Hid (Below w.heap.size w X) := by rw [hX]; exact (Below.refl _ _).alloc (by simp) _
  go_enter Try.func42, Try.ntmps42
  go_wp2_with fail
  rw [← hX]
  obtain ⟨Y, hY⟩ : ∃ Y, Y = X.alloc (.cells #[.float .f64 0, .float .f64 0] 28) := ⟨_, rfl⟩
  rw [← hY] at h0 ⊢
  clear hX hY
  refine (iNorm_any h _).mono ?_
  rintro e w1 ⟨n1, rfl, hn, hb1⟩
  have h1 := Own.call h0 hb1
  clear hb1 h0
  have y0 := k0_0 _ h1
  have y1 := k0_1 _ h1
  have e0 := g0 _ h1
  have e1 := g1 _ h1
  have ef := fun j => gf _ j h1
  have H1 : Hid (Own (w.heap.size + 1) X (w.heap.size + 1) 2 28 w1) := h1
  clear h1
  go_wp2_with fail
  refine (iSqrt_fc hn _).mono ?_
  rintro e w2 ⟨hh, q, rfl, hH, rfl⟩
  go_wp2_with fail
  refine (TA.out _).mono ?_
  rintro e w2 ⟨rfl, rfl⟩
  go_wp2_with fail
  refine (iSqrt_fc (fc_op .quo (fc_op .add hA hH _) h2 _) _).mono ?_
  rintro e w3 ⟨t, q2, rfl, hT, hw3⟩
  have h3 : Own (w.heap.size + 1) X (w.heap.size + 1) 2 28 w3 := by rw [hw3]; exact Own.drewN (Own.opW (Own.opW (Own.drewN H1.out _) _ _ _) _ _ _) _
  clear hw3 y0 y1 e0 e1 ef hn hH hA
  have y0 := k0_0 _ h3
  have y1 := k0_1 _ h3
  have e0 := g0 _ h3
  have e1 := g1 _ h3
  have ef := fun j => gf _ j h3
  have hT' : Fc t (halfC p) := hT
  have HK : Hid (sqrtK p = sqrtW p a t) := sqrtK_of h hT'
  clear hT
  by_cases hgt : FloatKind.f64.format.order t 0 = some .gt
  · obtain ⟨nt, hpos⟩ := gt_pos hT'.lx hgt
    have hnb : Num b := by
      by_cases nb : Num b
      · exact nb
      · exfalso
        have e : p = (p.1, none) := by rw [← h.c, cl_nan nb]
        have e1 : halfC p = some t := by rw [← hT'.c, cl_num nt]
        rw [e] at e1
        exact half_none (q := p.1) (by rw [e1]; simp)
    by_cases hlt : FloatKind.f64.format.order a 0 = some .lt
    · have HQ : Hid (sqrtK p = (opC .quo (absC p.2) (opC .add (halfC p) (halfC p)), p.2.map fun i => dW (sg i) t)) := by
        have e := HK.out
        unfold sqrtW at e
        rw [if_pos hgt, if_pos hlt] at e
        exact e
      have HS : Hid (W64 (dW (sg b) t) ∧ cl (dW (sg b) t) = p.2.map fun i => dW (sg i) t) := by
        have hl : W64 (dW (sg b) t) := dW_lt _ hpos
        have hn : Num (dW (sg b) t) := by
          have := (read_parts (sg b) hpos).2
          show dW (sg b) t % 9223372036854775808 ≤ 9218868437227405312
          rw [this]
          have := nt
          unfold Num at this
          omega
        exact ⟨hl, by rw [cl_num hn, ← hb.c, cl_num hnb]; rfl⟩
      have TS : Hid (Tells2 80 t b (dW (sg b) t)) := by
        have := mSign_any (t := t) (x := b) hT'.lx h.ly
        rw [rg_pos hT'.lx (by unfold sg; exact decide_eq_false (by omega))] at this
        exact this
      generalize dW (sg b) t = z at HS TS
      clear nt hpos hnb HK H1 y0 y1 e0 e1 ef
      go_wp2_with fail
      go_region_held (fun W => Own (w.heap.size + 1) X (w.heap.size + 1) 2 28 W) (first | with_reducible assumption | with_reducible exact Own.drew ‹_› | with_reducible exact Own.opW ‹_› _ _ _ | with_reducible exact Own.set (Own.set ‹_› _ _) _ _)
        (first | (go_at_call 79; refine (TB.out _).mono ?_; rintro e w4 ⟨rfl, rfl⟩) | (go_at_call 80; refine (TS.out _).mono ?_; rintro e w4 ⟨rfl, rfl⟩))
      all_goals
        have e0 := g0 _ h3
        have e1 := g1 _ h3
        clear k0_0 k0_1 g0 g1 gf
        go_wp2
        refine bodyPost_ret (v := Zv _ _) (by simp [results, Try.results42, go_sem, e0, e1, hc1] <;> first | exact ⟨rfl, rfl⟩ | rfl) rfl ⟨_, _, rfl, ⟨opV_lt _ _ _ _, HS.out.1, ?_⟩, Own.out (by assumption) HX.out (by omega)⟩
        rw [HQ.out, HS.out.2, (fc_op .quo hB (fc_op .add hT' hT' _) _).c]
    · have HQ : Hid (sqrtK p = (halfC p, opC .quo p.2 (opC .add (halfC p) (halfC p)))) := by
        have e := HK.out
        unfold sqrtW at e
        rw [if_pos hgt, if_neg hlt] at e
        exact e
      have hlb : (FloatKind.f64.format.order a 0 == some .lt) = false := by simpa using hlt
      clear nt hpos hnb HK H1 k0_0 k0_1 g0 g1 gf
      go_wp2
      refine bodyPost_ret (v := Zv _ _) (by simp [results, Try.results42, go_sem, e0, e1, hc1] <;> first | exact ⟨rfl, rfl⟩ | rfl) rfl ⟨_, _, rfl, ⟨hT'.lx, opV_lt _ _ _ _, ?_⟩, Own.out (Own.set (Own.set (Own.opW (Own.opW h3 _ _ _) _ _ _) _ _) _ _) HX.out (by omega)⟩
      rw [HQ.out, hT'.c, (fc_op .quo hb (fc_op .add hT' hT' _) _).c]
  · have HQ : Hid (sqrtK p = (cl 0, p.2)) := by
      have e := HK.out
      unfold sqrtW at e
      rw [if_neg hgt] at e
      exact e
    have hgb : (FloatKind.f64.format.order t 0 == some .gt) = false := by simpa using hgt
    clear HK H1 k0_0 k0_1 g0 g1 gf
    go_wp2
    refine bodyPost_ret (v := Zv _ _) (by simp [results, Try.results42, go_sem, e0, e1] <;> first | exact ⟨rfl, rfl⟩ | rfl) rfl ⟨_, _, rfl, ⟨by omega, hb.lx, ?_⟩, Own.out (Own.set (Own.set h3 _ _) _ _) HX.out (by omega)⟩
    rw [HQ.out, hb.c]
end Go.Proofs.Ytnmkbhallidgaaa
