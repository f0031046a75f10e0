/- What stops a ray at a face: the program's. -/
import Derived.Test.YtbcidfmfkmeinaaTp
import Derived.Test.YtbcidfmfkmeinaaRd
import Derived.Test.YtbcidfmfkmeinaaSl
import Derived.Test.YtbcidfmfkmeinaaRw
namespace Go.Proofs.Ytbcidfmfkmeinaa
open Go.RowKit Fl
set_option linter.unusedVariables false
set_option linter.unusedSimpArgs false
set_option maxRecDepth 20000 in
set_option maxHeartbeats 6400000 in
theorem iPass_none {g a b : Nat → Nat} {G : Nat → Option Nat} {l i : Nat} {I : Option Nat}  (w : World) : Calls Try.prog 18 #[Gv g, Mv 4 0 l a b, .float .f64 i] w fun e w' => e = .returned (Qv 4 (fun _ => 0)) ∧ Below w.heap.size w w' := by
  have hst := st64
  go_enter Try.func18, Try.ntmps18
  have HO : Hid (Below w.heap.size w w) := Below.refl _ _
  go_upto_region 1 with fail
  obtain ⟨v1, hv⟩ : ∃ Xw, Xw = (((w.alloc (.cells #[.float .f64 (g 0), .float .f64 (g 1), .float .f64 (g 2), .float .f64 (g 3), .float .f64 (g 4)] 41)).alloc (.cells #[.int .i64 4, .int .i64 0, .float .f64 l, .float .f64 (a 0), .float .f64 (a 1), .float .f64 (a 2), .float .f64 (a 3), .float .f64 (a 4), .float .f64 (a 5), .float .f64 (b 0), .float .f64 (b 1), .float .f64 (b 2), .float .f64 (b 3), .float .f64 (b 4), .float .f64 (b 5)] 43)).alloc (.cells #[.int .i64 0, .float .f64 0, .float .f64 0, .float .f64 0, .float .f64 0, .float .f64 0, .float .f64 0] 46)) := ⟨_, rfl⟩
  rw [← hv]
  have ne_f_h : Hid (w.heap.size ≠ w.heap.size + 1) := by show (w.heap.size : Nat) ≠ w.heap.size + 1; omega
  have ne_f_res : Hid (w.heap.size ≠ w.heap.size + 1 + 1) := by show (w.heap.size : Nat) ≠ w.heap.size + 1 + 1; omega
  have ne_h_res : Hid (w.heap.size + 1 ≠ w.heap.size + 1 + 1) := by show (w.heap.size + 1 : Nat) ≠ w.heap.size + 1 + 1; omega
  have B_f : Hid (Blk v1 (w.heap.size) #[.float .f64 (g 0), .float .f64 (g 1), .float .f64 (g 2), .float .f64 (g 3), .float .f64 (g 4)] 41) := by show Blk v1 (w.heap.size) _ _; rw [hv]; exact (Blk.alloc (Blk.alloc (Blk.new (by simp)) _) _)
  have low_f : Hid (w.heap.size ≤ w.heap.size) := by show w.heap.size ≤ w.heap.size; have := HO.out.size; omega
  have B_h : Hid (Blk v1 (w.heap.size + 1) #[.int .i64 4, .int .i64 0, .float .f64 l, .float .f64 (a 0), .float .f64 (a 1), .float .f64 (a 2), .float .f64 (a 3), .float .f64 (a 4), .float .f64 (a 5), .float .f64 (b 0), .float .f64 (b 1), .float .f64 (b 2), .float .f64 (b 3), .float .f64 (b 4), .float .f64 (b 5)] 43) := by show Blk v1 (w.heap.size + 1) _ _; rw [hv]; exact (Blk.alloc (Blk.new (by simp)) _)
  have low_h : Hid (w.heap.size ≤ w.heap.size + 1) := by show w.heap.size ≤ w.heap.size + 1; have := HO.out.size; omega
  have B_res : Hid (Blk v1 (w.heap.size + 1 + 1) #[.int .i64 0, .float .f64 0, .float .f64 0, .float .f64 0, .float .f64 0, .float .f64 0, .float .f64 0] 46) := by show Blk v1 (w.heap.size + 1 + 1) _ _; rw [hv]; exact (Blk.new (by simp))
  have low_res : Hid (w.heap.size ≤ w.heap.size + 1 + 1) := by show w.heap.size ≤ w.heap.size + 1 + 1; have := HO.out.size; omega
  replace HO : Hid (Below w.heap.size w v1) := by show Below w.heap.size w v1; rw [hv]; exact (below_new (below_new (below_new HO.out _) _) _)
  clear hv
  have h_0 := B_h.out.cell (j := 0) rfl
  have h_1 := B_h.out.cell (j := 1) rfl
  have h_2 := B_h.out.cell (j := 2) rfl
  have h_3 := B_h.out.cell (j := 3) rfl
  have h_4 := B_h.out.cell (j := 4) rfl
  have h_5 := B_h.out.cell (j := 5) rfl
  have h_6 := B_h.out.cell (j := 6) rfl
  have h_7 := B_h.out.cell (j := 7) rfl
  have h_8 := B_h.out.cell (j := 8) rfl
  have h_9 := B_h.out.cell (j := 9) rfl
  have h_10 := B_h.out.cell (j := 10) rfl
  have h_11 := B_h.out.cell (j := 11) rfl
  have h_12 := B_h.out.cell (j := 12) rfl
  have h_13 := B_h.out.cell (j := 13) rfl
  have h_14 := B_h.out.cell (j := 14) rfl
  have h_f := B_h.out.frozen
  have h_z := B_h.out.lt
  go_upto_region 2 with fail
  clear h_0 h_1 h_2 h_3 h_4 h_5 h_6 h_7 h_8 h_9 h_10 h_11 h_12 h_13 h_14 h_f h_z
  have h_0 := B_h.out.cell (j := 0) rfl
  have h_1 := B_h.out.cell (j := 1) rfl
  have h_2 := B_h.out.cell (j := 2) rfl
  have h_3 := B_h.out.cell (j := 3) rfl
  have h_4 := B_h.out.cell (j := 4) rfl
  have h_5 := B_h.out.cell (j := 5) rfl
  have h_6 := B_h.out.cell (j := 6) rfl
  have h_7 := B_h.out.cell (j := 7) rfl
  have h_8 := B_h.out.cell (j := 8) rfl
  have h_9 := B_h.out.cell (j := 9) rfl
  have h_10 := B_h.out.cell (j := 10) rfl
  have h_11 := B_h.out.cell (j := 11) rfl
  have h_12 := B_h.out.cell (j := 12) rfl
  have h_13 := B_h.out.cell (j := 13) rfl
  have h_14 := B_h.out.cell (j := 14) rfl
  have h_f := B_h.out.frozen
  have h_z := B_h.out.lt
  skip
  repeat (first | (refine wpList_store_row rfl 46 _ _ rfl (w.heap.size + 1 + 1) #[.int .i64 4, .float .f64 0, .float .f64 0, .float .f64 0, .float .f64 0, .float .f64 0, .float .f64 0] rfl rfl 46 #[.int .i64 0, .float .f64 0, .float .f64 0, .float .f64 0, .float .f64 0, .float .f64 0, .float .f64 0] B_res.out (by kernel_rfl) rfl (by simp [Value.oneCell']) ?_) | go_step)
  refine bodyPost_ret (res_blk Try.results18 rfl (run_loadVar_row (P := Try.prog) _ _ 46 46 #[.int .i64 4, .float .f64 0, .float .f64 0, .float .f64 0, .float .f64 0, .float .f64 0, .float .f64 0] (0, 0) _ (Blk.setRow B_res.out) Try.underlying46 rfl (by kernel_rfl))) rfl ⟨rfl, ?_⟩
  exact below_setRow HO.out low_res.out _
set_option maxRecDepth 20000 in
set_option maxHeartbeats 6400000 in
theorem iPass_some {g a b : Nat → Nat} {G : Nat → Option Nat} {l i : Nat} {I : Option Nat} {h : Hit} (s : Int) (hg : Gc g G) (hh : Hc l a b h) (hi : Fc i I) (w : World) : Calls Try.prog 18 #[Gv g, Mv 0 s l a b, .float .f64 i] w fun e w' => ∃ r, e = .returned (Qv (passC G (some h) I).1 r) ∧ Rc r (passC G (some h) I).2 ∧ Below w.heap.size w w' := by
  have H : Hid (Gc g G ∧ Hc l a b h ∧ Fc i I) := ⟨hg, hh, hi⟩
  clear hg hh hi
  have hst := st64
  go_enter Try.func18, Try.ntmps18
  have HO : Hid (Below w.heap.size w w) := Below.refl _ _
  go_upto_region 1 with fail
  obtain ⟨v1, hv⟩ : ∃ Xw, Xw = (((w.alloc (.cells #[.float .f64 (g 0), .float .f64 (g 1), .float .f64 (g 2), .float .f64 (g 3), .float .f64 (g 4)] 41)).alloc (.cells #[.int .i64 0, .int .i64 s, .float .f64 l, .float .f64 (a 0), .float .f64 (a 1), .float .f64 (a 2), .float .f64 (a 3), .float .f64 (a 4), .float .f64 (a 5), .float .f64 (b 0), .float .f64 (b 1), .float .f64 (b 2), .float .f64 (b 3), .float .f64 (b 4), .float .f64 (b 5)] 43)).alloc (.cells #[.int .i64 0, .float .f64 0, .float .f64 0, .float .f64 0, .float .f64 0, .float .f64 0, .float .f64 0] 46)) := ⟨_, rfl⟩
  rw [← hv]
  have ne_f_h : Hid (w.heap.size ≠ w.heap.size + 1) := by show (w.heap.size : Nat) ≠ w.heap.size + 1; omega
  have ne_f_res : Hid (w.heap.size ≠ w.heap.size + 1 + 1) := by show (w.heap.size : Nat) ≠ w.heap.size + 1 + 1; omega
  have ne_h_res : Hid (w.heap.size + 1 ≠ w.heap.size + 1 + 1) := by show (w.heap.size + 1 : Nat) ≠ w.heap.size + 1 + 1; omega
  have B_f : Hid (Blk v1 (w.heap.size) #[.float .f64 (g 0), .float .f64 (g 1), .float .f64 (g 2), .float .f64 (g 3), .float .f64 (g 4)] 41) := by show Blk v1 (w.heap.size) _ _; rw [hv]; exact (Blk.alloc (Blk.alloc (Blk.new (by simp)) _) _)
  have low_f : Hid (w.heap.size ≤ w.heap.size) := by show w.heap.size ≤ w.heap.size; have := HO.out.size; omega
  have B_h : Hid (Blk v1 (w.heap.size + 1) #[.int .i64 0, .int .i64 s, .float .f64 l, .float .f64 (a 0), .float .f64 (a 1), .float .f64 (a 2), .float .f64 (a 3), .float .f64 (a 4), .float .f64 (a 5), .float .f64 (b 0), .float .f64 (b 1), .float .f64 (b 2), .float .f64 (b 3), .float .f64 (b 4), .float .f64 (b 5)] 43) := by show Blk v1 (w.heap.size + 1) _ _; rw [hv]; exact (Blk.alloc (Blk.new (by simp)) _)
  have low_h : Hid (w.heap.size ≤ w.heap.size + 1) := by show w.heap.size ≤ w.heap.size + 1; have := HO.out.size; omega
  have B_res : Hid (Blk v1 (w.heap.size + 1 + 1) #[.int .i64 0, .float .f64 0, .float .f64 0, .float .f64 0, .float .f64 0, .float .f64 0, .float .f64 0] 46) := by show Blk v1 (w.heap.size + 1 + 1) _ _; rw [hv]; exact (Blk.new (by simp))
  have low_res : Hid (w.heap.size ≤ w.heap.size + 1 + 1) := by show w.heap.size ≤ w.heap.size + 1 + 1; have := HO.out.size; omega
  replace HO : Hid (Below w.heap.size w v1) := by show Below w.heap.size w v1; rw [hv]; exact (below_new (below_new (below_new HO.out _) _) _)
  clear hv
  have h_0 := B_h.out.cell (j := 0) rfl
  have h_1 := B_h.out.cell (j := 1) rfl
  have h_2 := B_h.out.cell (j := 2) rfl
  have h_3 := B_h.out.cell (j := 3) rfl
  have h_4 := B_h.out.cell (j := 4) rfl
  have h_5 := B_h.out.cell (j := 5) rfl
  have h_6 := B_h.out.cell (j := 6) rfl
  have h_7 := B_h.out.cell (j := 7) rfl
  have h_8 := B_h.out.cell (j := 8) rfl
  have h_9 := B_h.out.cell (j := 9) rfl
  have h_10 := B_h.out.cell (j := 10) rfl
  have h_11 := B_h.out.cell (j := 11) rfl
  have h_12 := B_h.out.cell (j := 12) rfl
  have h_13 := B_h.out.cell (j := 13) rfl
  have h_14 := B_h.out.cell (j := 14) rfl
  have h_f := B_h.out.frozen
  have h_z := B_h.out.lt
  go_upto_region 3 with fail
  clear h_0 h_1 h_2 h_3 h_4 h_5 h_6 h_7 h_8 h_9 h_10 h_11 h_12 h_13 h_14 h_f h_z
  have hg1 := gt_fc (H.out.1.h 4 (by decide)) fc_zero
  cases h1 : gtO (G 4) zO
  case false =>
    have hO : outC G h = false := by unfold outC; rw [h1]; rfl
    rw [h1] at hg1
    have f_0 := B_f.out.cell (j := 0) rfl
    have f_1 := B_f.out.cell (j := 1) rfl
    have f_2 := B_f.out.cell (j := 2) rfl
    have f_3 := B_f.out.cell (j := 3) rfl
    have f_4 := B_f.out.cell (j := 4) rfl
    have f_f := B_f.out.frozen
    have f_z := B_f.out.lt
    go_wp2_with fail
    go_cut [30] from 13 to 29 (fun sv wx => sv = .bool false ∧ Below v1.heap.size v1 wx)
    case first =>
      rcases ho : FloatKind.f64.format.order (g 4) 0 with _ | c
      rotate_left
      cases c
      rotate_left
      rotate_left
      exact absurd hg1 (by rw [ho]; decide)
      all_goals
        go_quiet (fail)
        go_wp2_with fail
        go_meet
        case rel => exact ⟨rfl, below_drewN (Below.refl _ _) _⟩
    case rest =>
      obtain ⟨rfl, hB⟩ := hcut
      clear f_0 f_1 f_2 f_3 f_4 f_f f_z
      obtain ⟨v2, hv⟩ : ∃ v, v = wc := ⟨_, rfl⟩
      subst hv
      replace HO : Hid (Below w.heap.size w v2) := HO.out.trans (hB.mono HO.out.size)
      replace B_f : Hid (Blk v2 (w.heap.size) #[.float .f64 (g 0), .float .f64 (g 1), .float .f64 (g 2), .float .f64 (g 3), .float .f64 (g 4)] 41) := Blk.old B_f.out hB
      replace B_h : Hid (Blk v2 (w.heap.size + 1) #[.int .i64 0, .int .i64 s, .float .f64 l, .float .f64 (a 0), .float .f64 (a 1), .float .f64 (a 2), .float .f64 (a 3), .float .f64 (a 4), .float .f64 (a 5), .float .f64 (b 0), .float .f64 (b 1), .float .f64 (b 2), .float .f64 (b 3), .float .f64 (b 4), .float .f64 (b 5)] 43) := Blk.old B_h.out hB
      replace B_res : Hid (Blk v2 (w.heap.size + 1 + 1) #[.int .i64 0, .float .f64 0, .float .f64 0, .float .f64 0, .float .f64 0, .float .f64 0, .float .f64 0] 46) := Blk.old B_res.out hB
      clear hB
      clear hg1
      have hD : Hid (passC G (some h) I = (codeOf (bendC h.pt h.nr I (G 3)), rayOf (bendC h.pt h.nr I (G 3)))) := by show passC G (some h) I = _; unfold passC; simp only []; rw [if_neg (by rw [hO]; simp)]
      have f_0 := B_f.out.cell (j := 0) rfl
      have f_1 := B_f.out.cell (j := 1) rfl
      have f_2 := B_f.out.cell (j := 2) rfl
      have f_3 := B_f.out.cell (j := 3) rfl
      have f_4 := B_f.out.cell (j := 4) rfl
      have f_f := B_f.out.frozen
      have f_z := B_f.out.lt
      have h_0 := B_h.out.cell (j := 0) rfl
      have h_1 := B_h.out.cell (j := 1) rfl
      have h_2 := B_h.out.cell (j := 2) rfl
      have h_3 := B_h.out.cell (j := 3) rfl
      have h_4 := B_h.out.cell (j := 4) rfl
      have h_5 := B_h.out.cell (j := 5) rfl
      have h_6 := B_h.out.cell (j := 6) rfl
      have h_7 := B_h.out.cell (j := 7) rfl
      have h_8 := B_h.out.cell (j := 8) rfl
      have h_9 := B_h.out.cell (j := 9) rfl
      have h_10 := B_h.out.cell (j := 10) rfl
      have h_11 := B_h.out.cell (j := 11) rfl
      have h_12 := B_h.out.cell (j := 12) rfl
      have h_13 := B_h.out.cell (j := 13) rfl
      have h_14 := B_h.out.cell (j := 14) rfl
      have h_f := B_h.out.frozen
      have h_z := B_h.out.lt
      go_wp2_with fail
      refine (iBend_any H.out.2.1.a H.out.2.1.b H.out.2.2 (H.out.1.h 3 (by decide)) _).mono ?_
      rintro e v3 ⟨r, rfl, hr, hb⟩
      clear f_0 f_1 f_2 f_3 f_4 f_f f_z h_0 h_1 h_2 h_3 h_4 h_5 h_6 h_7 h_8 h_9 h_10 h_11 h_12 h_13 h_14 h_f h_z
      replace B_f : Hid (Blk v3 (w.heap.size) #[.float .f64 (g 0), .float .f64 (g 1), .float .f64 (g 2), .float .f64 (g 3), .float .f64 (g 4)] 41) := by show Blk v3 (w.heap.size) _ _; exact Blk.old B_f.out hb
      replace B_h : Hid (Blk v3 (w.heap.size + 1) #[.int .i64 0, .int .i64 s, .float .f64 l, .float .f64 (a 0), .float .f64 (a 1), .float .f64 (a 2), .float .f64 (a 3), .float .f64 (a 4), .float .f64 (a 5), .float .f64 (b 0), .float .f64 (b 1), .float .f64 (b 2), .float .f64 (b 3), .float .f64 (b 4), .float .f64 (b 5)] 43) := by show Blk v3 (w.heap.size + 1) _ _; exact Blk.old B_h.out hb
      replace B_res : Hid (Blk v3 (w.heap.size + 1 + 1) #[.int .i64 0, .float .f64 0, .float .f64 0, .float .f64 0, .float .f64 0, .float .f64 0, .float .f64 0] 46) := by show Blk v3 (w.heap.size + 1 + 1) _ _; exact Blk.old B_res.out hb
      replace HO : Hid (Below w.heap.size w v3) := box_step HO.out hb (Nat.le_refl _)
      clear hb
      replace hr : Hid _ := hr
      dsimp only
      repeat (first | (refine wpList_store_row rfl 46 _ _ rfl (w.heap.size + 1 + 1) #[.int .i64 (codeOf (bendC h.pt h.nr I (G 3))), .float .f64 (r 0), .float .f64 (r 1), .float .f64 (r 2), .float .f64 (r 3), .float .f64 (r 4), .float .f64 (r 5)] rfl rfl 46 #[.int .i64 0, .float .f64 0, .float .f64 0, .float .f64 0, .float .f64 0, .float .f64 0, .float .f64 0] B_res.out (by kernel_rfl) rfl (by simp [Value.oneCell']) ?_) | go_step)
      refine bodyPost_ret (res_blk Try.results18 rfl (run_loadVar_row (P := Try.prog) _ _ 46 46 #[.int .i64 (codeOf (bendC h.pt h.nr I (G 3))), .float .f64 (r 0), .float .f64 (r 1), .float .f64 (r 2), .float .f64 (r 3), .float .f64 (r 4), .float .f64 (r 5)] (0, 0) _ (Blk.setRow B_res.out) Try.underlying46 rfl (by kernel_rfl))) rfl ⟨r, by rw [hD.out], by rw [hD.out]; exact hr.out, ?_⟩
      exact below_setRow HO.out low_res.out _
  case true =>
    rw [h1] at hg1
    cases h2 : gtO (sqr (h.pt 0) (h.pt 1)) (opC .mul (G 4) (G 4))
    case false =>
      have hO : outC G h = false := by unfold outC; rw [h1, h2]; rfl
      have k_f_0 : ∀ W, Below v1.heap.size v1 W → W.cell? ⟨w.heap.size, 0, none⟩ = some (.float .f64 (g 0)) := fun _ h => kold h (B_f.out.cell (j := 0) rfl)
      have k_f_1 : ∀ W, Below v1.heap.size v1 W → W.cell? ⟨w.heap.size, 1, none⟩ = some (.float .f64 (g 1)) := fun _ h => kold h (B_f.out.cell (j := 1) rfl)
      have k_f_2 : ∀ W, Below v1.heap.size v1 W → W.cell? ⟨w.heap.size, 2, none⟩ = some (.float .f64 (g 2)) := fun _ h => kold h (B_f.out.cell (j := 2) rfl)
      have k_f_3 : ∀ W, Below v1.heap.size v1 W → W.cell? ⟨w.heap.size, 3, none⟩ = some (.float .f64 (g 3)) := fun _ h => kold h (B_f.out.cell (j := 3) rfl)
      have k_f_4 : ∀ W, Below v1.heap.size v1 W → W.cell? ⟨w.heap.size, 4, none⟩ = some (.float .f64 (g 4)) := fun _ h => kold h (B_f.out.cell (j := 4) rfl)
      have k_h_0 : ∀ W, Below v1.heap.size v1 W → W.cell? ⟨w.heap.size + 1, 0, none⟩ = some (.int .i64 0) := fun _ h => kold h (B_h.out.cell (j := 0) rfl)
      have k_h_1 : ∀ W, Below v1.heap.size v1 W → W.cell? ⟨w.heap.size + 1, 1, none⟩ = some (.int .i64 s) := fun _ h => kold h (B_h.out.cell (j := 1) rfl)
      have k_h_2 : ∀ W, Below v1.heap.size v1 W → W.cell? ⟨w.heap.size + 1, 2, none⟩ = some (.float .f64 l) := fun _ h => kold h (B_h.out.cell (j := 2) rfl)
      have k_h_3 : ∀ W, Below v1.heap.size v1 W → W.cell? ⟨w.heap.size + 1, 3, none⟩ = some (.float .f64 (a 0)) := fun _ h => kold h (B_h.out.cell (j := 3) rfl)
      have k_h_4 : ∀ W, Below v1.heap.size v1 W → W.cell? ⟨w.heap.size + 1, 4, none⟩ = some (.float .f64 (a 1)) := fun _ h => kold h (B_h.out.cell (j := 4) rfl)
      have k_h_5 : ∀ W, Below v1.heap.size v1 W → W.cell? ⟨w.heap.size + 1, 5, none⟩ = some (.float .f64 (a 2)) := fun _ h => kold h (B_h.out.cell (j := 5) rfl)
      have k_h_6 : ∀ W, Below v1.heap.size v1 W → W.cell? ⟨w.heap.size + 1, 6, none⟩ = some (.float .f64 (a 3)) := fun _ h => kold h (B_h.out.cell (j := 6) rfl)
      have k_h_7 : ∀ W, Below v1.heap.size v1 W → W.cell? ⟨w.heap.size + 1, 7, none⟩ = some (.float .f64 (a 4)) := fun _ h => kold h (B_h.out.cell (j := 7) rfl)
      have k_h_8 : ∀ W, Below v1.heap.size v1 W → W.cell? ⟨w.heap.size + 1, 8, none⟩ = some (.float .f64 (a 5)) := fun _ h => kold h (B_h.out.cell (j := 8) rfl)
      have k_h_9 : ∀ W, Below v1.heap.size v1 W → W.cell? ⟨w.heap.size + 1, 9, none⟩ = some (.float .f64 (b 0)) := fun _ h => kold h (B_h.out.cell (j := 9) rfl)
      have k_h_10 : ∀ W, Below v1.heap.size v1 W → W.cell? ⟨w.heap.size + 1, 10, none⟩ = some (.float .f64 (b 1)) := fun _ h => kold h (B_h.out.cell (j := 10) rfl)
      have k_h_11 : ∀ W, Below v1.heap.size v1 W → W.cell? ⟨w.heap.size + 1, 11, none⟩ = some (.float .f64 (b 2)) := fun _ h => kold h (B_h.out.cell (j := 11) rfl)
      have k_h_12 : ∀ W, Below v1.heap.size v1 W → W.cell? ⟨w.heap.size + 1, 12, none⟩ = some (.float .f64 (b 3)) := fun _ h => kold h (B_h.out.cell (j := 12) rfl)
      have k_h_13 : ∀ W, Below v1.heap.size v1 W → W.cell? ⟨w.heap.size + 1, 13, none⟩ = some (.float .f64 (b 4)) := fun _ h => kold h (B_h.out.cell (j := 13) rfl)
      have k_h_14 : ∀ W, Below v1.heap.size v1 W → W.cell? ⟨w.heap.size + 1, 14, none⟩ = some (.float .f64 (b 5)) := fun _ h => kold h (B_h.out.cell (j := 14) rfl)
      have hmul := mulD
      have hR0 : Below v1.heap.size v1 v1 := Below.refl _ _
      go_wp2_with fail
      go_cut [30] from 13 to 29 (fun sv wx => ∃ (zz : Nat), sv = .bool false ∧ (True) ∧ Below v1.heap.size v1 wx)
      case first =>
        rcases ho : FloatKind.f64.format.order (g 4) 0 with _ | c
        exact absurd hg1 (by rw [ho]; decide)
        cases c
        exact absurd hg1 (by rw [ho]; decide)
        exact absurd hg1 (by rw [ho]; decide)
        all_goals go_region_held (fun W => Below v1.heap.size v1 W) (first | with_reducible assumption | with_reducible exact below_drewN ‹_› _ | go_grown) (first | (go_at_call 32; refine (iSquare_any (H.out.2.1.a.h 0 (by decide)) (H.out.2.1.a.h 1 (by decide)) _).mono ?_; rintro e wz ⟨zr, rfl, hzr, hb1⟩; have hcm : ∀ W, (FloatKind.f64.format.order zr (opV .mul (g 4) (g 4) W) == some .gt) = false := (fun W => (gt_fc hzr (fc_op _ (H.out.1.h 4 (by decide)) (H.out.1.h 4 (by decide)) W)).trans h2); have hR1 : Below v1.heap.size v1 wz := (by refine box_step ?_ hb1 (by go_size); first | with_reducible assumption | go_grown)))
        all_goals
          go_wp2_with fail
          go_meet
          case rel =>
            refine ⟨0, rfl, trivial, ?_⟩
            first | with_reducible assumption | with_reducible exact below_drewN ‹_› _ | go_grown
      case rest =>
        obtain ⟨zz3, rfl, P3, hB⟩ := hcut
        clear k_f_0 k_f_1 k_f_2 k_f_3 k_f_4 k_h_0 k_h_1 k_h_2 k_h_3 k_h_4 k_h_5 k_h_6 k_h_7 k_h_8 k_h_9 k_h_10 k_h_11 k_h_12 k_h_13 k_h_14 hR0
        replace P3 : Hid _ := P3
        obtain ⟨v2, hv⟩ : ∃ v, v = wc := ⟨_, rfl⟩
        subst hv
        replace HO : Hid (Below w.heap.size w v2) := HO.out.trans (hB.mono HO.out.size)
        replace B_f : Hid (Blk v2 (w.heap.size) #[.float .f64 (g 0), .float .f64 (g 1), .float .f64 (g 2), .float .f64 (g 3), .float .f64 (g 4)] 41) := Blk.old B_f.out hB
        replace B_h : Hid (Blk v2 (w.heap.size + 1) #[.int .i64 0, .int .i64 s, .float .f64 l, .float .f64 (a 0), .float .f64 (a 1), .float .f64 (a 2), .float .f64 (a 3), .float .f64 (a 4), .float .f64 (a 5), .float .f64 (b 0), .float .f64 (b 1), .float .f64 (b 2), .float .f64 (b 3), .float .f64 (b 4), .float .f64 (b 5)] 43) := Blk.old B_h.out hB
        replace B_res : Hid (Blk v2 (w.heap.size + 1 + 1) #[.int .i64 0, .float .f64 0, .float .f64 0, .float .f64 0, .float .f64 0, .float .f64 0, .float .f64 0] 46) := Blk.old B_res.out hB
        clear hB
        clear hg1 hmul
        have hD : Hid (passC G (some h) I = (codeOf (bendC h.pt h.nr I (G 3)), rayOf (bendC h.pt h.nr I (G 3)))) := by show passC G (some h) I = _; unfold passC; simp only []; rw [if_neg (by rw [hO]; simp)]
        have f_0 := B_f.out.cell (j := 0) rfl
        have f_1 := B_f.out.cell (j := 1) rfl
        have f_2 := B_f.out.cell (j := 2) rfl
        have f_3 := B_f.out.cell (j := 3) rfl
        have f_4 := B_f.out.cell (j := 4) rfl
        have f_f := B_f.out.frozen
        have f_z := B_f.out.lt
        have h_0 := B_h.out.cell (j := 0) rfl
        have h_1 := B_h.out.cell (j := 1) rfl
        have h_2 := B_h.out.cell (j := 2) rfl
        have h_3 := B_h.out.cell (j := 3) rfl
        have h_4 := B_h.out.cell (j := 4) rfl
        have h_5 := B_h.out.cell (j := 5) rfl
        have h_6 := B_h.out.cell (j := 6) rfl
        have h_7 := B_h.out.cell (j := 7) rfl
        have h_8 := B_h.out.cell (j := 8) rfl
        have h_9 := B_h.out.cell (j := 9) rfl
        have h_10 := B_h.out.cell (j := 10) rfl
        have h_11 := B_h.out.cell (j := 11) rfl
        have h_12 := B_h.out.cell (j := 12) rfl
        have h_13 := B_h.out.cell (j := 13) rfl
        have h_14 := B_h.out.cell (j := 14) rfl
        have h_f := B_h.out.frozen
        have h_z := B_h.out.lt
        go_wp2_with fail
        refine (iBend_any H.out.2.1.a H.out.2.1.b H.out.2.2 (H.out.1.h 3 (by decide)) _).mono ?_
        rintro e v4 ⟨r, rfl, hr, hb⟩
        clear f_0 f_1 f_2 f_3 f_4 f_f f_z h_0 h_1 h_2 h_3 h_4 h_5 h_6 h_7 h_8 h_9 h_10 h_11 h_12 h_13 h_14 h_f h_z
        replace B_f : Hid (Blk v4 (w.heap.size) #[.float .f64 (g 0), .float .f64 (g 1), .float .f64 (g 2), .float .f64 (g 3), .float .f64 (g 4)] 41) := by show Blk v4 (w.heap.size) _ _; exact Blk.old B_f.out hb
        replace B_h : Hid (Blk v4 (w.heap.size + 1) #[.int .i64 0, .int .i64 s, .float .f64 l, .float .f64 (a 0), .float .f64 (a 1), .float .f64 (a 2), .float .f64 (a 3), .float .f64 (a 4), .float .f64 (a 5), .float .f64 (b 0), .float .f64 (b 1), .float .f64 (b 2), .float .f64 (b 3), .float .f64 (b 4), .float .f64 (b 5)] 43) := by show Blk v4 (w.heap.size + 1) _ _; exact Blk.old B_h.out hb
        replace B_res : Hid (Blk v4 (w.heap.size + 1 + 1) #[.int .i64 0, .float .f64 0, .float .f64 0, .float .f64 0, .float .f64 0, .float .f64 0, .float .f64 0] 46) := by show Blk v4 (w.heap.size + 1 + 1) _ _; exact Blk.old B_res.out hb
        replace HO : Hid (Below w.heap.size w v4) := box_step HO.out hb (Nat.le_refl _)
        clear hb
        replace hr : Hid _ := hr
        dsimp only
        repeat (first | (refine wpList_store_row rfl 46 _ _ rfl (w.heap.size + 1 + 1) #[.int .i64 (codeOf (bendC h.pt h.nr I (G 3))), .float .f64 (r 0), .float .f64 (r 1), .float .f64 (r 2), .float .f64 (r 3), .float .f64 (r 4), .float .f64 (r 5)] rfl rfl 46 #[.int .i64 0, .float .f64 0, .float .f64 0, .float .f64 0, .float .f64 0, .float .f64 0, .float .f64 0] B_res.out (by kernel_rfl) rfl (by simp [Value.oneCell']) ?_) | go_step)
        refine bodyPost_ret (res_blk Try.results18 rfl (run_loadVar_row (P := Try.prog) _ _ 46 46 #[.int .i64 (codeOf (bendC h.pt h.nr I (G 3))), .float .f64 (r 0), .float .f64 (r 1), .float .f64 (r 2), .float .f64 (r 3), .float .f64 (r 4), .float .f64 (r 5)] (0, 0) _ (Blk.setRow B_res.out) Try.underlying46 rfl (by kernel_rfl))) rfl ⟨r, by rw [hD.out], by rw [hD.out]; exact hr.out, ?_⟩
        exact below_setRow HO.out low_res.out _
    case true =>
      have hO : outC G h = true := by unfold outC; rw [h1, h2]; rfl
      have k_f_0 : ∀ W, Below v1.heap.size v1 W → W.cell? ⟨w.heap.size, 0, none⟩ = some (.float .f64 (g 0)) := fun _ h => kold h (B_f.out.cell (j := 0) rfl)
      have k_f_1 : ∀ W, Below v1.heap.size v1 W → W.cell? ⟨w.heap.size, 1, none⟩ = some (.float .f64 (g 1)) := fun _ h => kold h (B_f.out.cell (j := 1) rfl)
      have k_f_2 : ∀ W, Below v1.heap.size v1 W → W.cell? ⟨w.heap.size, 2, none⟩ = some (.float .f64 (g 2)) := fun _ h => kold h (B_f.out.cell (j := 2) rfl)
      have k_f_3 : ∀ W, Below v1.heap.size v1 W → W.cell? ⟨w.heap.size, 3, none⟩ = some (.float .f64 (g 3)) := fun _ h => kold h (B_f.out.cell (j := 3) rfl)
      have k_f_4 : ∀ W, Below v1.heap.size v1 W → W.cell? ⟨w.heap.size, 4, none⟩ = some (.float .f64 (g 4)) := fun _ h => kold h (B_f.out.cell (j := 4) rfl)
      have k_h_0 : ∀ W, Below v1.heap.size v1 W → W.cell? ⟨w.heap.size + 1, 0, none⟩ = some (.int .i64 0) := fun _ h => kold h (B_h.out.cell (j := 0) rfl)
      have k_h_1 : ∀ W, Below v1.heap.size v1 W → W.cell? ⟨w.heap.size + 1, 1, none⟩ = some (.int .i64 s) := fun _ h => kold h (B_h.out.cell (j := 1) rfl)
      have k_h_2 : ∀ W, Below v1.heap.size v1 W → W.cell? ⟨w.heap.size + 1, 2, none⟩ = some (.float .f64 l) := fun _ h => kold h (B_h.out.cell (j := 2) rfl)
      have k_h_3 : ∀ W, Below v1.heap.size v1 W → W.cell? ⟨w.heap.size + 1, 3, none⟩ = some (.float .f64 (a 0)) := fun _ h => kold h (B_h.out.cell (j := 3) rfl)
      have k_h_4 : ∀ W, Below v1.heap.size v1 W → W.cell? ⟨w.heap.size + 1, 4, none⟩ = some (.float .f64 (a 1)) := fun _ h => kold h (B_h.out.cell (j := 4) rfl)
      have k_h_5 : ∀ W, Below v1.heap.size v1 W → W.cell? ⟨w.heap.size + 1, 5, none⟩ = some (.float .f64 (a 2)) := fun _ h => kold h (B_h.out.cell (j := 5) rfl)
      have k_h_6 : ∀ W, Below v1.heap.size v1 W → W.cell? ⟨w.heap.size + 1, 6, none⟩ = some (.float .f64 (a 3)) := fun _ h => kold h (B_h.out.cell (j := 6) rfl)
      have k_h_7 : ∀ W, Below v1.heap.size v1 W → W.cell? ⟨w.heap.size + 1, 7, none⟩ = some (.float .f64 (a 4)) := fun _ h => kold h (B_h.out.cell (j := 7) rfl)
      have k_h_8 : ∀ W, Below v1.heap.size v1 W → W.cell? ⟨w.heap.size + 1, 8, none⟩ = some (.float .f64 (a 5)) := fun _ h => kold h (B_h.out.cell (j := 8) rfl)
      have k_h_9 : ∀ W, Below v1.heap.size v1 W → W.cell? ⟨w.heap.size + 1, 9, none⟩ = some (.float .f64 (b 0)) := fun _ h => kold h (B_h.out.cell (j := 9) rfl)
      have k_h_10 : ∀ W, Below v1.heap.size v1 W → W.cell? ⟨w.heap.size + 1, 10, none⟩ = some (.float .f64 (b 1)) := fun _ h => kold h (B_h.out.cell (j := 10) rfl)
      have k_h_11 : ∀ W, Below v1.heap.size v1 W → W.cell? ⟨w.heap.size + 1, 11, none⟩ = some (.float .f64 (b 2)) := fun _ h => kold h (B_h.out.cell (j := 11) rfl)
      have k_h_12 : ∀ W, Below v1.heap.size v1 W → W.cell? ⟨w.heap.size + 1, 12, none⟩ = some (.float .f64 (b 3)) := fun _ h => kold h (B_h.out.cell (j := 12) rfl)
      have k_h_13 : ∀ W, Below v1.heap.size v1 W → W.cell? ⟨w.heap.size + 1, 13, none⟩ = some (.float .f64 (b 4)) := fun _ h => kold h (B_h.out.cell (j := 13) rfl)
      have k_h_14 : ∀ W, Below v1.heap.size v1 W → W.cell? ⟨w.heap.size + 1, 14, none⟩ = some (.float .f64 (b 5)) := fun _ h => kold h (B_h.out.cell (j := 14) rfl)
      have hmul := mulD
      have hR0 : Below v1.heap.size v1 v1 := Below.refl _ _
      go_wp2_with fail
      go_cut [30] from 13 to 29 (fun sv wx => ∃ (zz : Nat), sv = .bool true ∧ (True) ∧ Below v1.heap.size v1 wx)
      case first =>
        rcases ho : FloatKind.f64.format.order (g 4) 0 with _ | c
        exact absurd hg1 (by rw [ho]; decide)
        cases c
        exact absurd hg1 (by rw [ho]; decide)
        exact absurd hg1 (by rw [ho]; decide)
        all_goals go_region_held (fun W => Below v1.heap.size v1 W) (first | with_reducible assumption | with_reducible exact below_drewN ‹_› _ | go_grown) (first | (go_at_call 32; refine (iSquare_any (H.out.2.1.a.h 0 (by decide)) (H.out.2.1.a.h 1 (by decide)) _).mono ?_; rintro e wz ⟨zr, rfl, hzr, hb1⟩; have hcm : ∀ W, (FloatKind.f64.format.order zr (opV .mul (g 4) (g 4) W) == some .gt) = true := (fun W => (gt_fc hzr (fc_op _ (H.out.1.h 4 (by decide)) (H.out.1.h 4 (by decide)) W)).trans h2); have hR1 : Below v1.heap.size v1 wz := (by refine box_step ?_ hb1 (by go_size); first | with_reducible assumption | go_grown)))
        all_goals
          go_wp2_with fail
          go_meet
          case rel =>
            refine ⟨0, rfl, trivial, ?_⟩
            first | with_reducible assumption | with_reducible exact below_drewN ‹_› _ | go_grown
      case rest =>
        obtain ⟨zz3, rfl, P3, hB⟩ := hcut
        clear k_f_0 k_f_1 k_f_2 k_f_3 k_f_4 k_h_0 k_h_1 k_h_2 k_h_3 k_h_4 k_h_5 k_h_6 k_h_7 k_h_8 k_h_9 k_h_10 k_h_11 k_h_12 k_h_13 k_h_14 hR0
        replace P3 : Hid _ := P3
        obtain ⟨v2, hv⟩ : ∃ v, v = wc := ⟨_, rfl⟩
        subst hv
        replace HO : Hid (Below w.heap.size w v2) := HO.out.trans (hB.mono HO.out.size)
        replace B_f : Hid (Blk v2 (w.heap.size) #[.float .f64 (g 0), .float .f64 (g 1), .float .f64 (g 2), .float .f64 (g 3), .float .f64 (g 4)] 41) := Blk.old B_f.out hB
        replace B_h : Hid (Blk v2 (w.heap.size + 1) #[.int .i64 0, .int .i64 s, .float .f64 l, .float .f64 (a 0), .float .f64 (a 1), .float .f64 (a 2), .float .f64 (a 3), .float .f64 (a 4), .float .f64 (a 5), .float .f64 (b 0), .float .f64 (b 1), .float .f64 (b 2), .float .f64 (b 3), .float .f64 (b 4), .float .f64 (b 5)] 43) := Blk.old B_h.out hB
        replace B_res : Hid (Blk v2 (w.heap.size + 1 + 1) #[.int .i64 0, .float .f64 0, .float .f64 0, .float .f64 0, .float .f64 0, .float .f64 0, .float .f64 0] 46) := Blk.old B_res.out hB
        clear hB
        clear hg1 hmul
        have hD : Hid (passC G (some h) I = (3, fun _ => zO)) := by show passC G (some h) I = _; unfold passC; simp only []; rw [if_pos hO]
        go_upto_region 4 with fail
        skip
        repeat (first | (refine wpList_store_row rfl 46 _ _ rfl (w.heap.size + 1 + 1) #[.int .i64 3, .float .f64 0, .float .f64 0, .float .f64 0, .float .f64 0, .float .f64 0, .float .f64 0] rfl rfl 46 #[.int .i64 0, .float .f64 0, .float .f64 0, .float .f64 0, .float .f64 0, .float .f64 0, .float .f64 0] B_res.out (by kernel_rfl) rfl (by simp [Value.oneCell']) ?_) | go_step)
        refine bodyPost_ret (res_blk Try.results18 rfl (run_loadVar_row (P := Try.prog) _ _ 46 46 #[.int .i64 3, .float .f64 0, .float .f64 0, .float .f64 0, .float .f64 0, .float .f64 0, .float .f64 0] (0, 0) _ (Blk.setRow B_res.out) Try.underlying46 rfl (by kernel_rfl))) rfl ⟨(fun _ => 0), by rw [hD.out], by rw [hD.out]; exact rc_zero, ?_⟩
        exact below_setRow HO.out low_res.out _
end Go.Proofs.Ytbcidfmfkmeinaa
