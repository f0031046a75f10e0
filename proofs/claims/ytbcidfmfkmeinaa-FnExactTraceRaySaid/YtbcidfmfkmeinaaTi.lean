/- A ray through a list of faces: the program's. -/
import Derived.Test.YtbcidfmfkmeinaaTq
import Derived.Test.YtbcidfmfkmeinaaMi
namespace Go.Proofs.Ytbcidfmfkmeinaa
open Go.RowKit Fl
set_option linter.unusedVariables false
set_option linter.unusedSimpArgs false
set_option maxRecDepth 20000 in
set_option maxHeartbeats 12800000 in
theorem iTrace_some (b off n cap : Nat) (F : Nat → Nat → Nat) {G : Nat → Nat → Option Nat} {a : Nat → Nat} {A : Nat → Option Nat} (w : World) (ha : Rc a A) (hF : ∀ i, i < n → Gc (F i) (G i)) (hn : n ≤ 1048576)
    (hc : ∀ i, i < n → ∀ j, j < 5 → w.cell? ⟨b, off + i * 5 + j, none⟩ = some (.float .f64 (F i j))) : TV 8 #[.slice (some ⟨b, off, none⟩) n cap, Rv a] w G A n := by
  unfold TV
  have H : Hid (Rc a A ∧ (∀ i, i < n → Gc (F i) (G i)) ∧ (∀ i, i < n → ∀ j, j < 5 → w.cell? ⟨b, off + i * 5 + j, none⟩ = some (.float .f64 (F i j)))) := ⟨ha, hF, hc⟩
  clear ha hF hc
  have hst := st64
  have hnI : (n : Int) ≤ 1048576 := by omega
  go_enter Try.func8, Try.ntmps8
  have HO : Hid (Below w.heap.size w w) := Below.refl _ _
  go_upto_region 1 with fail
  obtain ⟨v1, hv⟩ : ∃ Xw, Xw = ((w.alloc (.cells #[.float .f64 (a 0), .float .f64 (a 1), .float .f64 (a 2), .float .f64 (a 3), .float .f64 (a 4), .float .f64 (a 5)] 33)).alloc (.cells #[.int .i64 0, .int .i64 0, .float .f64 0, .slice none 0 0] 29)) := ⟨_, rfl⟩
  rw [← hv]
  have ne_a_res : Hid (w.heap.size ≠ w.heap.size + 1) := by show (w.heap.size : Nat) ≠ w.heap.size + 1; omega
  have B_a : Hid (Blk v1 (w.heap.size) #[.float .f64 (a 0), .float .f64 (a 1), .float .f64 (a 2), .float .f64 (a 3), .float .f64 (a 4), .float .f64 (a 5)] 33) := by show Blk v1 (w.heap.size) _ _; rw [hv]; exact (Blk.alloc (Blk.new (by simp)) _)
  have low_a : Hid (w.heap.size ≤ w.heap.size) := by show w.heap.size ≤ w.heap.size; have := HO.out.size; omega
  have B_res : Hid (Blk v1 (w.heap.size + 1) #[.int .i64 0, .int .i64 0, .float .f64 0, .slice none 0 0] 29) := by show Blk v1 (w.heap.size + 1) _ _; rw [hv]; exact (Blk.new (by simp))
  have low_res : Hid (w.heap.size ≤ w.heap.size + 1) := by show w.heap.size ≤ w.heap.size + 1; have := HO.out.size; omega
  replace HO : Hid (Below w.heap.size w v1) := by show Below w.heap.size w v1; rw [hv]; exact (below_new (below_new HO.out _) _)
  clear hv
  by_cases hm : 40 < n
  case pos =>
    have hmI : (40 : Int) < n := by omega
    go_upto_region 2 with fail
    skip
    repeat (first | (refine wpList_store_row rfl 29 _ _ rfl (w.heap.size + 1) #[.int .i64 2, .int .i64 0, .float .f64 0, .slice none 0 0] rfl rfl 29 #[.int .i64 0, .int .i64 0, .float .f64 0, .slice none 0 0] B_res.out (by kernel_rfl) rfl (by simp [Value.oneCell']) ?_) | go_step)
    refine bodyPost_ret (res_blk Try.results8 rfl (run_loadVar_row (P := Try.prog) _ _ 29 29 #[.int .i64 2, .int .i64 0, .float .f64 0, .slice none 0 0] (0, 0) _ (Blk.setRow B_res.out) Try.underlying29 rfl (by kernel_rfl))) rfl ⟨⟨2, 0, zO, 0⟩, _, _, (fun _ _ => 0), rfl, ⟨Or.inl ⟨hm, rfl⟩, fc_zero, Or.inl ⟨rfl, none, 0, rfl⟩, fun i hi => absurd hi (Nat.not_lt_zero _)⟩, ?_⟩
    exact below_setRow HO.out low_res.out _
  case neg =>
    have hm2 : n ≤ 40 := by omega
    have hmI : ¬ ((40 : Int) < n) := by omega
    have hmk := fun W => makeRa n (by omega) W
    go_upto_region 4 with fail
    clear hmk
    obtain ⟨v2, hv⟩ : ∃ X, X = (v1.alloc (.cells (madeCells #[.float .f64 0, .float .f64 0, .float .f64 0, .float .f64 0, .float .f64 0, .float .f64 0] (n * 6)) 33)).alloc (.cells #[.int .i64 0, .int .i64 0, .float .f64 0, .slice (some ⟨v1.heap.size, 0, none⟩) 0 n] 29) := ⟨_, rfl⟩
    rw [← hv]
    have HW0 : Hid (OwT v1.heap.size v2 (.slice (some ⟨v1.heap.size, 0, none⟩) 0 n) 0 (fun _ _ => 0)) := by
      show OwT _ _ _ _ _
      rw [hv]
      refine OwT.later (W := v1.alloc _) ⟨World.ownsRow_made _ _ _ (Nat.le_refl _) (by have : maxLen = 9223372036854775807 := rfl; omega) (by simp [madeCells]), by simp⟩ ((Below.refl _ _).alloc (Nat.le_refl _) _)
    have B_o : Hid (Blk v2 (v1.heap.size + 1) #[.int .i64 0, .int .i64 0, .float .f64 0, .slice (some ⟨v1.heap.size, 0, none⟩) 0 n] 29) := by show Blk _ _ _ _; rw [hv]; exact Blk.new (by simp)
    have low2_a : Hid (w.heap.size < v1.heap.size) := B_a.out.lt
    have ne_a_o : Hid (w.heap.size ≠ v1.heap.size + 1) := by show (w.heap.size : Nat) ≠ v1.heap.size + 1; have := B_a.out.lt; omega
    have low2_res : Hid (w.heap.size + 1 < v1.heap.size) := B_res.out.lt
    have ne_res_o : Hid (w.heap.size + 1 ≠ v1.heap.size + 1) := by show (w.heap.size + 1 : Nat) ≠ v1.heap.size + 1; have := B_res.out.lt; omega
    replace B_a : Hid (Blk v2 (w.heap.size) #[.float .f64 (a 0), .float .f64 (a 1), .float .f64 (a 2), .float .f64 (a 3), .float .f64 (a 4), .float .f64 (a 5)] 33) := by show Blk v2 (w.heap.size) _ _; rw [hv]; exact Blk.alloc (Blk.alloc B_a.out _) _
    replace B_res : Hid (Blk v2 (w.heap.size + 1) #[.int .i64 0, .int .i64 0, .float .f64 0, .slice none 0 0] 29) := by show Blk v2 (w.heap.size + 1) _ _; rw [hv]; exact Blk.alloc (Blk.alloc B_res.out _) _
    have low_o : Hid (w.heap.size ≤ v1.heap.size + 1) := by show w.heap.size ≤ v1.heap.size + 1; have := HO.out.size; omega
    have HLb : Hid (w.heap.size ≤ v1.heap.size) := HO.out.size
    replace HO : Hid (Below w.heap.size w v2) := by show Below w.heap.size w v2; rw [hv]; exact (below_new (below_new HO.out _) _)
    clear hv
    go_wp2_with fail
    go_loopw [6, 21] (fun s6 s7 wr => ∃ (k i p : Nat) (aa : Nat → Nat) (V : Value) (R : Nat → Nat → Nat), k ≤ n ∧ s6 = .float .f64 i ∧ s7 = .int .i64 k ∧ Hid ((Clear G A k ∧ Rc aa (stC G A k).ray ∧ Fc i (stC G A k).idx ∧ Fc p (stC G A k).path ∧ ∀ j, j < k → Rc (R j) (rayAt G A j)) ∧ (Blk wr (w.heap.size) #[.float .f64 (aa 0), .float .f64 (aa 1), .float .f64 (aa 2), .float .f64 (aa 3), .float .f64 (aa 4), .float .f64 (aa 5)] 33 ∧ Blk wr (w.heap.size + 1) #[.int .i64 0, .int .i64 0, .float .f64 0, .slice none 0 0] 29 ∧ Blk wr (v1.heap.size + 1) #[.int .i64 0, .int .i64 0, .float .f64 p, V] 29) ∧ OwT v1.heap.size wr V k R ∧ Below w.heap.size w wr)) (fun s6 s7 _ => n - (intOf s7).toNat)
    case atStart => exact ⟨0, _, _, _, _, fun _ _ => 0, Nat.zero_le _, rfl, rfl, ⟨fun i hi => absurd hi (Nat.not_lt_zero _), H.out.1, fc_one, fc_zero, fun j hj => absurd hj (Nat.not_lt_zero _)⟩, ⟨B_a.out, B_res.out, B_o.out⟩, HW0.out, HO.out⟩
    case round =>
      clear HO B_a B_res B_o HW0
      obtain ⟨k, i, p, aa, V, R, hk, rfl, rfl, HH⟩ := hrel
      have B_a : Hid (Blk wr (w.heap.size) #[.float .f64 (aa 0), .float .f64 (aa 1), .float .f64 (aa 2), .float .f64 (aa 3), .float .f64 (aa 4), .float .f64 (aa 5)] 33) := HH.out.2.1.1
      have B_res : Hid (Blk wr (w.heap.size + 1) #[.int .i64 0, .int .i64 0, .float .f64 0, .slice none 0 0] 29) := HH.out.2.1.2.1
      have B_o : Hid (Blk wr (v1.heap.size + 1) #[.int .i64 0, .int .i64 0, .float .f64 p, V] 29) := HH.out.2.1.2.2
      have HO : Hid (Below w.heap.size w wr) := HH.out.2.2.2
      have HW : Hid (OwT v1.heap.size wr V k R) := HH.out.2.2.1
      have HS : Hid (Clear G A k ∧ Rc aa (stC G A k).ray ∧ Fc i (stC G A k).idx ∧ Fc p (stC G A k).path ∧ ∀ j, j < k → Rc (R j) (rayAt G A j)) := HH.out.1
      clear HH
      by_cases hkn : k < n
      case neg =>
        obtain rfl : k = n := by omega
        obtain ⟨ao, cp, rfl⟩ := HW.out.form
        go_upto_region 18 with fail
        have hOw : Hid (OwR (wr.setRow (w.heap.size + 1) #[.int .i64 0, .int .i64 0, .float .f64 p, .slice ao k cp]) w.heap.size (.slice ao k cp) k R) := HW.out.res HLb.out (HW.out.low low2_res.out)
        have o_0 := B_o.out.cell (j := 0) rfl
        have o_1 := B_o.out.cell (j := 1) rfl
        have o_2 := B_o.out.cell (j := 2) rfl
        have o_3 := B_o.out.cell (j := 3) rfl
        have o_f := B_o.out.frozen
        have o_z := B_o.out.lt
        skip
        repeat (first | (refine wpList_store_row rfl 29 _ _ rfl (w.heap.size + 1) #[.int .i64 0, .int .i64 0, .float .f64 p, .slice ao k cp] rfl rfl 29 #[.int .i64 0, .int .i64 0, .float .f64 0, .slice none 0 0] B_res.out (by kernel_rfl) rfl (by simp [Value.oneCell']) ?_) | go_step)
        refine bodyPost_ret (res_blk Try.results8 rfl (run_loadVar_row (P := Try.prog) _ _ 29 29 #[.int .i64 0, .int .i64 0, .float .f64 p, .slice ao k cp] (0, 0) _ (Blk.setRow B_res.out) Try.underlying29 rfl (by kernel_rfl))) rfl ⟨⟨0, 0, (stC G A k).path, k⟩, p, .slice ao k cp, R, rfl, ⟨Or.inr (Or.inl ⟨hm2, HS.out.1, rfl⟩), HS.out.2.2.2.1, hOw.out, HS.out.2.2.2.2⟩, ?_⟩
        exact below_setRow HO.out low_res.out _
      case pos =>
        have hkI : (k : Int) < n := by omega
        have f0 : wr.cell? ⟨b, off + k * 5, none⟩ = some (.float .f64 (F k 0)) := (HO.out.cell (World.block_lt_of_cell? _ _ (H.out.2.2 k hkn 0 (by omega)))).trans (H.out.2.2 k hkn 0 (by omega))
        have f1 : wr.cell? ⟨b, off + k * 5 + 1, none⟩ = some (.float .f64 (F k 1)) := (HO.out.cell (World.block_lt_of_cell? _ _ (H.out.2.2 k hkn 1 (by omega)))).trans (H.out.2.2 k hkn 1 (by omega))
        have f2 : wr.cell? ⟨b, off + k * 5 + 2, none⟩ = some (.float .f64 (F k 2)) := (HO.out.cell (World.block_lt_of_cell? _ _ (H.out.2.2 k hkn 2 (by omega)))).trans (H.out.2.2 k hkn 2 (by omega))
        have f3 : wr.cell? ⟨b, off + k * 5 + 3, none⟩ = some (.float .f64 (F k 3)) := (HO.out.cell (World.block_lt_of_cell? _ _ (H.out.2.2 k hkn 3 (by omega)))).trans (H.out.2.2 k hkn 3 (by omega))
        have f4 : wr.cell? ⟨b, off + k * 5 + 4, none⟩ = some (.float .f64 (F k 4)) := (HO.out.cell (World.block_lt_of_cell? _ _ (H.out.2.2 k hkn 4 (by omega)))).trans (H.out.2.2 k hkn 4 (by omega))
        go_upto_region 8 with fail
        clear f0 f1 f2 f3 f4
        obtain ⟨v3, hv⟩ : ∃ Xw, Xw = (wr.alloc (.cells #[.float .f64 (F k 0), .float .f64 (F k 1), .float .f64 (F k 2), .float .f64 (F k 3), .float .f64 (F k 4)] 41)) := ⟨_, rfl⟩
        rw [← hv]
        replace HW : Hid (OwT v1.heap.size v3 V k R) := by show OwT _ _ _ _ _; rw [hv]; exact HW.out.later (by go_grown)
        have ne_a_f : Hid (w.heap.size ≠ wr.heap.size) := Nat.ne_of_lt (Nat.lt_of_lt_of_le B_a.out.lt (by omega))
        have ne_res_f : Hid (w.heap.size + 1 ≠ wr.heap.size) := Nat.ne_of_lt (Nat.lt_of_lt_of_le B_res.out.lt (by omega))
        have ne_o_f : Hid (v1.heap.size + 1 ≠ wr.heap.size) := Nat.ne_of_lt (Nat.lt_of_lt_of_le B_o.out.lt (by omega))
        have B_f : Hid (Blk v3 (wr.heap.size) #[.float .f64 (F k 0), .float .f64 (F k 1), .float .f64 (F k 2), .float .f64 (F k 3), .float .f64 (F k 4)] 41) := by show Blk v3 (wr.heap.size) _ _; rw [hv]; exact (Blk.new (by simp))
        have low_f : Hid (w.heap.size ≤ wr.heap.size) := by show w.heap.size ≤ wr.heap.size; have := HO.out.size; omega
        replace B_a : Hid (Blk v3 (w.heap.size) #[.float .f64 (aa 0), .float .f64 (aa 1), .float .f64 (aa 2), .float .f64 (aa 3), .float .f64 (aa 4), .float .f64 (aa 5)] 33) := by show Blk v3 (w.heap.size) _ _; rw [hv]; exact (Blk.alloc B_a.out _)
        replace B_res : Hid (Blk v3 (w.heap.size + 1) #[.int .i64 0, .int .i64 0, .float .f64 0, .slice none 0 0] 29) := by show Blk v3 (w.heap.size + 1) _ _; rw [hv]; exact (Blk.alloc B_res.out _)
        replace B_o : Hid (Blk v3 (v1.heap.size + 1) #[.int .i64 0, .int .i64 0, .float .f64 p, V] 29) := by show Blk v3 (v1.heap.size + 1) _ _; rw [hv]; exact (Blk.alloc B_o.out _)
        replace HO : Hid (Below w.heap.size w v3) := by show Below w.heap.size w v3; rw [hv]; exact (below_new HO.out _)
        clear hv
        have f_0 := B_f.out.cell (j := 0) rfl
        have f_1 := B_f.out.cell (j := 1) rfl
        have f_2 := B_f.out.cell (j := 2) rfl
        have f_3 := B_f.out.cell (j := 3) rfl
        have f_4 := B_f.out.cell (j := 4) rfl
        have f_f := B_f.out.frozen
        have f_z := B_f.out.lt
        have a_0 := B_a.out.cell (j := 0) rfl
        have a_1 := B_a.out.cell (j := 1) rfl
        have a_2 := B_a.out.cell (j := 2) rfl
        have a_3 := B_a.out.cell (j := 3) rfl
        have a_4 := B_a.out.cell (j := 4) rfl
        have a_5 := B_a.out.cell (j := 5) rfl
        have a_f := B_a.out.frozen
        have a_z := B_a.out.lt
        go_wp2_with fail
        refine (iMeet_any (H.out.2.1 k hkn) HS.out.2.1 _).mono ?_
        rintro e v4 ⟨l, pa, pb, rfl, hh, hb⟩
        clear f_0 f_1 f_2 f_3 f_4 f_f f_z a_0 a_1 a_2 a_3 a_4 a_5 a_f a_z
        replace HW : Hid (OwT v1.heap.size v4 V k R) := HW.out.later hb
        replace B_a : Hid (Blk v4 (w.heap.size) #[.float .f64 (aa 0), .float .f64 (aa 1), .float .f64 (aa 2), .float .f64 (aa 3), .float .f64 (aa 4), .float .f64 (aa 5)] 33) := by show Blk v4 (w.heap.size) _ _; exact Blk.old B_a.out hb
        replace B_res : Hid (Blk v4 (w.heap.size + 1) #[.int .i64 0, .int .i64 0, .float .f64 0, .slice none 0 0] 29) := by show Blk v4 (w.heap.size + 1) _ _; exact Blk.old B_res.out hb
        replace B_o : Hid (Blk v4 (v1.heap.size + 1) #[.int .i64 0, .int .i64 0, .float .f64 p, V] 29) := by show Blk v4 (v1.heap.size + 1) _ _; exact Blk.old B_o.out hb
        replace B_f : Hid (Blk v4 (wr.heap.size) #[.float .f64 (F k 0), .float .f64 (F k 1), .float .f64 (F k 2), .float .f64 (F k 3), .float .f64 (F k 4)] 41) := by show Blk v4 (wr.heap.size) _ _; exact Blk.old B_f.out hb
        replace HO : Hid (Below w.heap.size w v4) := box_step HO.out hb (Nat.le_refl _)
        clear hb
        obtain ⟨oh, hoh⟩ : ∃ o, o = meetC (G k) (stC G A k).ray := ⟨_, rfl⟩
        rw [← hoh] at hh ⊢
        replace hoh : Hid (oh = meetC (G k) (stC G A k).ray) := hoh
        replace hh : Hid _ := hh
        go_upto_region 9 with fail
        obtain ⟨v5, hv⟩ : ∃ Xw, Xw = (v4.alloc (.cells #[.int .i64 (codeOf oh), .int .i64 (hOf oh).steps, .float .f64 l, .float .f64 (pa 0), .float .f64 (pa 1), .float .f64 (pa 2), .float .f64 (pa 3), .float .f64 (pa 4), .float .f64 (pa 5), .float .f64 (pb 0), .float .f64 (pb 1), .float .f64 (pb 2), .float .f64 (pb 3), .float .f64 (pb 4), .float .f64 (pb 5)] 43)) := ⟨_, rfl⟩
        rw [← hv]
        replace HW : Hid (OwT v1.heap.size v5 V k R) := by show OwT _ _ _ _ _; rw [hv]; exact HW.out.later (by go_grown)
        have ne_a_h : Hid (w.heap.size ≠ v4.heap.size) := Nat.ne_of_lt (Nat.lt_of_lt_of_le B_a.out.lt (by omega))
        have ne_res_h : Hid (w.heap.size + 1 ≠ v4.heap.size) := Nat.ne_of_lt (Nat.lt_of_lt_of_le B_res.out.lt (by omega))
        have ne_o_h : Hid (v1.heap.size + 1 ≠ v4.heap.size) := Nat.ne_of_lt (Nat.lt_of_lt_of_le B_o.out.lt (by omega))
        have ne_f_h : Hid (wr.heap.size ≠ v4.heap.size) := Nat.ne_of_lt (Nat.lt_of_lt_of_le B_f.out.lt (by omega))
        have B_h : Hid (Blk v5 (v4.heap.size) #[.int .i64 (codeOf oh), .int .i64 (hOf oh).steps, .float .f64 l, .float .f64 (pa 0), .float .f64 (pa 1), .float .f64 (pa 2), .float .f64 (pa 3), .float .f64 (pa 4), .float .f64 (pa 5), .float .f64 (pb 0), .float .f64 (pb 1), .float .f64 (pb 2), .float .f64 (pb 3), .float .f64 (pb 4), .float .f64 (pb 5)] 43) := by show Blk v5 (v4.heap.size) _ _; rw [hv]; exact (Blk.new (by simp))
        have low_h : Hid (w.heap.size ≤ v4.heap.size) := by show w.heap.size ≤ v4.heap.size; have := HO.out.size; omega
        replace B_a : Hid (Blk v5 (w.heap.size) #[.float .f64 (aa 0), .float .f64 (aa 1), .float .f64 (aa 2), .float .f64 (aa 3), .float .f64 (aa 4), .float .f64 (aa 5)] 33) := by show Blk v5 (w.heap.size) _ _; rw [hv]; exact (Blk.alloc B_a.out _)
        replace B_res : Hid (Blk v5 (w.heap.size + 1) #[.int .i64 0, .int .i64 0, .float .f64 0, .slice none 0 0] 29) := by show Blk v5 (w.heap.size + 1) _ _; rw [hv]; exact (Blk.alloc B_res.out _)
        replace B_o : Hid (Blk v5 (v1.heap.size + 1) #[.int .i64 0, .int .i64 0, .float .f64 p, V] 29) := by show Blk v5 (v1.heap.size + 1) _ _; rw [hv]; exact (Blk.alloc B_o.out _)
        replace B_f : Hid (Blk v5 (wr.heap.size) #[.float .f64 (F k 0), .float .f64 (F k 1), .float .f64 (F k 2), .float .f64 (F k 3), .float .f64 (F k 4)] 41) := by show Blk v5 (wr.heap.size) _ _; rw [hv]; exact (Blk.alloc B_f.out _)
        replace HO : Hid (Below w.heap.size w v5) := by show Below w.heap.size w v5; rw [hv]; exact (below_new HO.out _)
        clear hv
        have f_0 := B_f.out.cell (j := 0) rfl
        have f_1 := B_f.out.cell (j := 1) rfl
        have f_2 := B_f.out.cell (j := 2) rfl
        have f_3 := B_f.out.cell (j := 3) rfl
        have f_4 := B_f.out.cell (j := 4) rfl
        have f_f := B_f.out.frozen
        have f_z := B_f.out.lt
        have h_0 := B_h.out.cell (j := 0) rfl
        have h_1 := B_h.out.cell (j := 1) rfl
        have h_2 := B_h.out.cell (j := 2) rfl
        have h_3 := B_h.out.cell (j := 3) rfl
        have h_4 := B_h.out.cell (j := 4) rfl
        have h_5 := B_h.out.cell (j := 5) rfl
        have h_6 := B_h.out.cell (j := 6) rfl
        have h_7 := B_h.out.cell (j := 7) rfl
        have h_8 := B_h.out.cell (j := 8) rfl
        have h_9 := B_h.out.cell (j := 9) rfl
        have h_10 := B_h.out.cell (j := 10) rfl
        have h_11 := B_h.out.cell (j := 11) rfl
        have h_12 := B_h.out.cell (j := 12) rfl
        have h_13 := B_h.out.cell (j := 13) rfl
        have h_14 := B_h.out.cell (j := 14) rfl
        have h_f := B_h.out.frozen
        have h_z := B_h.out.lt
        go_wp2_with fail
        refine (iPass_any oh (H.out.2.1 k hkn) hh.out HS.out.2.2.1 _).mono ?_
        rintro e v6 ⟨r, rfl, hr, hb⟩
        clear f_0 f_1 f_2 f_3 f_4 f_f f_z h_0 h_1 h_2 h_3 h_4 h_5 h_6 h_7 h_8 h_9 h_10 h_11 h_12 h_13 h_14 h_f h_z
        replace HW : Hid (OwT v1.heap.size v6 V k R) := HW.out.later hb
        replace B_a : Hid (Blk v6 (w.heap.size) #[.float .f64 (aa 0), .float .f64 (aa 1), .float .f64 (aa 2), .float .f64 (aa 3), .float .f64 (aa 4), .float .f64 (aa 5)] 33) := by show Blk v6 (w.heap.size) _ _; exact Blk.old B_a.out hb
        replace B_res : Hid (Blk v6 (w.heap.size + 1) #[.int .i64 0, .int .i64 0, .float .f64 0, .slice none 0 0] 29) := by show Blk v6 (w.heap.size + 1) _ _; exact Blk.old B_res.out hb
        replace B_o : Hid (Blk v6 (v1.heap.size + 1) #[.int .i64 0, .int .i64 0, .float .f64 p, V] 29) := by show Blk v6 (v1.heap.size + 1) _ _; exact Blk.old B_o.out hb
        replace B_f : Hid (Blk v6 (wr.heap.size) #[.float .f64 (F k 0), .float .f64 (F k 1), .float .f64 (F k 2), .float .f64 (F k 3), .float .f64 (F k 4)] 41) := by show Blk v6 (wr.heap.size) _ _; exact Blk.old B_f.out hb
        replace B_h : Hid (Blk v6 (v4.heap.size) #[.int .i64 (codeOf oh), .int .i64 (hOf oh).steps, .float .f64 l, .float .f64 (pa 0), .float .f64 (pa 1), .float .f64 (pa 2), .float .f64 (pa 3), .float .f64 (pa 4), .float .f64 (pa 5), .float .f64 (pb 0), .float .f64 (pb 1), .float .f64 (pb 2), .float .f64 (pb 3), .float .f64 (pb 4), .float .f64 (pb 5)] 43) := by show Blk v6 (v4.heap.size) _ _; exact Blk.old B_h.out hb
        replace HO : Hid (Below w.heap.size w v6) := box_step HO.out hb (Nat.le_refl _)
        clear hb
        obtain ⟨pc, hpc⟩ : ∃ c, c = (passC (G k) oh (stC G A k).idx).1 := ⟨_, rfl⟩
        rw [← hpc]
        have hcode : Hid (codeAt G A k = pc) := by show codeAt G A k = pc; unfold codeAt; rw [← hoh.out, hpc]
        have hray : Hid (Rc r (rayAt G A k)) := by show Rc r (rayAt G A k); unfold rayAt; rw [← hoh.out]; exact hr
        clear hpc hr
        go_upto_region 10 with fail
        obtain ⟨v7, hv⟩ : ∃ Xw, Xw = (v6.alloc (.cells #[.int .i64 pc, .float .f64 (r 0), .float .f64 (r 1), .float .f64 (r 2), .float .f64 (r 3), .float .f64 (r 4), .float .f64 (r 5)] 46)) := ⟨_, rfl⟩
        rw [← hv]
        replace HW : Hid (OwT v1.heap.size v7 V k R) := by show OwT _ _ _ _ _; rw [hv]; exact HW.out.later (by go_grown)
        have ne_a_q : Hid (w.heap.size ≠ v6.heap.size) := Nat.ne_of_lt (Nat.lt_of_lt_of_le B_a.out.lt (by omega))
        have ne_res_q : Hid (w.heap.size + 1 ≠ v6.heap.size) := Nat.ne_of_lt (Nat.lt_of_lt_of_le B_res.out.lt (by omega))
        have ne_o_q : Hid (v1.heap.size + 1 ≠ v6.heap.size) := Nat.ne_of_lt (Nat.lt_of_lt_of_le B_o.out.lt (by omega))
        have ne_f_q : Hid (wr.heap.size ≠ v6.heap.size) := Nat.ne_of_lt (Nat.lt_of_lt_of_le B_f.out.lt (by omega))
        have ne_h_q : Hid (v4.heap.size ≠ v6.heap.size) := Nat.ne_of_lt (Nat.lt_of_lt_of_le B_h.out.lt (by omega))
        have B_q : Hid (Blk v7 (v6.heap.size) #[.int .i64 pc, .float .f64 (r 0), .float .f64 (r 1), .float .f64 (r 2), .float .f64 (r 3), .float .f64 (r 4), .float .f64 (r 5)] 46) := by show Blk v7 (v6.heap.size) _ _; rw [hv]; exact (Blk.new (by simp))
        have low_q : Hid (w.heap.size ≤ v6.heap.size) := by show w.heap.size ≤ v6.heap.size; have := HO.out.size; omega
        replace B_a : Hid (Blk v7 (w.heap.size) #[.float .f64 (aa 0), .float .f64 (aa 1), .float .f64 (aa 2), .float .f64 (aa 3), .float .f64 (aa 4), .float .f64 (aa 5)] 33) := by show Blk v7 (w.heap.size) _ _; rw [hv]; exact (Blk.alloc B_a.out _)
        replace B_res : Hid (Blk v7 (w.heap.size + 1) #[.int .i64 0, .int .i64 0, .float .f64 0, .slice none 0 0] 29) := by show Blk v7 (w.heap.size + 1) _ _; rw [hv]; exact (Blk.alloc B_res.out _)
        replace B_o : Hid (Blk v7 (v1.heap.size + 1) #[.int .i64 0, .int .i64 0, .float .f64 p, V] 29) := by show Blk v7 (v1.heap.size + 1) _ _; rw [hv]; exact (Blk.alloc B_o.out _)
        replace B_f : Hid (Blk v7 (wr.heap.size) #[.float .f64 (F k 0), .float .f64 (F k 1), .float .f64 (F k 2), .float .f64 (F k 3), .float .f64 (F k 4)] 41) := by show Blk v7 (wr.heap.size) _ _; rw [hv]; exact (Blk.alloc B_f.out _)
        replace B_h : Hid (Blk v7 (v4.heap.size) #[.int .i64 (codeOf oh), .int .i64 (hOf oh).steps, .float .f64 l, .float .f64 (pa 0), .float .f64 (pa 1), .float .f64 (pa 2), .float .f64 (pa 3), .float .f64 (pa 4), .float .f64 (pa 5), .float .f64 (pb 0), .float .f64 (pb 1), .float .f64 (pb 2), .float .f64 (pb 3), .float .f64 (pb 4), .float .f64 (pb 5)] 43) := by show Blk v7 (v4.heap.size) _ _; rw [hv]; exact (Blk.alloc B_h.out _)
        replace HO : Hid (Below w.heap.size w v7) := by show Below w.heap.size w v7; rw [hv]; exact (below_new HO.out _)
        clear hv
        by_cases hpc : pc = 0
        case neg =>
          have hpb : (pc != 0) = true := by simpa using hpc
          have q_0 := B_q.out.cell (j := 0) rfl
          have q_1 := B_q.out.cell (j := 1) rfl
          have q_2 := B_q.out.cell (j := 2) rfl
          have q_3 := B_q.out.cell (j := 3) rfl
          have q_4 := B_q.out.cell (j := 4) rfl
          have q_5 := B_q.out.cell (j := 5) rfl
          have q_6 := B_q.out.cell (j := 6) rfl
          have q_f := B_q.out.frozen
          have q_z := B_q.out.lt
          go_upto_region 11 with fail
          clear q_0 q_1 q_2 q_3 q_4 q_5 q_6 q_f q_z
          have q_0 := B_q.out.cell (j := 0) rfl
          have q_1 := B_q.out.cell (j := 1) rfl
          have q_2 := B_q.out.cell (j := 2) rfl
          have q_3 := B_q.out.cell (j := 3) rfl
          have q_4 := B_q.out.cell (j := 4) rfl
          have q_5 := B_q.out.cell (j := 5) rfl
          have q_6 := B_q.out.cell (j := 6) rfl
          have q_f := B_q.out.frozen
          have q_z := B_q.out.lt
          skip
          repeat (first | (refine wpList_store_row rfl 29 _ _ rfl (w.heap.size + 1) #[.int .i64 pc, .int .i64 k, .float .f64 0, .slice none 0 0] rfl rfl 29 #[.int .i64 0, .int .i64 0, .float .f64 0, .slice none 0 0] B_res.out (by kernel_rfl) rfl (by simp [Value.oneCell']) ?_) | go_step)
          refine bodyPost_ret (res_blk Try.results8 rfl (run_loadVar_row (P := Try.prog) _ _ 29 29 #[.int .i64 pc, .int .i64 k, .float .f64 0, .slice none 0 0] (0, 0) _ (Blk.setRow B_res.out) Try.underlying29 rfl (by kernel_rfl))) rfl ⟨⟨pc, k, zO, 0⟩, _, _, (fun _ _ => 0), rfl, ⟨Or.inr (Or.inr ⟨hm2, k, hkn, HS.out.1, by rw [hcode.out]; exact hpc, by rw [hcode.out]⟩), fc_zero, Or.inl ⟨rfl, none, 0, rfl⟩, fun i hi => absurd hi (Nat.not_lt_zero _)⟩, ?_⟩
          exact below_setRow HO.out low_res.out _
        case pos =>
          subst hpc
          have q_0 := B_q.out.cell (j := 0) rfl
          have q_1 := B_q.out.cell (j := 1) rfl
          have q_2 := B_q.out.cell (j := 2) rfl
          have q_3 := B_q.out.cell (j := 3) rfl
          have q_4 := B_q.out.cell (j := 4) rfl
          have q_5 := B_q.out.cell (j := 5) rfl
          have q_6 := B_q.out.cell (j := 6) rfl
          have q_f := B_q.out.frozen
          have q_z := B_q.out.lt
          go_upto_region 12 with fail
          clear q_0 q_1 q_2 q_3 q_4 q_5 q_6 q_f q_z
          obtain ⟨s8, q8, h8, F8⟩ := flop .mul (by simp) (HS.out.2.2.1) (hh.out.l) v7
          replace F8 : Hid _ := F8
          obtain ⟨s9, q9, h9, F9⟩ := flop .add (by simp) (HS.out.2.2.2.1) (F8.out) (v7.drewN (q8))
          replace F9 : Hid _ := F9
          have o_0 := B_o.out.cell (j := 0) rfl
          have o_1 := B_o.out.cell (j := 1) rfl
          have o_2 := B_o.out.cell (j := 2) rfl
          have o_3 := B_o.out.cell (j := 3) rfl
          have o_f := B_o.out.frozen
          have o_z := B_o.out.lt
          have h_0 := B_h.out.cell (j := 0) rfl
          have h_1 := B_h.out.cell (j := 1) rfl
          have h_2 := B_h.out.cell (j := 2) rfl
          have h_3 := B_h.out.cell (j := 3) rfl
          have h_4 := B_h.out.cell (j := 4) rfl
          have h_5 := B_h.out.cell (j := 5) rfl
          have h_6 := B_h.out.cell (j := 6) rfl
          have h_7 := B_h.out.cell (j := 7) rfl
          have h_8 := B_h.out.cell (j := 8) rfl
          have h_9 := B_h.out.cell (j := 9) rfl
          have h_10 := B_h.out.cell (j := 10) rfl
          have h_11 := B_h.out.cell (j := 11) rfl
          have h_12 := B_h.out.cell (j := 12) rfl
          have h_13 := B_h.out.cell (j := 13) rfl
          have h_14 := B_h.out.cell (j := 14) rfl
          have h_f := B_h.out.frozen
          have h_z := B_h.out.lt
          go_upto_region 13 with fail
          clear o_0 o_1 o_2 o_3 o_f o_z h_0 h_1 h_2 h_3 h_4 h_5 h_6 h_7 h_8 h_9 h_10 h_11 h_12 h_13 h_14 h_f h_z
          obtain ⟨v10, hv⟩ : ∃ Xw, Xw = ((v7.drewN (q8 + q9)).setCell ⟨v1.heap.size + 1, 2, none⟩ (.float .f64 s9)) := ⟨_, rfl⟩
          rw [← hv]
          clear h8 h9
          replace HW : Hid (OwT v1.heap.size v10 V k R) := by show OwT _ _ _ _ _; rw [hv]; exact ((HW.out.drewN _).set (HW.out.ne B_o.out (by decide)) _)
          replace B_a : Hid (Blk v10 (w.heap.size) #[.float .f64 (aa 0), .float .f64 (aa 1), .float .f64 (aa 2), .float .f64 (aa 3), .float .f64 (aa 4), .float .f64 (aa 5)] 33) := by show Blk v10 (w.heap.size) _ _; rw [hv]; exact (Blk.setOther (Blk.drewN B_a.out _) ne_a_o.out _)
          replace B_res : Hid (Blk v10 (w.heap.size + 1) #[.int .i64 0, .int .i64 0, .float .f64 0, .slice none 0 0] 29) := by show Blk v10 (w.heap.size + 1) _ _; rw [hv]; exact (Blk.setOther (Blk.drewN B_res.out _) ne_res_o.out _)
          replace B_o : Hid (Blk v10 (v1.heap.size + 1) #[.int .i64 0, .int .i64 0, .float .f64 s9, V] 29) := by show Blk v10 (v1.heap.size + 1) _ _; rw [hv]; exact (Blk.set (Blk.drewN B_o.out _) _ _ rfl)
          replace B_f : Hid (Blk v10 (wr.heap.size) #[.float .f64 (F k 0), .float .f64 (F k 1), .float .f64 (F k 2), .float .f64 (F k 3), .float .f64 (F k 4)] 41) := by show Blk v10 (wr.heap.size) _ _; rw [hv]; exact (Blk.setOther (Blk.drewN B_f.out _) (Ne.symm ne_o_f.out) _)
          replace B_h : Hid (Blk v10 (v4.heap.size) #[.int .i64 (codeOf oh), .int .i64 (hOf oh).steps, .float .f64 l, .float .f64 (pa 0), .float .f64 (pa 1), .float .f64 (pa 2), .float .f64 (pa 3), .float .f64 (pa 4), .float .f64 (pa 5), .float .f64 (pb 0), .float .f64 (pb 1), .float .f64 (pb 2), .float .f64 (pb 3), .float .f64 (pb 4), .float .f64 (pb 5)] 43) := by show Blk v10 (v4.heap.size) _ _; rw [hv]; exact (Blk.setOther (Blk.drewN B_h.out _) (Ne.symm ne_o_h.out) _)
          replace B_q : Hid (Blk v10 (v6.heap.size) #[.int .i64 0, .float .f64 (r 0), .float .f64 (r 1), .float .f64 (r 2), .float .f64 (r 3), .float .f64 (r 4), .float .f64 (r 5)] 46) := by show Blk v10 (v6.heap.size) _ _; rw [hv]; exact (Blk.setOther (Blk.drewN B_q.out _) (Ne.symm ne_o_q.out) _)
          replace HO : Hid (Below w.heap.size w v10) := by show Below w.heap.size w v10; rw [hv]; exact (Below.setCell (below_drewN HO.out _) low_o.out _)
          clear hv
          have o_0 := B_o.out.cell (j := 0) rfl
          have o_1 := B_o.out.cell (j := 1) rfl
          have o_2 := B_o.out.cell (j := 2) rfl
          have o_3 := B_o.out.cell (j := 3) rfl
          have o_f := B_o.out.frozen
          have o_z := B_o.out.lt
          have q_0 := B_q.out.cell (j := 0) rfl
          have q_1 := B_q.out.cell (j := 1) rfl
          have q_2 := B_q.out.cell (j := 2) rfl
          have q_3 := B_q.out.cell (j := 3) rfl
          have q_4 := B_q.out.cell (j := 4) rfl
          have q_5 := B_q.out.cell (j := 5) rfl
          have q_6 := B_q.out.cell (j := 6) rfl
          have q_f := B_q.out.frozen
          have q_z := B_q.out.lt
          have hz13 : Hid (v1.heap.size ≤ v10.heap.size) := HW.out.2
          go_upto_region 14 with (first | (at_builtin; refine push_law rfl (.tmp 49) (.tmp 52) 27 rfl 33 (.agg #[.float .f64 0, .float .f64 0, .float .f64 0, .float .f64 0, .float .f64 0, .float .f64 0]) 6 48 Try.underlying27 info27 rfl (by decide) (by decide) v10 [.float .f64 (r 0), .float .f64 (r 1), .float .f64 (r 2), .float .f64 (r 3), .float .f64 (r 4), .float .f64 (r 5)] rfl (by intro u hu; simp at hu; rcases hu with rfl | rfl | rfl | rfl | rfl | rfl <;> rfl) _ V k _ rfl HW.out.1 1 rfl (by omega) hz13.out ?_; intro l1 x3 own3 grow3 ne3; obtain ⟨ao1, cp1, rfl⟩ := own_form own3; clear ne3; have G_a : Hid (Blk x3 (w.heap.size) #[.float .f64 (aa 0), .float .f64 (aa 1), .float .f64 (aa 2), .float .f64 (aa 3), .float .f64 (aa 4), .float .f64 (aa 5)] 33) := Blk.grown (Blk.alloc B_a.out _) grow3 (fun e => HW.out.low low2_a.out e.symm); have G_res : Hid (Blk x3 (w.heap.size + 1) #[.int .i64 0, .int .i64 0, .float .f64 0, .slice none 0 0] 29) := Blk.grown (Blk.alloc B_res.out _) grow3 (fun e => HW.out.low low2_res.out e.symm); have G_o : Hid (Blk x3 (v1.heap.size + 1) #[.int .i64 0, .int .i64 0, .float .f64 s9, V] 29) := Blk.grown (Blk.alloc B_o.out _) grow3 (fun e => HW.out.ne B_o.out (by decide) e.symm); have G_f : Hid (Blk x3 (wr.heap.size) #[.float .f64 (F k 0), .float .f64 (F k 1), .float .f64 (F k 2), .float .f64 (F k 3), .float .f64 (F k 4)] 41) := Blk.grown (Blk.alloc B_f.out _) grow3 (fun e => HW.out.ne B_f.out (by decide) e.symm); have G_h : Hid (Blk x3 (v4.heap.size) #[.int .i64 (codeOf oh), .int .i64 (hOf oh).steps, .float .f64 l, .float .f64 (pa 0), .float .f64 (pa 1), .float .f64 (pa 2), .float .f64 (pa 3), .float .f64 (pa 4), .float .f64 (pa 5), .float .f64 (pb 0), .float .f64 (pb 1), .float .f64 (pb 2), .float .f64 (pb 3), .float .f64 (pb 4), .float .f64 (pb 5)] 43) := Blk.grown (Blk.alloc B_h.out _) grow3 (fun e => HW.out.ne B_h.out (by decide) e.symm); have G_q : Hid (Blk x3 (v6.heap.size) #[.int .i64 0, .float .f64 (r 0), .float .f64 (r 1), .float .f64 (r 2), .float .f64 (r 3), .float .f64 (r 4), .float .f64 (r 5)] 46) := Blk.grown (Blk.alloc B_q.out _) grow3 (fun e => HW.out.ne B_q.out (by decide) e.symm); have g0 := G_o.out.cell (j := 0) rfl; have g1 := G_o.out.cell (j := 1) rfl; have g2 := G_o.out.cell (j := 2) rfl; have g3 := G_o.out.cell (j := 3) rfl; have gf := G_o.out.frozen; have gz := G_o.out.lt))
          clear o_0 o_1 o_2 o_3 o_f o_z q_0 q_1 q_2 q_3 q_4 q_5 q_6 q_f q_z g0 g1 g2 g3 gf gz hz13
          have HW3 : Hid (OwT v1.heap.size x3 (.slice ao1 (k + 1) cp1) (k + 1) (addQ R k r)) := HW.out.push own3 grow3
          replace HO : Hid (Below w.heap.size w x3) := HO.out.trans ((push_below HW.out.1 grow3 (Below.refl _ _) HW.out.2).mono HLb.out)
          clear own3 grow3 HW
          replace B_a := G_a
          replace B_res := G_res
          replace B_o := G_o
          replace B_f := G_f
          replace B_h := G_h
          replace B_q := G_q
          clear G_a G_res G_o G_f G_h G_q
          have HW := HW3
          clear HW3
          obtain ⟨v11, hv⟩ : ∃ Xw, Xw = (x3.setCell ⟨v1.heap.size + 1, 3, none⟩ (.slice ao1 (k + 1) cp1)) := ⟨_, rfl⟩
          rw [← hv]
          replace HW : Hid (OwT v1.heap.size v11 (.slice ao1 (k + 1) cp1) (k + 1) (addQ R k r)) := by show OwT _ _ _ _ _; rw [hv]; exact (HW.out.set (HW.out.ne B_o.out (by decide)) _)
          replace B_a : Hid (Blk v11 (w.heap.size) #[.float .f64 (aa 0), .float .f64 (aa 1), .float .f64 (aa 2), .float .f64 (aa 3), .float .f64 (aa 4), .float .f64 (aa 5)] 33) := by show Blk v11 (w.heap.size) _ _; rw [hv]; exact (Blk.setOther B_a.out ne_a_o.out _)
          replace B_res : Hid (Blk v11 (w.heap.size + 1) #[.int .i64 0, .int .i64 0, .float .f64 0, .slice none 0 0] 29) := by show Blk v11 (w.heap.size + 1) _ _; rw [hv]; exact (Blk.setOther B_res.out ne_res_o.out _)
          replace B_o : Hid (Blk v11 (v1.heap.size + 1) #[.int .i64 0, .int .i64 0, .float .f64 s9, .slice ao1 (k + 1) cp1] 29) := by show Blk v11 (v1.heap.size + 1) _ _; rw [hv]; exact (Blk.set B_o.out _ _ rfl)
          replace B_f : Hid (Blk v11 (wr.heap.size) #[.float .f64 (F k 0), .float .f64 (F k 1), .float .f64 (F k 2), .float .f64 (F k 3), .float .f64 (F k 4)] 41) := by show Blk v11 (wr.heap.size) _ _; rw [hv]; exact (Blk.setOther B_f.out (Ne.symm ne_o_f.out) _)
          replace B_h : Hid (Blk v11 (v4.heap.size) #[.int .i64 (codeOf oh), .int .i64 (hOf oh).steps, .float .f64 l, .float .f64 (pa 0), .float .f64 (pa 1), .float .f64 (pa 2), .float .f64 (pa 3), .float .f64 (pa 4), .float .f64 (pa 5), .float .f64 (pb 0), .float .f64 (pb 1), .float .f64 (pb 2), .float .f64 (pb 3), .float .f64 (pb 4), .float .f64 (pb 5)] 43) := by show Blk v11 (v4.heap.size) _ _; rw [hv]; exact (Blk.setOther B_h.out (Ne.symm ne_o_h.out) _)
          replace B_q : Hid (Blk v11 (v6.heap.size) #[.int .i64 0, .float .f64 (r 0), .float .f64 (r 1), .float .f64 (r 2), .float .f64 (r 3), .float .f64 (r 4), .float .f64 (r 5)] 46) := by show Blk v11 (v6.heap.size) _ _; rw [hv]; exact (Blk.setOther B_q.out (Ne.symm ne_o_q.out) _)
          replace HO : Hid (Below w.heap.size w v11) := by show Below w.heap.size w v11; rw [hv]; exact (Below.setCell HO.out low_o.out _)
          clear hv
          have q_0 := B_q.out.cell (j := 0) rfl
          have q_1 := B_q.out.cell (j := 1) rfl
          have q_2 := B_q.out.cell (j := 2) rfl
          have q_3 := B_q.out.cell (j := 3) rfl
          have q_4 := B_q.out.cell (j := 4) rfl
          have q_5 := B_q.out.cell (j := 5) rfl
          have q_6 := B_q.out.cell (j := 6) rfl
          have q_f := B_q.out.frozen
          have q_z := B_q.out.lt
          have a_0 := B_a.out.cell (j := 0) rfl
          have a_1 := B_a.out.cell (j := 1) rfl
          have a_2 := B_a.out.cell (j := 2) rfl
          have a_3 := B_a.out.cell (j := 3) rfl
          have a_4 := B_a.out.cell (j := 4) rfl
          have a_5 := B_a.out.cell (j := 5) rfl
          have a_f := B_a.out.frozen
          have a_z := B_a.out.lt
          go_upto_region 15 with fail
          clear q_0 q_1 q_2 q_3 q_4 q_5 q_6 q_f q_z a_0 a_1 a_2 a_3 a_4 a_5 a_f a_z
          obtain ⟨v12, hv⟩ : ∃ Xw, Xw = ((((((v11.setCell ⟨w.heap.size, 0, none⟩ (.float .f64 (r 0))).setCell ⟨w.heap.size, 1, none⟩ (.float .f64 (r 1))).setCell ⟨w.heap.size, 2, none⟩ (.float .f64 (r 2))).setCell ⟨w.heap.size, 3, none⟩ (.float .f64 (r 3))).setCell ⟨w.heap.size, 4, none⟩ (.float .f64 (r 4))).setCell ⟨w.heap.size, 5, none⟩ (.float .f64 (r 5))) := ⟨_, rfl⟩
          rw [← hv]
          replace HW : Hid (OwT v1.heap.size v12 (.slice ao1 (k + 1) cp1) (k + 1) (addQ R k r)) := by show OwT _ _ _ _ _; rw [hv]; exact ((((((HW.out.set (HW.out.low low2_a.out) _).set (HW.out.low low2_a.out) _).set (HW.out.low low2_a.out) _).set (HW.out.low low2_a.out) _).set (HW.out.low low2_a.out) _).set (HW.out.low low2_a.out) _)
          replace B_a : Hid (Blk v12 (w.heap.size) #[.float .f64 (r 0), .float .f64 (r 1), .float .f64 (r 2), .float .f64 (r 3), .float .f64 (r 4), .float .f64 (r 5)] 33) := by show Blk v12 (w.heap.size) _ _; rw [hv]; exact (Blk.set (Blk.set (Blk.set (Blk.set (Blk.set (Blk.set B_a.out _ _ rfl) _ _ rfl) _ _ rfl) _ _ rfl) _ _ rfl) _ _ rfl)
          replace B_res : Hid (Blk v12 (w.heap.size + 1) #[.int .i64 0, .int .i64 0, .float .f64 0, .slice none 0 0] 29) := by show Blk v12 (w.heap.size + 1) _ _; rw [hv]; exact (Blk.setOther (Blk.setOther (Blk.setOther (Blk.setOther (Blk.setOther (Blk.setOther B_res.out (Ne.symm ne_a_res.out) _) (Ne.symm ne_a_res.out) _) (Ne.symm ne_a_res.out) _) (Ne.symm ne_a_res.out) _) (Ne.symm ne_a_res.out) _) (Ne.symm ne_a_res.out) _)
          replace B_o : Hid (Blk v12 (v1.heap.size + 1) #[.int .i64 0, .int .i64 0, .float .f64 s9, .slice ao1 (k + 1) cp1] 29) := by show Blk v12 (v1.heap.size + 1) _ _; rw [hv]; exact (Blk.setOther (Blk.setOther (Blk.setOther (Blk.setOther (Blk.setOther (Blk.setOther B_o.out (Ne.symm ne_a_o.out) _) (Ne.symm ne_a_o.out) _) (Ne.symm ne_a_o.out) _) (Ne.symm ne_a_o.out) _) (Ne.symm ne_a_o.out) _) (Ne.symm ne_a_o.out) _)
          replace B_f : Hid (Blk v12 (wr.heap.size) #[.float .f64 (F k 0), .float .f64 (F k 1), .float .f64 (F k 2), .float .f64 (F k 3), .float .f64 (F k 4)] 41) := by show Blk v12 (wr.heap.size) _ _; rw [hv]; exact (Blk.setOther (Blk.setOther (Blk.setOther (Blk.setOther (Blk.setOther (Blk.setOther B_f.out (Ne.symm ne_a_f.out) _) (Ne.symm ne_a_f.out) _) (Ne.symm ne_a_f.out) _) (Ne.symm ne_a_f.out) _) (Ne.symm ne_a_f.out) _) (Ne.symm ne_a_f.out) _)
          replace B_h : Hid (Blk v12 (v4.heap.size) #[.int .i64 (codeOf oh), .int .i64 (hOf oh).steps, .float .f64 l, .float .f64 (pa 0), .float .f64 (pa 1), .float .f64 (pa 2), .float .f64 (pa 3), .float .f64 (pa 4), .float .f64 (pa 5), .float .f64 (pb 0), .float .f64 (pb 1), .float .f64 (pb 2), .float .f64 (pb 3), .float .f64 (pb 4), .float .f64 (pb 5)] 43) := by show Blk v12 (v4.heap.size) _ _; rw [hv]; exact (Blk.setOther (Blk.setOther (Blk.setOther (Blk.setOther (Blk.setOther (Blk.setOther B_h.out (Ne.symm ne_a_h.out) _) (Ne.symm ne_a_h.out) _) (Ne.symm ne_a_h.out) _) (Ne.symm ne_a_h.out) _) (Ne.symm ne_a_h.out) _) (Ne.symm ne_a_h.out) _)
          replace B_q : Hid (Blk v12 (v6.heap.size) #[.int .i64 0, .float .f64 (r 0), .float .f64 (r 1), .float .f64 (r 2), .float .f64 (r 3), .float .f64 (r 4), .float .f64 (r 5)] 46) := by show Blk v12 (v6.heap.size) _ _; rw [hv]; exact (Blk.setOther (Blk.setOther (Blk.setOther (Blk.setOther (Blk.setOther (Blk.setOther B_q.out (Ne.symm ne_a_q.out) _) (Ne.symm ne_a_q.out) _) (Ne.symm ne_a_q.out) _) (Ne.symm ne_a_q.out) _) (Ne.symm ne_a_q.out) _) (Ne.symm ne_a_q.out) _)
          replace HO : Hid (Below w.heap.size w v12) := by show Below w.heap.size w v12; rw [hv]; exact (Below.setCell (Below.setCell (Below.setCell (Below.setCell (Below.setCell (Below.setCell HO.out low_a.out _) low_a.out _) low_a.out _) low_a.out _) low_a.out _) low_a.out _)
          clear hv
          obtain ⟨s13, q13, h13, F13⟩ := flop .sub (by simp) ((hray.out.h 2 (by decide))) (((H.out.2.1 k hkn).h 2 (by decide))) v12
          replace F13 : Hid _ := F13
          have a_0 := B_a.out.cell (j := 0) rfl
          have a_1 := B_a.out.cell (j := 1) rfl
          have a_2 := B_a.out.cell (j := 2) rfl
          have a_3 := B_a.out.cell (j := 3) rfl
          have a_4 := B_a.out.cell (j := 4) rfl
          have a_5 := B_a.out.cell (j := 5) rfl
          have a_f := B_a.out.frozen
          have a_z := B_a.out.lt
          have f_0 := B_f.out.cell (j := 0) rfl
          have f_1 := B_f.out.cell (j := 1) rfl
          have f_2 := B_f.out.cell (j := 2) rfl
          have f_3 := B_f.out.cell (j := 3) rfl
          have f_4 := B_f.out.cell (j := 4) rfl
          have f_f := B_f.out.frozen
          have f_z := B_f.out.lt
          go_upto_region 16 with fail
          clear a_0 a_1 a_2 a_3 a_4 a_5 a_f a_z f_0 f_1 f_2 f_3 f_4 f_f f_z
          obtain ⟨v14, hv⟩ : ∃ Xw, Xw = ((v12.drewN (q13)).setCell ⟨w.heap.size, 2, none⟩ (.float .f64 s13)) := ⟨_, rfl⟩
          rw [← hv]
          clear h13
          replace HW : Hid (OwT v1.heap.size v14 (.slice ao1 (k + 1) cp1) (k + 1) (addQ R k r)) := by show OwT _ _ _ _ _; rw [hv]; exact ((HW.out.drewN _).set (HW.out.low low2_a.out) _)
          replace B_a : Hid (Blk v14 (w.heap.size) #[.float .f64 (r 0), .float .f64 (r 1), .float .f64 s13, .float .f64 (r 3), .float .f64 (r 4), .float .f64 (r 5)] 33) := by show Blk v14 (w.heap.size) _ _; rw [hv]; exact (Blk.set (Blk.drewN B_a.out _) _ _ rfl)
          replace B_res : Hid (Blk v14 (w.heap.size + 1) #[.int .i64 0, .int .i64 0, .float .f64 0, .slice none 0 0] 29) := by show Blk v14 (w.heap.size + 1) _ _; rw [hv]; exact (Blk.setOther (Blk.drewN B_res.out _) (Ne.symm ne_a_res.out) _)
          replace B_o : Hid (Blk v14 (v1.heap.size + 1) #[.int .i64 0, .int .i64 0, .float .f64 s9, .slice ao1 (k + 1) cp1] 29) := by show Blk v14 (v1.heap.size + 1) _ _; rw [hv]; exact (Blk.setOther (Blk.drewN B_o.out _) (Ne.symm ne_a_o.out) _)
          replace B_f : Hid (Blk v14 (wr.heap.size) #[.float .f64 (F k 0), .float .f64 (F k 1), .float .f64 (F k 2), .float .f64 (F k 3), .float .f64 (F k 4)] 41) := by show Blk v14 (wr.heap.size) _ _; rw [hv]; exact (Blk.setOther (Blk.drewN B_f.out _) (Ne.symm ne_a_f.out) _)
          replace B_h : Hid (Blk v14 (v4.heap.size) #[.int .i64 (codeOf oh), .int .i64 (hOf oh).steps, .float .f64 l, .float .f64 (pa 0), .float .f64 (pa 1), .float .f64 (pa 2), .float .f64 (pa 3), .float .f64 (pa 4), .float .f64 (pa 5), .float .f64 (pb 0), .float .f64 (pb 1), .float .f64 (pb 2), .float .f64 (pb 3), .float .f64 (pb 4), .float .f64 (pb 5)] 43) := by show Blk v14 (v4.heap.size) _ _; rw [hv]; exact (Blk.setOther (Blk.drewN B_h.out _) (Ne.symm ne_a_h.out) _)
          replace B_q : Hid (Blk v14 (v6.heap.size) #[.int .i64 0, .float .f64 (r 0), .float .f64 (r 1), .float .f64 (r 2), .float .f64 (r 3), .float .f64 (r 4), .float .f64 (r 5)] 46) := by show Blk v14 (v6.heap.size) _ _; rw [hv]; exact (Blk.setOther (Blk.drewN B_q.out _) (Ne.symm ne_a_q.out) _)
          replace HO : Hid (Below w.heap.size w v14) := by show Below w.heap.size w v14; rw [hv]; exact (Below.setCell (below_drewN HO.out _) low_a.out _)
          clear hv
          have f_0 := B_f.out.cell (j := 0) rfl
          have f_1 := B_f.out.cell (j := 1) rfl
          have f_2 := B_f.out.cell (j := 2) rfl
          have f_3 := B_f.out.cell (j := 3) rfl
          have f_4 := B_f.out.cell (j := 4) rfl
          have f_f := B_f.out.frozen
          have f_z := B_f.out.lt
          go_wp2_with fail
          clear f_0 f_1 f_2 f_3 f_4 f_f f_z
          have hra : Hid (Rc (r6 (r 0) (r 1) s13 (r 3) (r 4) (r 5)) (stC G A (k + 1)).ray) := by
            show Rc _ (afterC (G k) (passC (G k) (meetC (G k) (stC G A k).ray) (stC G A k).idx).2)
            exact rc_mk (hray.out.h 0 (by decide)) (hray.out.h 1 (by decide)) F13.out (hray.out.h 3 (by decide)) (hray.out.h 4 (by decide)) (hray.out.h 5 (by decide))
          have hpa : Hid (Fc s9 (stC G A (k + 1)).path) := by
            show Fc _ (opC .add (stC G A k).path (opC .mul (stC G A k).idx (hOf (meetC (G k) (stC G A k).ray)).len))
            rw [← hoh.out]; exact F9.out
          refine ⟨⟨k + 1, F k 3, s9, r6 (r 0) (r 1) s13 (r 3) (r 4) (r 5), .slice ao1 (k + 1) cp1, addQ R k r, by omega, rfl, by first | rfl | simp | (congr 1; omega), ⟨⟨clear_succ HS.out.1 hcode.out, hra.out, (H.out.2.1 k hkn).h 3 (by decide), hpa.out, rc_add HS.out.2.2.2.2 hray.out⟩, ⟨B_a.out, B_res.out, B_o.out⟩, HW.out, HO.out⟩⟩, by simp [intOf]; omega⟩
end Go.Proofs.Ytbcidfmfkmeinaa
